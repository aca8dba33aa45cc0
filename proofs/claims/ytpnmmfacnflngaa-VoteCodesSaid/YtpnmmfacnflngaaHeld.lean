/-
  A region that draws its order, carried out by hand, an operation a line: 'held_pure' (what yields in whatever world), 'held_load' (a load under S), 'held_one' (the only one that may come up: a call, a store), 'oper_store_is' (a value stored over a whole block).
-/
import Derived.Test.YtpnmmfacnflngaaNames
import Derived.Deep.RegionHeld3
import Derived.Deep.MidRow
namespace Go.Fl
open Go.ChangeShapes Go.WideShapes Go.ChangeAt Go.RowKit
variable {P : Program} {md : Region.Mode} {ops : Array Oper} {Q : Exit → Act → World → Prop} {S : World → Prop} {fuel : Nat} {listed : Array Bool} {a : Act} {w : World}

theorem held_pure (i d : Nat) (v : Value) {oi : Oper} (hi : ops[i]? = some oi) (hy : ∀ w', (execOp a.eval oi).run P w' = .ok (.value v) w') (hS : S w)
    (h : wpAnyH P md ops Q S fuel (listed.setIfInBounds i true) (a.put (some d) v) w) (hd : oi.dst = some d := by rfl)
    (h1 : Region.noSelect ops = true := by kernel_rfl) (h2 : Region.free md ops listed i = true := by kernel_rfl) (h3 : (Region.ready md ops listed).contains i = true := by kernel_rfl)
    (h4 : Region.wanted oi (yielded ops a.tmps) = true := by rfl) (h5 : ∀ c a w, Q (.panic c) (a.put (some d) v) w → Q (.panic c) a w := by exact fun _ _ _ h => h) :
    wpAnyH P md ops Q S (fuel + 1) listed a w :=
  wpAnyH_take hi h1 h2 h3 (by rw [hd]; exact h5) (Or.inl ⟨h4, fun w' _ => hy w'⟩) hS (by rw [hd]; exact h)

theorem held_load (i d : Nat) {oi : Oper} (hi : ops[i]? = some oi) (ty : TypeId) (x : Operand) (ho : oi.op = .load ty x) (b o : Nat) (hx : a.eval x = .pointer (some ⟨b, o, none⟩)) (cs : List Value) {td : TypeDesc} (hR : ∀ w, S w → w.rangeAt b o cs)
    (hu : P.underlying ty = some td) (hz : (P.info? ty).map (·.size) = some cs.length) (hS : S w)
    (h : wpAnyH P md ops Q S fuel (listed.setIfInBounds i true) (a.put (some d) (.agg cs.toArray)) w) (hrow : td.isRow = true := by rfl) (hd : oi.dst = some d := by rfl)
    (h1 : Region.noSelect ops = true := by kernel_rfl) (h2 : Region.free md ops listed i = true := by kernel_rfl) (h3 : (Region.ready md ops listed).contains i = true := by kernel_rfl)
    (h4 : Region.wanted oi (yielded ops a.tmps) = true := by rfl) (h5 : ∀ c a w, Q (.panic c) (a.put (some d) (.agg cs.toArray)) w → Q (.panic c) a w := by exact fun _ _ _ h => h) :
    wpAnyH P md ops Q S (fuel + 1) listed a w :=
  wpAnyH_take hi h1 h2 h3 (by rw [hd]; exact h5) (yieldsIf_load_mid h4 ty x ho b o hx cs td hR hu hrow hz) hS (by rw [hd]; exact h)

/-- An operation that yields in every world that meets S. -/
theorem held_if {P : Program} {md : Region.Mode} {ops : Array Oper} {Q : Exit → Act → World → Prop} {S : World → Prop} {fuel : Nat} {listed : Array Bool} {a : Act} {w : World} (i d : Nat) (v : Value) {oi : Oper} (hi : ops[i]? = some oi) (hy : ∀ w', S w' → (execOp a.eval oi).run P w' = .ok (.value v) w') (hS : S w)
    (h : wpAnyH P md ops Q S fuel (listed.setIfInBounds i true) (a.put (some d) v) w) (hd : oi.dst = some d := by rfl)
    (h1 : Region.noSelect ops = true := by kernel_rfl) (h2 : Region.free md ops listed i = true := by kernel_rfl) (h3 : (Region.ready md ops listed).contains i = true := by kernel_rfl)
    (h4 : Region.wanted oi (yielded ops a.tmps) = true := by rfl) (h5 : ∀ c a w, Q (.panic c) (a.put (some d) v) w → Q (.panic c) a w := by exact fun _ _ _ h => h) :
    wpAnyH P md ops Q S (fuel + 1) listed a w :=
  wpAnyH_take hi h1 h2 h3 (by rw [hd]; exact h5) (Or.inl ⟨h4, hy⟩) hS (by rw [hd]; exact h)

theorem held_one {i : Nat} {o : Oper} (hr : Region.ready md ops listed = [i]) (ho : ops[i]? = some o) (hw : Region.wanted o (yielded ops a.tmps) = true)
    (h : ∀ K' : Act → World → Prop, Shut (∀ a w, S w → (S w → wpAnyH P md ops Q S fuel (listed.setIfInBounds i true) a w) → K' a w) → Oper.wp P o a w K' Q) : wpAnyH P md ops Q S (fuel + 1) listed a w :=
  wpAnyH_ready hr (by simp) (AllReadyH.cons ho (fun K hK => by rw [if_pos hw]; exact h K hK) AllReadyH.nil)

/-- A value of as many cells is stored over a whole block. -/
theorem oper_store_is {o : Oper} {K : Act → World → Prop} (ty : TypeId) (x y : Operand) (ho : o.op = .store ty x y)
    (g : Nat) (t : TypeId) (olds cs : Array Value) (hx : a.eval x = .pointer (some ⟨g, 0, none⟩)) (hy : a.eval y = .agg cs) (hz : Is w g t olds) (hs : cs.size = olds.size) (hi : (P.info? ty).map (·.size) = some cs.size) (h1 : cs.all (·.oneCell') = true)
    (h : ∀ w', Is w' g t cs → Below g w w' → (∀ b, b ≠ g → w'.heap[b]? = w.heap[b]?) → K (a.put o.dst undef) w') : Oper.wp P o a w K Q := by
  have hst := run_storeCells_at (P := P) g 0 t cs.toList 0 olds w hz (by simp; omega) (fun v hv => (Array.all_eq_true_iff_forall_mem.1 h1) v (by simpa using hv))
  have e : (olds.toList.take (0 + 0) ++ cs.toList ++ olds.toList.drop (0 + 0 + cs.toList.length)).toArray = cs := by
    rw [List.drop_eq_nil_of_le (by simp; omega)]
    simp
  rw [e] at hst
  have hrun : (storeVar ty ⟨g, 0, none⟩ (.agg cs)).run P w = .ok () (w.setRow g cs) := by
    cases hq : P.info? ty with
    | none => simp [hq] at hi
    | some i =>
      have hs' : cs.size = i.size := by simp [hq] at hi; omega
      simp [storeVar, sizeOf, typeInfo, hq, Value.cells, hs', hst]
  unfold Oper.wp execOp
  simp only [ho, hx, hy, Instr.storeAt, Instr.sureAddr, Sem.run_bind, Sem.run_pure, Result.andThen_ok, hrun]
  exact h _ (setRow_heap w g _ _ t _ hz) (below_setRow (Below.refl _ _) (Nat.le_refl _) _) (fun b hb => setRow_other w g b cs hb)

/-- append of bytes onto bytes of the call's own. -/
theorem oper_append_ob {o : Oper} {K : Act → World → Prop} (s x : Operand) (t : TypeId)
    (ho : o.op = .call { callee := .builtin .append, args := #[s, x], argTypes := #[t, t] })
    (base : Nat) (e : TypeId) (i : TypeInfo) (ht : P.underlying t = some (.slice e)) (hi : P.info? e = some i) (hz : i.zero = some (.int .u8 0)) (hs : i.size = 1) (hb : i.bytes = 1)
    (v : Value) (l : List UInt8) (hv : a.eval s = v) (h : OB w base e v l) (n : Nat) (A : Option Addr) (k : List UInt8) (m c : Nat) (hx : a.eval x = .slice A m c) (hk : k.length = m) (hr : RB w n A k) (hm : l.length + k.length ≤ 160000000000000) (hbase : base ≤ w.heap.size)
    (hK : ∀ v' w', OB w' base e v' (l ++ k) → w.grownBy w' v.ownBlock → K (a.put o.dst v') w') : Oper.wp P o a w K Q := by
  subst hk
  obtain ⟨v', w', hrun, h2, h3, h4⟩ := run_append_ob (P := P) w base t o.type e i ht hi hz hs hb v l h n A k c hr hm hbase
  unfold Oper.wp
  simp [execOp, ho, resolve, invoke, builtin, hv, hx, hrun, Result.andThen]
  exact hK v' w' h2 h3

theorem range_is {g : Nat} {t : TypeId} {cs : List Value} (h : Is w g t cs.toArray) : w.rangeAt g 0 cs := fun i u hi => by
  rw [Nat.zero_add, h.cell i]
  simpa using hi
theorem range_keep {w' : World} {g o : Nat} {cs : List Value} (h : w.rangeAt g o cs) (hb : Below w.heap.size w w') (hg : g < w.heap.size) : w'.rangeAt g o cs := fun i u hi => (hb.cell hg).trans (h i u hi)

/-- Two results: one that lies in a block that is known whole, and a slot. -/
theorem ret_is_tmp {fn : Func} {R : Ending → World → Prop} {p u : Tmp} {ty : TypeId} (h : fn.results = #[.cell p ty, .tmp u]) (g : Nat) (t : TypeId) (cs : Array Value) {d : TypeDesc}
    (hp : a.tmps.getD p undef = .pointer (some ⟨g, 0, none⟩)) (hz : Is w g t cs) (hu : P.underlying ty = some d) (hd : (match d with | .struct _ | .array _ _ => true | _ => false) = true) (hi : (P.info? ty).map (·.size) = some cs.size)
    (hdf : a.defers = []) (hR : R (.returned (.tuple #[.agg cs, a.tmps.getD u undef])) w) : bodyPost P fn R .ret a w := by
  have hr : (results fn a.tmps).run P w = .ok (.tuple #[.agg cs, a.tmps.getD u undef]) w := by
    rw [results_cell_tmp h, hp]
    simp [asAddr, run_loadVar_row w g t ty cs (0, 0) d hz hu hd hi, Result.andThen]
  exact bodyPost_ret hr hdf hR
/-- The cells of a name, as a list. -/
abbrev nmR (x : BitVec 64) : List Value := [B (nb x 0), B (nb x 1), B (nb x 2), B (nb x 3), B (nb x 4), B (nb x 5), B (nb x 6), B (nb x 7)]
theorem rn_range {n : Nat} {g off i : Nat} {A : Option Addr} {l : List (BitVec 64)} {x : BitVec 64} (h : RN w n A l) (hA : A = some ⟨g, off, none⟩) (hi : l[i]? = some x) : w.rangeAt g (off + i * 8) (nmR x) := fun j u hj => by
  obtain ⟨g', off', e, _, hc⟩ := h.at_ hi
  rw [hA] at e
  injection e with e
  injection e with e1 e2
  subst e1 e2
  have hj8 : j < 8 := (List.getElem?_eq_some_iff.1 hj).1
  rw [hc j hj8]
  have : nmC x = (nmR x).toArray := rfl
  rw [this]
  simpa using hj

/-- A name stored over eight cells of a block that is known whole. -/
theorem wpList_store_at {rest : List Oper} {o : Oper} (hgd : o.guard = none) (ty : TypeId) (x y : Operand) (ho : o.op = .store ty x y)
    (g off : Nat) (t : TypeId) (olds cs : Array Value) (hx : a.eval x = .pointer (some ⟨g, off, none⟩)) (hy : a.eval y = .agg cs) (hz : Is w g t olds) (hfit : off + cs.size ≤ olds.size) (hi : (P.info? ty).map (·.size) = some cs.size) (h1 : cs.all (·.oneCell') = true)
    (h : ∀ w' cur, Is w' g t cur → cur.size = olds.size → Below g w w' → (∀ b, b ≠ g → w'.heap[b]? = w.heap[b]?) → wpList P ops Q rest (a.put o.dst undef) w') : wpList P ops Q (o :: rest) a w := by
  refine wpList_plain hgd fun K hK => ?_
  have hst := run_storeCells_at (P := P) g off t cs.toList 0 olds w hz (by simp; omega) (fun v hv => (Array.all_eq_true_iff_forall_mem.1 h1) v (by simpa using hv))
  have hrun : (storeVar ty ⟨g, off, none⟩ (.agg cs)).run P w = .ok () (w.setRow g (olds.toList.take (off + 0) ++ cs.toList ++ olds.toList.drop (off + 0 + cs.toList.length)).toArray) := by
    cases hq : P.info? ty with
    | none => simp [hq] at hi
    | some i =>
      have hs' : cs.size = i.size := by simp [hq] at hi; omega
      simp [storeVar, sizeOf, typeInfo, hq, Value.cells, hs', hst]
  unfold Oper.wp execOp
  simp only [ho, hx, hy, Instr.storeAt, Instr.sureAddr, Sem.run_bind, Sem.run_pure, Result.andThen_ok, hrun]
  refine hK _ _ (h _ _ (setRow_heap w g _ _ t _ hz) ?_ (below_setRow (Below.refl _ _) (Nat.le_refl _) _) (fun b hb => setRow_other w g b _ hb))
  simp
  omega

/-- A value of as many cells stored over a whole block; no other block turns. -/
theorem wpList_store_far {rest : List Oper} {o : Oper} (hgd : o.guard = none) (ty : TypeId) (x y : Operand) (ho : o.op = .store ty x y)
    (g : Nat) (t : TypeId) (olds cs : Array Value) (hx : a.eval x = .pointer (some ⟨g, 0, none⟩)) (hy : a.eval y = .agg cs) (hz : Is w g t olds) (hs : cs.size = olds.size) (hi : (P.info? ty).map (·.size) = some cs.size) (h1 : cs.all (·.oneCell') = true)
    (h : ∀ w', Is w' g t cs → Below g w w' → (∀ b, b ≠ g → w'.heap[b]? = w.heap[b]?) → wpList P ops Q rest (a.put o.dst undef) w') : wpList P ops Q (o :: rest) a w :=
  wpList_plain hgd fun _ hK => oper_store_is ty x y ho g t olds cs hx hy hz hs hi h1 (fun w' h2 h3 h4 => hK _ _ (h w' h2 h3 h4))

/-- What lies elsewhere than one block. -/
theorem rn_far {w' : World} {n _gp : Nat} {A : Option Addr} {l : List (BitVec 64)} (h : RN w n A l) (_hn : n ≤ w.heap.size) (hne : ∀ g off, A = some ⟨g, off, none⟩ → 0 < l.length → w'.heap[g]? = w.heap[g]?) : RN w' n A l := fun hp => by
  obtain ⟨g, off, rfl, hg, hc⟩ := h hp
  exact ⟨g, off, rfl, hg, fun i x hi j hj => (World.cell?_of_block (w := w) (hne g off rfl hp)).trans (hc i x hi j hj)⟩

theorem rn_none {n : Nat} {l : List (BitVec 64)} (h : RN w n none l) : l = [] := by
  rcases Nat.eq_zero_or_pos l.length with h0 | h0
  · exact List.eq_nil_of_length_eq_zero h0
  · obtain ⟨g, off, e, _⟩ := h h0
    cases e

/-- append of names onto names of the call's own. -/
theorem wpList_append_ons {rest : List Oper} {o : Oper} (hgd : o.guard = none) (s x : Operand) (t : TypeId)
    (ho : o.op = .call { callee := .builtin .append, args := #[s, x], argTypes := #[t, t] })
    (base : Nat) (e : TypeId) (i : TypeInfo) (z : Value) (ht : P.underlying t = some (.slice e)) (hi : P.info? e = some i) (hz : i.zero = some z) (hzs : z.cells.size = 8) (hs : i.size = 8) (hb : i.bytes = 8)
    (v : Value) (l : List (BitVec 64)) (hv : a.eval s = v) (h : ON w base e v l) (n : Nat) (A : Option Addr) (k : List (BitVec 64)) (m c : Nat) (hx : a.eval x = .slice A m c) (hk : k.length = m) (hr : RN w n A k) (hm : l.length + k.length ≤ 17592186044416) (hbase : base ≤ w.heap.size)
    (hK : ∀ v' w', ON w' base e v' (l ++ k) → w.grownBy w' v.ownBlock → wpList P ops Q rest (a.put o.dst v') w') : wpList P ops Q (o :: rest) a w := by
  subst hk
  cases A with
  | none =>
    obtain rfl := rn_none hr
    refine wpList_plain hgd fun K hK' => ?_
    have hrun : (Builtin.append_ #[t, t] o.type #[v, .slice none 0 c]).run P w = .ok v w := by
      rcases h.2 with ⟨rfl, _⟩ | ⟨g, cap, cur, rfl, _, _, hnc, _⟩
      · simp [Builtin.append_, run_underlying ht, sizeOf, typeInfo, hi, Builtin.lenOf, Builtin.firstCells]
      · simp [Builtin.append_, run_underlying ht, sizeOf, typeInfo, hi, Builtin.lenOf, Builtin.firstCells, hnc, storeCells]
    unfold Oper.wp
    simp [execOp, ho, resolve, invoke, builtin, hv, hx, hrun, Result.andThen]
    exact hK' _ _ (hK v w (by simpa using h) (World.grownBy.refl w _))
  | some ad =>
    refine wpList_append_own_at w hgd s x t ho base e i z 8 8 ht hi hz hs hb hzs (by omega) v l.length (nsC l) hv h ad k.length c (nsC k) hx (nsC_len k) ?_ ?_ (by simp only [maxLen]; omega) (by omega) hbase ?_
    · intro j u hu
      have hj : j < k.length * 8 := by have := (List.getElem?_eq_some_iff.1 hu).1; rwa [nsC_len] at this
      obtain ⟨g, off, e1, _, hc⟩ := hr (by omega)
      injection e1 with e1
      subst e1
      obtain ⟨y, hy⟩ : ∃ y, k[j / 8]? = some y := ⟨_, List.getElem?_eq_getElem (by omega)⟩
      have h1 := nsC_get k (j / 8) y hy (j % 8) (by omega)
      have h2 := hc (j / 8) y hy (j % 8) (by omega)
      have e2 : j / 8 * 8 + j % 8 = j := by omega
      rw [e2, hu] at h1
      rw [add_plain]
      have e3 : off + j / 8 * 8 + j % 8 = off + j := by omega
      rw [e3] at h2
      rw [h2, ← h1]
    · intro u hu
      simp only [nsC, List.mem_flatMap] at hu
      obtain ⟨y, _, hy⟩ := hu
      exact bytes_one _ u hy
    · intro v' w' h1 h2 _ _
      refine hK v' w' ?_ h2
      unfold ON
      rw [nsC_append, List.length_append]
      exact h1
/-- Names of the call's own, and the block in which they lie. -/
theorem on_form {base : Nat} {tn : TypeId} {v : Value} {l : List (BitVec 64)} (h : ON w base tn v l) : ∃ A c gp, v = .slice A l.length c ∧ l.length ≤ c ∧ c ≤ 9223372036854775807 ∧ RN w w.heap.size A l ∧
    (0 < l.length → A = some ⟨gp, 0, none⟩ ∧ base ≤ gp ∧ gp < w.heap.size ∧ ∃ cur, Is w gp tn cur ∧ l.length * 8 ≤ cur.size) := by
  obtain ⟨A, n, c, e, hn, hc, hm, hr⟩ := h.form_n
  have hn := hn.out
  subst hn
  rcases h.2 with ⟨h1, h0⟩ | ⟨g, cap, cur, hv, hg, hh, hnc, hm2, hcs, _⟩
  · exact ⟨A, c, 0, e, hc, hm, hr.out, fun hp => by omega⟩
  · subst hv
    cases e
    exact ⟨_, _, g, rfl, hnc, hm, hr.out, fun _ => ⟨rfl, hg, (Array.getElem?_eq_some_iff.1 hh).1, cur, hh, by rw [hcs]; exact Nat.mul_le_mul_right _ hnc⟩⟩

/-- append of one name that lies in a new block, in a region that draws its order. -/
theorem oper_append_name {o : Oper} {K : Act → World → Prop} (d : Nat) (s x : Operand) (t : TypeId)
    (ho : o.op = .call { callee := .builtin .append, args := #[s, x], argTypes := #[t, t] })
    (base : Nat) (e : TypeId) (i : TypeInfo) (z : Value) (ht : P.underlying t = some (.slice e)) (hi : P.info? e = some i) (hz : i.zero = some z) (hzs : z.cells.size = 8) (hs : i.size = 8) (hb : i.bytes = 8)
    (v : Value) (l : List (BitVec 64)) (hv : a.eval s = v) (h : ON w base e v l) (y : BitVec 64) (g : Nat) (te : TypeId) (hx : a.eval x = .slice (some ⟨g, 0, none⟩) 1 1) (hy : Is w g te (nmC y)) (hm : l.length + 1 ≤ 1000) (hbase : base ≤ w.heap.size)
    (hK : ∀ v' w', ON w' base e v' (l ++ [y]) → w.grownBy w' v.ownBlock → K (a.put (some d) v') w') (hd : o.dst = some d := by rfl) : Oper.wp P o a w K Q := by
  have hnews : ∀ j u, ((nmL y).map B)[j]? = some u → w.cell? ((⟨g, 0, none⟩ : Addr).add j) = some u := fun j u hj => by
    rw [add_plain, hy.cell, Nat.zero_add]
    exact nmC_list y j u hj
  obtain ⟨v', w', hr, h2, h3, _, _⟩ := run_append_own_at (P := P) w base t o.type e i z 8 8 ht hi hz hs hb hzs (by omega) v l.length (nsC l) h ⟨g, 0, none⟩ 1 1 ((nmL y).map B) (by rw [List.length_map, nmL_len]) hnews (bytes_one _) (by simp only [maxLen]; omega) (by omega) hbase
  unfold Oper.wp execOp
  simp only [ho, resolve, invoke, builtin, Sem.run_bind, Sem.run_pure, Result.andThen_ok, List.map_toArray, List.map_cons, List.map_nil, hv, hx, hr]
  have hfin : K (a.put o.dst v') w' := by
    rw [hd]
    refine hK _ _ ?_ h3
    have e2 : nsC (l ++ [y]) = nsC l ++ (nmL y).map B := by rw [nsC_append]; simp [nsC]
    unfold ON
    rw [e2, List.length_append]
    exact h2
  exact hfin
end Go.Fl
