/-
  A slice of things of any type, cell by cell ('VS.flat', 'VS.of_flat'); a slice of the call's own ('OS'), append onto it from any such slice.
-/
import Derived.Test.YtnpbohndhgnfjaaRep
import Derived.Deep.DeepAppendWide
namespace Go.Fl
open Go.ChangeShapes Go.WideShapes Go.ChangeAt Go.RowKit
section
variable {P : Program} {e : TypeId} {α : Type} {R : Rep P e α} {w w' : World} {v : Value} {l : List α}

/-- Things that lie cell by cell. -/
def Cells (R : Rep P e α) (w : World) (l : List α) (xs : List Value) : Prop := xs.length = l.length * P.cellsOf e ∧ ∀ i x, l[i]? = some x → R.is w x ((xs.drop (i * P.cellsOf e)).take (P.cellsOf e))
theorem Cells.next {xs : List Value} (h : Cells R w l xs) (hb : Below w.heap.size w w') : Cells R w' l xs := ⟨h.1, fun i x hi => R.keep (h.2 i x hi) hb⟩
theorem Cells.nil (R : Rep P e α) (w : World) : Cells R w [] [] := ⟨by simp, by simp⟩
theorem Cells.append {m : List α} {xs ys : List Value} (h : Cells R w l xs) (k : Cells R w m ys) : Cells R w (l ++ m) (xs ++ ys) := by
  refine ⟨by rw [List.length_append, List.length_append, h.1, k.1, Nat.add_mul], fun i x hi => ?_⟩
  rw [List.getElem?_append] at hi
  split at hi
  · rename_i hlt
    have hle : i * P.cellsOf e + P.cellsOf e ≤ xs.length := by
      rw [h.1, ← Nat.succ_mul]
      exact Nat.mul_le_mul_right _ hlt
    rw [List.drop_append_of_le_length (by omega), List.take_append_of_le_length (by rw [List.length_drop]; omega)]
    exact h.2 i x hi
  · rename_i hlt
    have e1 : i * P.cellsOf e = xs.length + (i - l.length) * P.cellsOf e := by
      rw [h.1, ← Nat.add_mul]
      congr 1
      omega
    rw [e1, ← List.drop_drop, List.drop_left]
    exact k.2 (i - l.length) x hi

theorem VS.flat (h : VS R w v l) (hl : 0 < l.length) (h0 : 0 < P.cellsOf e) : ∃ g off c xs, v = .slice (some ⟨g, off, none⟩) l.length c ∧ l.length ≤ c ∧ g < w.heap.size ∧ Cells R w l xs ∧ ∀ j u, xs[j]? = some u → w.cell? ⟨g, off + j, none⟩ = some u := by
  obtain ⟨A, c, rfl, h1, h2, h3⟩ := h
  obtain ⟨g, off, rfl, hg, hc⟩ := h3 hl
  have key : ∀ j, j < l.length * P.cellsOf e → ∃ u, w.cell? ⟨g, off + j, none⟩ = some u := fun j hj => by
    have hi : j / P.cellsOf e < l.length := Nat.div_lt_of_lt_mul (by rwa [Nat.mul_comm])
    obtain ⟨cs, hcs, hcj⟩ := hc (j / P.cellsOf e) _ (List.getElem?_eq_getElem hi)
    have hr := Nat.mod_lt j h0
    have := hcj (j % P.cellsOf e) hr
    have e1 : off + j / P.cellsOf e * P.cellsOf e + j % P.cellsOf e = off + j := by rw [Nat.add_assoc, Nat.div_add_mod']
    rw [e1, List.getElem?_eq_getElem (by rw [R.len hcs]; exact hr)] at this
    exact ⟨_, this⟩
  refine ⟨g, off, c, (List.range (l.length * P.cellsOf e)).map fun j => (w.cell? ⟨g, off + j, none⟩).getD undef, rfl, h1, hg, ⟨by simp, fun i x hi => ?_⟩, fun j u hu => ?_⟩
  · obtain ⟨cs, hcs, hcj⟩ := hc i x hi
    have hil : i < l.length := (List.getElem?_eq_some_iff.1 hi).1
    have hle : i * P.cellsOf e + P.cellsOf e ≤ l.length * P.cellsOf e := by
      rw [← Nat.succ_mul]
      exact Nat.mul_le_mul_right _ hil
    have e1 : (((List.range (l.length * P.cellsOf e)).map fun j => (w.cell? ⟨g, off + j, none⟩).getD undef).drop (i * P.cellsOf e)).take (P.cellsOf e) = cs := by
      apply List.ext_getElem?
      intro j
      by_cases hj : j < P.cellsOf e
      · rw [List.getElem?_take, if_pos hj, List.getElem?_drop, List.getElem?_map, List.getElem?_range (by omega), Option.map_some, ← Nat.add_assoc, hcj j hj, List.getElem?_eq_getElem (by rw [R.len hcs]; exact hj)]
        rfl
      · rw [List.getElem?_eq_none (by simp; omega), List.getElem?_eq_none (by rw [R.len hcs]; omega)]
    rw [e1]
    exact hcs
  · rw [List.getElem?_map] at hu
    by_cases hj : j < l.length * P.cellsOf e
    · rw [List.getElem?_range hj, Option.map_some] at hu
      obtain ⟨u', hu'⟩ := key j hj
      rw [hu'] at hu ⊢
      exact hu
    · rw [List.getElem?_eq_none (by simp; omega)] at hu
      cases hu

theorem VS.of_flat {g off c : Nat} {xs : List Value} (h1 : l.length ≤ c) (h2 : c ≤ 9223372036854775807) (hg : g < w.heap.size) (h : Cells R w l xs) (hc : ∀ j u, xs[j]? = some u → w.cell? ⟨g, off + j, none⟩ = some u) : VS R w (.slice (some ⟨g, off, none⟩) l.length c) l :=
  ⟨_, c, rfl, h1, h2, fun _ => ⟨g, off, rfl, hg, fun i x hi => ⟨_, h.2 i x hi, fun j hj => by
    have hil : i < l.length := (List.getElem?_eq_some_iff.1 hi).1
    have hle : i * P.cellsOf e + P.cellsOf e ≤ l.length * P.cellsOf e := by
      rw [← Nat.succ_mul]
      exact Nat.mul_le_mul_right _ hil
    have hlt : i * P.cellsOf e + j < xs.length := by rw [h.1]; omega
    rw [List.getElem?_take, if_pos hj, List.getElem?_drop, List.getElem?_eq_getElem hlt, Nat.add_assoc]
    exact hc _ _ (List.getElem?_eq_getElem hlt)⟩⟩⟩

/-- A slice of the call's own that holds these things, as world w0 spells them. -/
def OS (R : Rep P e α) (w0 w : World) (base : Nat) (v : Value) (l : List α) : Prop := ∃ xs, w.ownsRow base e (P.cellsOf e) v l.length xs ∧ Cells R w0 l xs
variable {w0 : World} {base : Nat}
theorem OS.vs (h : OS R w0 w base v l) (hb : Below w0.heap.size w0 w) : VS R w v l := by
  obtain ⟨xs, hr, hx⟩ := h
  rcases hr.2 with ⟨rfl, h0⟩ | ⟨g, cap, cur, rfl, _, hh, h1, h2, _, hcur⟩
  · obtain rfl : l = [] := List.eq_nil_of_length_eq_zero h0
    exact VS.nil R w
  · refine VS.of_flat h1 (by simpa [maxLen] using h2) (Array.getElem?_eq_some_iff.1 hh).1 (hx.next hb) fun j u hu => ?_
    have := hr.cells (g := g) rfl j u hu
    rw [add_plain] at this
    exact this
theorem OS.nil (R : Rep P e α) (w0 w : World) (base : Nat) : OS R w0 w base (.slice none 0 0) [] := ⟨[], ⟨by simp, .inl ⟨rfl, rfl⟩⟩, Cells.nil R w0⟩
theorem OS.empty (R : Rep P e α) (w0 w : World) {g : Nat} (hg : g = w.heap.size) : OS R w0 (w.alloc (.cells #[] e)) g (.slice (some ⟨g, 0, none⟩) 0 0) [] := by
  subst hg
  exact ⟨[], ⟨by simp, .inr ⟨w.heap.size, 0, #[], rfl, Nat.le_refl _, heap_alloc_new w _, by simp, by simp [maxLen], by simp, by simp⟩⟩, Cells.nil R w0⟩
theorem OS.keep (h : OS R w0 w base v l) (hb : Below w.heap.size w w') : OS R w0 w' base v l := by
  obtain ⟨xs, ⟨hl, hr⟩, hx⟩ := h
  refine ⟨xs, ⟨hl, ?_⟩, hx⟩
  rcases hr with h | ⟨g, cap, cur, rfl, h1, hh, h2⟩
  · exact .inl h
  · exact .inr ⟨g, cap, cur, rfl, h1, (hb.block g (Array.getElem?_eq_some_iff.1 hh).1).trans hh, h2⟩
theorem OS.base_le (h : OS R w0 w base v l) {m : Nat} (hm : m ≤ base) : OS R w0 w m v l := by
  obtain ⟨xs, ⟨hl, hr⟩, hx⟩ := h
  refine ⟨xs, ⟨hl, ?_⟩, hx⟩
  rcases hr with h | ⟨g, cap, cur, rfl, h1, hh, h2⟩
  · exact .inl h
  · exact .inr ⟨g, cap, cur, rfl, by omega, hh, h2⟩
theorem OS.own (h : OS R w0 w base v l) : ∀ k, v.ownBlock = some k → base ≤ k := fun k hk => by
  obtain ⟨xs, ⟨hl, hr⟩, hx⟩ := h
  rcases hr with ⟨rfl, _⟩ | ⟨g, cap, cur, rfl, hg, _⟩
  · simp [Value.ownBlock] at hk
  · simp [Value.ownBlock] at hk
    omega
theorem OS.form (h : OS R w0 w base v l) (hl : 0 < l.length) : ∃ g cap, v = .slice (some ⟨g, 0, none⟩) l.length cap ∧ base ≤ g ∧ l.length ≤ cap ∧ g < w.heap.size := by
  obtain ⟨xs, ⟨_, hr⟩, hx⟩ := h
  rcases hr with ⟨_, h0⟩ | ⟨g, cap, cur, rfl, hg, hh, hn, _⟩
  · omega
  · exact ⟨g, cap, rfl, hg, hn, (Array.getElem?_eq_some_iff.1 hh).1⟩
/-- Every cell of such things is one cell. -/
def OneCell (R : Rep P e α) : Prop := ∀ w x cs, R.is w x cs → ∀ u ∈ cs, u.oneCell' = true
theorem Cells.one {xs : List Value} (hone : OneCell R) (h : Cells R w l xs) (h0 : 0 < P.cellsOf e) : ∀ u ∈ xs, u.oneCell' = true := fun u hu => by
  obtain ⟨j, hj⟩ := List.getElem?_of_mem hu
  have hjl : j < l.length * P.cellsOf e := by
    have := (List.getElem?_eq_some_iff.1 hj).1
    rw [h.1] at this
    exact this
  have hi : j / P.cellsOf e < l.length := Nat.div_lt_of_lt_mul (by rwa [Nat.mul_comm])
  refine hone w _ _ (h.2 (j / P.cellsOf e) _ (List.getElem?_eq_getElem hi)) u ?_
  refine List.mem_of_getElem? (i := j % P.cellsOf e) ?_
  rw [List.getElem?_take, if_pos (Nat.mod_lt j h0), List.getElem?_drop, Nat.div_add_mod']
  exact hj

/-- append onto a slice of the call's own from any such slice that holds something. -/
theorem wpList_append_os {ops : Array Oper} {rest : List Oper} {o : Oper} {a : Act} {Q : Exit → Act → World → Prop} (hgd : o.guard = none) (s x : Operand) (t : TypeId)
    (ho : o.op = .call { callee := .builtin .append, args := #[s, x], argTypes := #[t, t] })
    (base : Nat) (i : TypeInfo) (z : Value) (B : Nat) (ht : P.underlying t = some (.slice e)) (hi : P.info? e = some i) (hz : i.zero = some z) (hzs : z.cells.size = P.cellsOf e) (hs : i.size = P.cellsOf e) (hb : i.bytes = B) (h0 : 0 < P.cellsOf e)
    (hone : OneCell R) (hv : a.eval s = v) (h : OS R w0 w base v l) {m : List α} {u : Value} (hx : a.eval x = u) (hu : VS R w0 u m) (hu' : Below w0.heap.size w0 w) (hm : 0 < m.length)
    (h63 : l.length + m.length ≤ maxLen) (hfit : ((l.length + m.length) + (l.length + m.length) / 4 + 192) * B ≤ 281474976710656) (hbase : base ≤ w.heap.size)
    (hK : ∀ v' w', OS R w0 w' base v' (l ++ m) → w.grownBy w' v.ownBlock → wpList P ops Q rest (a.put o.dst v') w') : wpList P ops Q (o :: rest) a w := by
  obtain ⟨xs, hr, hxs⟩ := h
  obtain ⟨g, off, c, ys, rfl, _, hg, hys, hcell⟩ := hu.flat hm h0
  refine wpList_append_own_wide w hgd s x t ho base e i z (P.cellsOf e) B ht hi hz hs hb hzs h0 v l.length xs hv hr ⟨g, off, none⟩ m.length c ys hx hys.1 ?_ (hys.one hone h0) h63 hfit hbase ?_
  · intro j u hj
    rw [add_plain]
    exact (hu'.cell (p := ⟨g, off + j, none⟩) hg).trans (hcell j u hj)
  · intro v' w' h1 h2 _
    exact hK v' w' ⟨xs ++ ys, by rw [List.length_append]; exact h1, hxs.append hys⟩ h2

theorem splice_get (xs cs : List Value) (a s : Nat) (hcs : cs.length = s) (ha : a + s ≤ xs.length) (j : Nat) : (xs.take a ++ cs ++ xs.drop (a + s))[j]? = if a ≤ j ∧ j < a + s then cs[j - a]? else xs[j]? := by
  rw [List.append_assoc, List.getElem?_append, List.length_take, Nat.min_eq_left (by omega), List.getElem?_append, List.getElem?_take, List.getElem?_drop]
  by_cases h1 : j < a
  · simp only [h1, if_true]
    rw [if_neg (by omega)]
  · by_cases h2 : j < a + s
    · rw [if_neg h1, if_pos (by omega), if_pos (by omega)]
    · rw [if_neg h1, if_neg (by omega), if_neg (by omega)]
      congr 1
      omega
theorem Cells.set {xs cs : List Value} (h : Cells R w l xs) {k : Nat} (hk : k < l.length) {y : α} (hcs : R.is w y cs) : Cells R w (l.set k y) (xs.take (k * P.cellsOf e) ++ cs ++ xs.drop (k * P.cellsOf e + P.cellsOf e)) := by
  have hl := R.len hcs
  have hle : k * P.cellsOf e + P.cellsOf e ≤ xs.length := by
    rw [h.1, ← Nat.succ_mul]
    exact Nat.mul_le_mul_right _ hk
  refine ⟨by rw [List.length_set, ← h.1]; simp [hl]; omega, fun i x hi => ?_⟩
  have hil : i < l.length := by
    have := (List.getElem?_eq_some_iff.1 hi).1
    simpa using this
  have hle2 : i * P.cellsOf e + P.cellsOf e ≤ xs.length := by
    rw [h.1, ← Nat.succ_mul]
    exact Nat.mul_le_mul_right _ hil
  by_cases hik : i = k
  · subst hik
    have hx : x = y := by
      rw [List.getElem?_set_self hk] at hi
      exact (Option.some.inj hi).symm
    subst hx
    have e1 : ((xs.take (i * P.cellsOf e) ++ cs ++ xs.drop (i * P.cellsOf e + P.cellsOf e)).drop (i * P.cellsOf e)).take (P.cellsOf e) = cs := by
      apply List.ext_getElem?
      intro j
      by_cases hj : j < P.cellsOf e
      · rw [List.getElem?_take, if_pos hj, List.getElem?_drop, splice_get xs cs _ _ hl hle, if_pos (by omega)]
        congr 1
        omega
      · rw [List.getElem?_eq_none (by simp; omega), List.getElem?_eq_none (by omega)]
    rw [e1]
    exact hcs
  · have hx : l[i]? = some x := by rwa [List.getElem?_set_ne (by omega)] at hi
    have e1 : ((xs.take (k * P.cellsOf e) ++ cs ++ xs.drop (k * P.cellsOf e + P.cellsOf e)).drop (i * P.cellsOf e)).take (P.cellsOf e) = (xs.drop (i * P.cellsOf e)).take (P.cellsOf e) := by
      apply List.ext_getElem?
      intro j
      by_cases hj : j < P.cellsOf e
      · rw [List.getElem?_take, if_pos hj, List.getElem?_drop, splice_get xs cs _ _ hl hle, List.getElem?_take, if_pos hj, List.getElem?_drop, if_neg]
        intro ⟨h1, h2⟩
        rcases Nat.lt_or_gt_of_ne hik with hlt | hgt
        · have : (i + 1) * P.cellsOf e ≤ k * P.cellsOf e := Nat.mul_le_mul_right _ hlt
          rw [Nat.succ_mul] at this
          omega
        · have : (k + 1) * P.cellsOf e ≤ i * P.cellsOf e := Nat.mul_le_mul_right _ hgt
          rw [Nat.succ_mul] at this
          omega
      · rw [List.getElem?_take, if_neg hj, List.getElem?_take, if_neg hj]
    rw [e1]
    exact h.2 i x hx

/-- One thing of a slice of the call's own is stored. -/
theorem wpList_store_os {ops : Array Oper} {rest : List Oper} {o : Oper} {a : Act} {Q : Exit → Act → World → Prop} (hgd : o.guard = none) (ty : TypeId) (x y : Operand) (ho : o.op = .store ty x y)
    (g n cap k : Nat) (hv : v = .slice (some ⟨g, 0, none⟩) n cap) (h : OS R w0 w base v l) (hk : k < l.length) (b : α) (cs : Array Value) (kk : Nat) (hkk : kk = k * P.cellsOf e) (hx : a.eval x = .pointer (some ⟨g, kk, none⟩)) (hy : a.eval y = .agg cs) (hcs : R.is w0 b cs.toList)
    (hi : (P.info? ty).map (·.size) = some cs.size) (h1 : cs.all (·.oneCell') = true)
    (hK : ∀ w', OS R w0 w' base v (l.set k b) → Below g w w' → wpList P ops Q rest (a.put o.dst undef) w') : wpList P ops Q (o :: rest) a w := by
  subst hv
  subst hkk
  obtain ⟨xs, ⟨hl, hr⟩, hxs⟩ := h
  rcases hr with ⟨hr, _⟩ | ⟨g', cap', cur, hr, hb, hh, hn, hc, hcur, htake⟩
  · cases hr
  cases hr
  have hle : k * P.cellsOf e + P.cellsOf e ≤ xs.length := by
    rw [hl, ← Nat.succ_mul]
    exact Nat.mul_le_mul_right _ hk
  have hls : l.length * P.cellsOf e ≤ cap * P.cellsOf e := Nat.mul_le_mul_right _ hn
  have hcl : cs.size = P.cellsOf e := by
    have := R.len hcs
    simpa using this
  refine wpList_plain hgd fun K hK' => ?_
  have hst := run_storeCells_at (P := P) g (k * P.cellsOf e) e cs.toList 0 cur w hh (by simp; omega) (fun v hv => (Array.all_eq_true_iff_forall_mem.1 h1) v (by simpa using hv))
  generalize hnew : (cur.toList.take (k * P.cellsOf e + 0) ++ cs.toList ++ cur.toList.drop (k * P.cellsOf e + 0 + cs.toList.length)).toArray = new at hst
  have hnewl : new.toList = cur.toList.take (k * P.cellsOf e) ++ cs.toList ++ cur.toList.drop (k * P.cellsOf e + P.cellsOf e) := by
    rw [← hnew]
    simp [hcl]
  have hcurl : cur.toList.length = cap * P.cellsOf e := by simpa using hcur
  have hsize : new.size = cap * P.cellsOf e := by
    have : new.toList.length = cap * P.cellsOf e := by
      rw [hnewl]
      simp [hcl]
      omega
    simpa using this
  have hrun : (storeVar ty ⟨g, k * P.cellsOf e, none⟩ (.agg cs)).run P w = .ok () (w.setRow g new) := by
    cases hq : P.info? ty with
    | none => simp [hq] at hi
    | some i =>
      have hs' : cs.size = i.size := by simp [hq] at hi; omega
      simp [storeVar, sizeOf, typeInfo, hq, Value.cells, hs', hst]
  have hos : OS R w0 (w.setRow g new) base (.slice (some ⟨g, 0, none⟩) (l.set k b).length cap) (l.set k b) := by
    refine ⟨_, ⟨?_, .inr ⟨g, cap, new, rfl, hb, setRow_heap w g _ _ e _ hh, by simpa using hn, hc, hsize, ?_⟩⟩, hxs.set hk hcs⟩
    · exact (hxs.set hk hcs).1
    · apply List.ext_getElem?
      intro j
      rw [hnewl, List.length_set]
      rw [splice_get xs cs.toList _ _ (by simpa using hcl) hle, List.getElem?_take]
      by_cases hj : j < l.length * P.cellsOf e
      · rw [if_pos hj, splice_get cur.toList cs.toList _ _ (by simpa using hcl) (by omega)]
        have : cur.toList[j]? = xs[j]? := by rw [← htake, List.getElem?_take, if_pos hj]
        rw [this]
      · rw [if_neg hj, if_neg (by rw [hl] at hle; omega), List.getElem?_eq_none (by omega)]
  rw [List.length_set] at hos
  unfold Oper.wp execOp
  simp only [ho, hx, hy, Instr.storeAt, Instr.sureAddr, Sem.run_bind, Sem.run_pure, Result.andThen_ok, hrun]
  exact hK' _ _ (hK _ hos (below_setRow (Below.refl _ _) (Nat.le_refl _) _))
theorem OS.set_far (h : OS R w0 w base v l) (q : Addr) (hq : q.block < base) (u : Value) : OS R w0 (w.setCell q u) base v l := by
  obtain ⟨xs, ⟨hl, hr⟩, hx⟩ := h
  refine ⟨xs, ⟨hl, ?_⟩, hx⟩
  rcases hr with h | ⟨g, cap, cur, rfl, h1, hh, h2⟩
  · exact .inl h
  · exact .inr ⟨g, cap, cur, rfl, h1, (Below.heap_setCell w q u g (by omega)).trans hh, h2⟩
theorem OS.drew (h : OS R w0 w base v l) : OS R w0 w.drew base v l := h
theorem Is.set {g : Nat} {t : TypeId} {cs : Array Value} (h : Is w g t cs) (i : Nat) (hi : i < cs.size) (u : Value) : Is (w.setCell ⟨g, i, none⟩ u) g t (cs.set i u hi) := by
  unfold Is at *
  simp only [World.setCell, Array.getElem?_modify, if_true, h, Option.map_some]
  simp [Array.setIfInBounds, hi]
end
end Go.Fl
