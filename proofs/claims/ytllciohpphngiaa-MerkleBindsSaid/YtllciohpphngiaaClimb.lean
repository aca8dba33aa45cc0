/-
  What the law of collisions climbs: the nodes from a leaf to the root, as a plain function ('climbF'), with what follows from one root of two leaves ('climb_bind'); a slice of such nodes of the call's own ('SO').
-/
import Derived.Test.YtllciohpphngiaaLaw3A
namespace Go.Fl
open Go.ChangeShapes Go.WideShapes Go.ChangeAt Go.RowKit

abbrev Step := List UInt8 × BitVec 64
def lastF (p : List (BitVec 64)) : BitVec 64 := p.getD (p.length - 1) 0
def climbF (x : BitVec 64) (i n : Nat) (p : List (BitVec 64)) : List Step :=
  if _h : n ≤ 1 then [(nmL x, leafF x)] else if i < splitN n then climbF x i (splitN n) p.dropLast ++ [(nmL (followF x i (splitN n) p.dropLast) ++ nmL (lastF p), followF x i n p)]
    else climbF x (i - splitN n) (n - splitN n) p.dropLast ++ [(nmL (lastF p) ++ nmL (followF x (i - splitN n) (n - splitN n) p.dropLast), followF x i n p)]
termination_by n
decreasing_by
  · exact splitN_lt n (by omega)
  · have := splitN_pos n; omega
theorem climbF_one {x : BitVec 64} {i n : Nat} {p : List (BitVec 64)} (h : n ≤ 1) : climbF x i n p = [(nmL x, leafF x)] := by rw [climbF, dif_pos h]
theorem climbF_left {x : BitVec 64} {i n : Nat} {p : List (BitVec 64)} (h : 2 ≤ n) (hi : i < splitN n) : climbF x i n p = climbF x i (splitN n) p.dropLast ++ [(nmL (followF x i (splitN n) p.dropLast) ++ nmL (lastF p), followF x i n p)] := by
  rw [climbF, dif_neg (by omega), if_pos hi]
theorem climbF_right {x : BitVec 64} {i n : Nat} {p : List (BitVec 64)} (h : 2 ≤ n) (hi : splitN n ≤ i) : climbF x i n p = climbF x (i - splitN n) (n - splitN n) p.dropLast ++ [(nmL (lastF p) ++ nmL (followF x (i - splitN n) (n - splitN n) p.dropLast), followF x i n p)] := by
  rw [climbF, dif_neg (by omega), if_neg (by omega)]
theorem climb_len : ∀ (n i : Nat) (x : BitVec 64) (p : List (BitVec 64)), (climbF x i n p).length = depthF i n + 1 := by
  intro n
  induction n using Nat.strongRecOn with
  | _ n ih =>
    intro i x p
    by_cases h1 : n ≤ 1
    · rw [climbF_one h1, depthF_one h1]; rfl
    · have hlt := splitN_lt n (by omega)
      have hpos := splitN_pos n
      by_cases hs : i < splitN n
      · rw [climbF_left (by omega) hs, depthF_left (by omega) hs, List.length_append, ih _ hlt]; rfl
      · rw [climbF_right (i := i) (n := n) (by omega) (by omega), depthF_right (i := i) (n := n) (by omega) (by omega), List.length_append, ih _ (by omega)]; rfl
/-- The last node's name is what is computed from the path. -/
theorem climb_last (n i : Nat) (x : BitVec 64) (p : List (BitVec 64)) : ∃ b, (climbF x i n p)[depthF i n]? = some (b, followF x i n p) := by
  by_cases h1 : n ≤ 1
  · exact ⟨nmL x, by rw [climbF_one h1, depthF_one h1, followF_one h1]; rfl⟩
  · have hlt := splitN_lt n (by omega)
    have hpos := splitN_pos n
    by_cases hs : i < splitN n
    · refine ⟨nmL (followF x i (splitN n) p.dropLast) ++ nmL (lastF p), ?_⟩
      rw [climbF_left (by omega) hs, depthF_left (by omega) hs, List.getElem?_append_right (by rw [climb_len]; omega), climb_len, Nat.sub_self]
      rfl
    · refine ⟨nmL (lastF p) ++ nmL (followF x (i - splitN n) (n - splitN n) p.dropLast), ?_⟩
      rw [climbF_right (i := i) (n := n) (by omega) (by omega), depthF_right (i := i) (n := n) (by omega) (by omega), List.getElem?_append_right (by rw [climb_len]; omega), climb_len, Nat.sub_self]
      rfl
theorem nmL_inj {x y : BitVec 64} (h : nmL x = nmL y) : x = y := by
  simp only [nmL, List.cons.injEq, and_true] at h
  obtain ⟨h0, h1, h2, h3, h4, h5, h6, h7⟩ := h
  apply nm_inj
  intro i hi
  have : i = 0 ∨ i = 1 ∨ i = 2 ∨ i = 3 ∨ i = 4 ∨ i = 5 ∨ i = 6 ∨ i = 7 := by omega
  rcases this with rfl | rfl | rfl | rfl | rfl | rfl | rfl | rfl <;> assumption
/-- Two unlike leaves with one root: somewhere two unlike inputs have one name. -/
theorem climb_bind : ∀ (n i : Nat) (a b : BitVec 64) (p q : List (BitVec 64)), a ≠ b → followF a i n p = followF b i n q →
    ∃ k X Y, k < depthF i n + 1 ∧ (climbF a i n p)[k]? = some X ∧ (climbF b i n q)[k]? = some Y ∧ X.1 ≠ Y.1 ∧ X.2 = Y.2 := by
  intro n
  induction n using Nat.strongRecOn with
  | _ n ih =>
    intro i a b p q hab hf
    by_cases h1 : n ≤ 1
    · rw [followF_one h1, followF_one h1] at hf
      exact ⟨0, _, _, by omega, by rw [climbF_one h1]; rfl, by rw [climbF_one h1]; rfl, fun e => hab (nmL_inj e), hf⟩
    · have hlt := splitN_lt n (by omega)
      have hpos := splitN_pos n
      by_cases hs : i < splitN n
      · rw [climbF_left (x := a) (p := p) (by omega) hs, climbF_left (x := b) (p := q) (by omega) hs, depthF_left (by omega) hs]
        by_cases he : nmL (followF a i (splitN n) p.dropLast) ++ nmL (lastF p) = nmL (followF b i (splitN n) q.dropLast) ++ nmL (lastF q)
        · have h2 := List.append_inj_left he (by rw [nmL_len, nmL_len])
          obtain ⟨k, X, Y, hk, hX, hY, h3, h4⟩ := ih _ hlt i a b p.dropLast q.dropLast hab (nmL_inj h2)
          exact ⟨k, X, Y, by omega, by rw [List.getElem?_append_left (by rw [climb_len]; exact hk)]; exact hX, by rw [List.getElem?_append_left (by rw [climb_len]; exact hk)]; exact hY, h3, h4⟩
        · exact ⟨depthF i (splitN n) + 1, _, _, by omega, by rw [List.getElem?_append_right (by rw [climb_len]; omega), climb_len, Nat.sub_self]; rfl, by rw [List.getElem?_append_right (by rw [climb_len]; omega), climb_len, Nat.sub_self]; rfl, he, hf⟩
      · rw [climbF_right (x := a) (i := i) (n := n) (p := p) (by omega) (by omega), climbF_right (x := b) (i := i) (n := n) (p := q) (by omega) (by omega), depthF_right (i := i) (n := n) (by omega) (by omega)]
        by_cases he : nmL (lastF p) ++ nmL (followF a (i - splitN n) (n - splitN n) p.dropLast) = nmL (lastF q) ++ nmL (followF b (i - splitN n) (n - splitN n) q.dropLast)
        · have h2 := List.append_inj_right he (by rw [nmL_len, nmL_len])
          obtain ⟨k, X, Y, hk, hX, hY, h3, h4⟩ := ih _ (by omega) (i - splitN n) a b p.dropLast q.dropLast hab (nmL_inj h2)
          exact ⟨k, X, Y, by omega, by rw [List.getElem?_append_left (by rw [climb_len]; exact hk)]; exact hX, by rw [List.getElem?_append_left (by rw [climb_len]; exact hk)]; exact hY, h3, h4⟩
        · exact ⟨depthF (i - splitN n) (n - splitN n) + 1, _, _, by omega, by rw [List.getElem?_append_right (by rw [climb_len]; omega), climb_len, Nat.sub_self]; rfl, by rw [List.getElem?_append_right (by rw [climb_len]; omega), climb_len, Nat.sub_self]; rfl, he, hf⟩

/-! ### Nodes in memory -/
abbrev stR (s : Step) : List Value := .string (bsOf s.1) :: nmR s.2
def stC (l : List Step) : List Value := l.flatMap stR
theorem stR_len (s : Step) : (stR s).length = 9 := rfl
theorem stC_len (l : List Step) : (stC l).length = l.length * 9 := by
  induction l with
  | nil => rfl
  | cons x l ih =>
    have : stC (x :: l) = stR x ++ stC l := rfl
    rw [this, List.length_append, ih, stR_len, List.length_cons]
    omega
theorem stC_append (l m : List Step) : stC (l ++ m) = stC l ++ stC m := by simp [stC]
theorem stC_get (l : List Step) (i : Nat) (x : Step) (h : l[i]? = some x) (j : Nat) (hj : j < 9) : (stC l)[i * 9 + j]? = (stR x)[j]? := by
  induction l generalizing i with
  | nil => simp at h
  | cons y l ih =>
    have e : stC (y :: l) = stR y ++ stC l := rfl
    cases i with
    | zero =>
      simp only [List.getElem?_cons_zero, Option.some.injEq] at h
      subst h
      rw [e, List.getElem?_append_left (by rw [stR_len]; omega), Nat.zero_mul, Nat.zero_add]
    | succ i =>
      rw [e, List.getElem?_append_right (by rw [stR_len]; omega), stR_len]
      have : (i + 1) * 9 + j - 9 = i * 9 + j := by omega
      rw [this]
      exact ih i (by simpa using h)
theorem stC_one (l : List Step) : ∀ u ∈ stC l, u.oneCell' = true := fun u hu => by
  simp only [stC, List.mem_flatMap] at hu
  obtain ⟨y, _, hy⟩ := hu
  simp only [stR, List.mem_cons, List.not_mem_nil, or_false] at hy
  rcases hy with rfl | rfl | rfl | rfl | rfl | rfl | rfl | rfl | rfl <;> rfl
/-- A slice of nodes of the call's own. -/
def SO (w : World) (base : Nat) (ts : TypeId) (v : Value) (l : List Step) : Prop := w.ownsRow base ts 9 v l.length (stC l)
section
variable {w w' : World} {base : Nat} {ts : TypeId} {v : Value} {l : List Step}
theorem SO.keep (h : SO w base ts v l) (hb : Below w.heap.size w w') : SO w' base ts v l := by
  refine ⟨h.1, ?_⟩
  rcases h.2 with h2 | ⟨g, cap, cur, hv, hg, hh, r⟩
  · exact Or.inl h2
  · exact Or.inr ⟨g, cap, cur, hv, hg, (hb.block g (Array.getElem?_eq_some_iff.1 hh).1).trans hh, r⟩
theorem SO.base_le (h : SO w base ts v l) {m : Nat} (hm : m ≤ base) : SO w m ts v l := by
  refine ⟨h.1, ?_⟩
  rcases h.2 with h2 | ⟨g, cap, cur, hv, hg, r⟩
  · exact Or.inl h2
  · exact Or.inr ⟨g, cap, cur, hv, by omega, r⟩
theorem SO.far (h : SO w base ts v l) (hfar : ∀ b, base ≤ b → w'.heap[b]? = w.heap[b]?) : SO w' base ts v l := by
  refine ⟨h.1, ?_⟩
  rcases h.2 with h2 | ⟨g, cap, cur, hv, hg, hh, r⟩
  · exact Or.inl h2
  · exact Or.inr ⟨g, cap, cur, hv, hg, (hfar g hg).trans hh, r⟩
theorem SO.own (h : SO w base ts v l) : ∀ k, v.ownBlock = some k → base ≤ k := fun k hk => by
  rcases h.2 with ⟨rfl, _⟩ | ⟨g, cap, cur, rfl, hg, _⟩
  · simp [Value.ownBlock] at hk
  · simp [Value.ownBlock] at hk
    omega
theorem SO.form (h : SO w base ts v l) (hl : 0 < l.length) : ∃ g cap, v = .slice (some ⟨g, 0, none⟩) l.length cap ∧ l.length ≤ cap ∧ cap ≤ 9223372036854775807 ∧ base ≤ g ∧ g < w.heap.size ∧
    ∀ i s, l[i]? = some s → w.rangeAt g (i * 9 + 1) (nmR s.2) ∧ w.cell? ⟨g, i * 9, none⟩ = some (.string (bsOf s.1)) := by
  rcases h.2 with ⟨_, h0⟩ | ⟨g, cap, cur, rfl, hg, hh, hnc, hm, hcs, ht⟩
  · omega
  · have hcell : ∀ i s, l[i]? = some s → ∀ j, j < 9 → w.cell? ⟨g, i * 9 + j, none⟩ = (stR s)[j]? := fun i s hi j hj => by
      have hil : i < l.length := (List.getElem?_eq_some_iff.1 hi).1
      have h1 := stC_get l i s hi j hj
      rw [← ht, List.getElem?_take, if_pos (by omega)] at h1
      rw [cell_of_row w g (i * 9 + j) cur ts (0, 0) hh, ← h1]
      simp
    refine ⟨g, cap, rfl, hnc, by simp only [maxLen] at hm; omega, hg, (Array.getElem?_eq_some_iff.1 hh).1, fun i s hi => ⟨fun j u hj => ?_, ?_⟩⟩
    · have hj8 : j < 8 := (List.getElem?_eq_some_iff.1 hj).1
      have := hcell i s hi (j + 1) (by omega)
      have e : i * 9 + 1 + j = i * 9 + (j + 1) := by omega
      rw [e, this]
      exact hj
    · have := hcell i s hi 0 (by omega)
      rw [Nat.add_zero] at this
      exact this
theorem so_build (w : World) (ts : TypeId) (s : Step) : SO (w.alloc (.cells (stR s).toArray ts)) w.heap.size ts (.slice (some ⟨w.heap.size, 0, none⟩) 1 1) [s] :=
  ⟨rfl, .inr ⟨w.heap.size, 1, (stR s).toArray, rfl, Nat.le_refl _, heap_alloc_new w _, Nat.le_refl _, by simp [maxLen], rfl, rfl⟩⟩
end
/-- append of a node that lies in a new block. -/
theorem oper_append_so {P : Program} {w : World} {a : Act} {Q : Exit → Act → World → Prop} {o : Oper} {K : Act → World → Prop} (d : Nat) (s x : Operand) (t : TypeId)
    (ho : o.op = .call { callee := .builtin .append, args := #[s, x], argTypes := #[t, t] })
    (base : Nat) (e : TypeId) (i : TypeInfo) (z : Value) (bytes : Nat) (ht : P.underlying t = some (.slice e)) (hi : P.info? e = some i) (hz : i.zero = some z) (hzs : z.cells.size = 9) (hs : i.size = 9) (hb : i.bytes = bytes)
    (v : Value) (l : List Step) (hv : a.eval s = v) (h : SO w base e v l) (y : Step) (g : Nat) (te : TypeId) (hx : a.eval x = .slice (some ⟨g, 0, none⟩) 1 1) (hy : Is w g te (stR y).toArray) (hm : (l.length + 1) * bytes ≤ 140737488355328) (h63 : l.length + 1 ≤ maxLen) (hbase : base ≤ w.heap.size)
    (hK : ∀ v' w', SO w' base e v' (l ++ [y]) → w.grownBy w' v.ownBlock → K (a.put (some d) v') w') (hd : o.dst = some d := by rfl) : Oper.wp P o a w K Q := by
  have hnews : ∀ j u, (stR y)[j]? = some u → w.cell? ((⟨g, 0, none⟩ : Addr).add j) = some u := fun j u hj => by
    rw [add_plain, hy.cell, Nat.zero_add]
    simpa using hj
  obtain ⟨v', w', hr, h2, h3, _, _⟩ := run_append_own_at (P := P) w base t o.type e i z 9 bytes ht hi hz hs hb hzs (by omega) v l.length (stC l) h ⟨g, 0, none⟩ 1 1 (stR y) rfl hnews (by
    intro u hu
    exact stC_one [y] u (by simpa [stC] using hu)) h63 hm hbase
  unfold Oper.wp execOp
  simp only [ho, resolve, invoke, builtin, Sem.run_bind, Sem.run_pure, Result.andThen_ok, List.map_toArray, List.map_cons, List.map_nil, hv, hx, hr]
  have hfin : K (a.put o.dst v') w' := by
    rw [hd]
    refine hK _ _ ?_ h3
    unfold SO
    rw [stC_append, List.length_append]
    have e2 : stC [y] = stR y := by simp [stC]
    rw [e2]
    exact h2
  exact hfin
end Go.Fl
