/-
  Sets of ids: what and, or and andNot do to the bits; counting; who is among the least ones.
-/
import Derived.Test.YtpnmmfacnflngaaComm
import Derived.Laws.Closers25b
namespace Go.Fl
open Go.ChangeShapes Go.WideShapes Go.ChangeAt Go.RowKit

theorem ofInt_wrap (v : BitVec 64) : BitVec.ofInt 64 (IntKind.i64.wrap (v.toNat : Int)) = v := by
  apply BitVec.eq_of_toNat_eq
  have := v.isLt
  rw [BitVec.toNat_ofInt, IntKind.wrap_i64]
  omega
theorem bitM_and (a b : Int) (i : Nat) : bitM (bits .and .i64 a b) i = (bitM a i && bitM b i) := by
  have h : bits .and .i64 a b = IntKind.i64.wrap ((BitVec.ofInt 64 a &&& BitVec.ofInt 64 b).toNat : Int) := rfl
  unfold bitM
  rw [h, ofInt_wrap, BitVec.getLsbD_and]
theorem bitM_or (a b : Int) (i : Nat) : bitM (bits .or .i64 a b) i = (bitM a i || bitM b i) := by
  have h : bits .or .i64 a b = IntKind.i64.wrap ((BitVec.ofInt 64 a ||| BitVec.ofInt 64 b).toNat : Int) := rfl
  unfold bitM
  rw [h, ofInt_wrap, BitVec.getLsbD_or]
theorem bitM_andNot (a b : Int) (i : Nat) (hi : i < 64) : bitM (bits .andNot .i64 a b) i = (bitM a i && !bitM b i) := by
  have h : bits .andNot .i64 a b = IntKind.i64.wrap ((BitVec.ofInt 64 a &&& ~~~ BitVec.ofInt 64 b).toNat : Int) := rfl
  unfold bitM
  rw [h, ofInt_wrap, BitVec.getLsbD_and, BitVec.getLsbD_not]
  simp [hi]
theorem I64_bits (op : BinOp) (a b : Int) : I64 (bits op .i64 a b) := ⟨bits_lo_i64 _ _ _, bits_hi_i64 _ _ _⟩
theorem zero_of_bits {x : Int} (hx : I64 x) (h : ∀ i, i < 64 → bitM x i = false) : x = 0 := by
  have e : BitVec.ofInt 64 x = 0 := by
    apply BitVec.eq_of_getLsbD_eq
    intro i hi
    have := h i hi
    unfold bitM at this
    rw [this]
    simp
  have e2 := congrArg BitVec.toNat e
  rw [BitVec.toNat_ofInt] at e2
  obtain ⟨h1, h2⟩ := hx
  simp at e2
  omega

/-- Counting. -/
theorem count_meet (p q r : Nat → Bool) (h1 : ∀ i, p i = true → r i = true) (h2 : ∀ i, q i = true → r i = true) (L : List Nat) :
    (L.filter p).length + (L.filter q).length ≤ (L.filter fun i => p i && q i).length + (L.filter r).length := by
  induction L with
  | nil => simp
  | cons x L ih =>
    simp only [List.filter_cons]
    cases hp : p x <;> cases hq : q x <;> cases hr : r x <;> simp only [Bool.and_self, Bool.and_true, Bool.and_false, if_true, if_false, Bool.false_eq_true, List.length_cons] <;> first | omega | (have := h1 x hp; rw [hr] at this; cases this) | (have := h2 x hq; rw [hr] at this; cases this)
theorem count_le (p q : Nat → Bool) (h : ∀ i, p i = true → q i = true) (L : List Nat) : (L.filter p).length ≤ (L.filter q).length := by
  induction L with
  | nil => simp
  | cons x L ih =>
    simp only [List.filter_cons]
    cases hp : p x <;> cases hq : q x <;> simp only [if_true, if_false, Bool.false_eq_true, List.length_cons] <;> first | omega | (have := h x hp; rw [hq] at this; cases this)

/-- Who is among the s least ids. -/
theorem mem_take_filter (p : Nat → Bool) (s : Nat) : ∀ n j : Nat, j ∈ ((List.range n).filter p).take s ↔ j < n ∧ p j = true ∧ ((List.range j).filter p).length < s := by
  intro n
  induction n with
  | zero => intro j; simp
  | succ n ih =>
    intro j
    have hs : (List.range (n + 1)).filter p = (List.range n).filter p ++ (if p n then [n] else []) := by
      rw [List.range_succ, List.filter_append]
      congr 1
      by_cases h : p n = true
      · simp [h]
      · simp [h]
    rw [hs]
    cases hp : p n with
    | false =>
      rw [if_neg (by simp), List.append_nil, ih]
      constructor
      · rintro ⟨h1, h2, h3⟩; exact ⟨by omega, h2, h3⟩
      · rintro ⟨h1, h2, h3⟩
        have : j ≠ n := fun e => by rw [e, hp] at h2; cases h2
        exact ⟨by omega, h2, h3⟩
    | true =>
      rw [if_pos rfl, List.take_append]
      simp only [List.mem_append, ih]
      constructor
      · rintro (⟨h1, h2, h3⟩ | h)
        · exact ⟨by omega, h2, h3⟩
        · have hm := List.mem_of_mem_take h
          simp only [List.mem_singleton] at hm
          subst hm
          refine ⟨by omega, hp, ?_⟩
          rcases Nat.lt_or_ge ((List.range j).filter p).length s with h4 | h4
          · exact h4
          · rw [show s - ((List.range j).filter p).length = 0 by omega] at h
            simp at h
      · rintro ⟨h1, h2, h3⟩
        by_cases e : j = n
        · subst e
          right
          obtain ⟨d, hd⟩ : ∃ d, s - ((List.range j).filter p).length = d + 1 := ⟨s - ((List.range j).filter p).length - 1, by omega⟩
          rw [hd]
          simp
        · exact Or.inl ⟨by omega, h2, h3⟩
theorem free_range (v g : Int) (j : Nat) (h : (j : Int) ≤ v) : (List.range j).filter (fun i : Nat => decide ((i : Int) < v) && !bitM g i) = (List.range j).filter fun i => !bitM g i := by
  apply List.filter_congr
  intro a ha
  have ha := List.mem_range.1 ha
  rw [decide_eq_true (by omega), Bool.true_and]
theorem mem_free (v g : Int) (s j : Nat) : j ∈ (freeF v g).take s ↔ j < 10 ∧ (j : Int) < v ∧ bitM g j = false ∧ ((List.range j).filter fun i => !bitM g i).length < s := by
  unfold freeF
  rw [mem_take_filter]
  constructor
  · rintro ⟨h1, h2, h3⟩
    simp only [Bool.and_eq_true, decide_eq_true_eq, Bool.not_eq_true'] at h2
    rw [free_range v g j (by omega)] at h3
    exact ⟨h1, h2.1, h2.2, h3⟩
  · rintro ⟨h1, h2, h3, h4⟩
    rw [free_range v g j (by omega)]
    exact ⟨h1, by simp [h2, h3], h4⟩
theorem take_sub10 {l : List Nat} (h : l.Sublist (List.range 10)) (s : Nat) : (l.take s).Sublist (List.range 10) := (List.take_sublist _ _).trans h
theorem I64_orF {l : List Nat} (h : l.Sublist (List.range 10)) : I64 ((orF l : Nat) : Int) := by
  have := orF_lt h
  exact ⟨by omega, by omega⟩

/-! ### Select -/
theorem stay_out (v g : Int) (s : Nat) : bits .and .i64 (orF ((freeF v g).take s) : Int) g = 0 := by
  refine zero_of_bits (I64_bits _ _ _) fun i hi => ?_
  rw [bitM_and, bitM_orF _ _ hi]
  cases hg : bitM g i with
  | false => simp
  | true =>
    have : i ∉ (freeF v g).take s := fun h => by have := ((mem_free v g s i).1 h).2.2.1; rw [hg] at this; cases this
    simp [this]
theorem stay_in (v g more : Int) (s : Nat) : bits .andNot .i64 (bits .andNot .i64 (orF ((freeF v g).take s) : Int) more) (orF ((freeF v (bits .or .i64 g more)).take s) : Int) = 0 := by
  refine zero_of_bits (I64_bits _ _ _) fun i hi => ?_
  rw [bitM_andNot _ _ _ hi, bitM_andNot _ _ _ hi, bitM_orF _ _ hi, bitM_orF _ _ hi]
  cases hm : bitM more i with
  | true => simp
  | false =>
    by_cases h : i ∈ (freeF v g).take s
    · obtain ⟨h1, h2, h3, h4⟩ := (mem_free v g s i).1 h
      have h5 : i ∈ (freeF v (bits .or .i64 g more)).take s := by
        refine (mem_free v _ s i).2 ⟨h1, h2, by rw [bitM_or, h3, hm]; rfl, Nat.lt_of_le_of_lt (count_le _ _ (fun a ha => ?_) _) h4⟩
        rw [bitM_or] at ha
        cases hb : bitM g a with
        | false => rfl
        | true => rw [hb] at ha; cases ha
      simp [h5]
    · simp [h]
theorem stay_full (v g : Int) (s i : Nat) (hi : (i : Int) < v) (hi2 : i < 10) (h1 : i ∉ (freeF v g).take s) (h2 : bitM g i = false) : ((freeF v g).take s).length = s ∧ ∀ x ∈ (freeF v g).take s, x ≤ i := by
  have h3 : s ≤ ((List.range i).filter fun a => !bitM g a).length := by
    rcases Nat.lt_or_ge ((List.range i).filter fun a => !bitM g a).length s with h | h
    · exact absurd ((mem_free v g s i).2 ⟨hi2, hi, h2, h⟩) h1
    · exact h
  constructor
  · rw [List.length_take]
    have h4 : ((List.range i).filter fun a => !bitM g a).length ≤ (freeF v g).length := by
      rw [← free_range v g i (by omega)]
      unfold freeF
      exact (List.Sublist.filter _ (List.range_sublist.2 (by omega))).length_le
    omega
  · intro x hx
    obtain ⟨a1, a2, a3, a4⟩ := (mem_free v g s x).1 hx
    rcases Nat.lt_or_ge i x with h | h
    · have h5 : ((List.range i).filter fun a => !bitM g a).length ≤ ((List.range x).filter fun a => !bitM g a).length := (List.Sublist.filter _ (List.range_sublist.2 (by omega))).length_le
      omega
    · exact h
/-! ### Lowest -/
theorem low_in (m : Int) (k : Nat) : bits .andNot .i64 (orF ((idsF m).take k) : Int) m = 0 := by
  refine zero_of_bits (I64_bits _ _ _) fun i hi => ?_
  rw [bitM_andNot _ _ _ hi, bitM_orF _ _ hi]
  by_cases h : i ∈ (idsF m).take k
  · have h2 := List.mem_of_mem_take h
    unfold idsF at h2
    have := (List.mem_filter.1 h2).2
    simp [this]
  · simp [h]
theorem ids_sorted (m : Int) : (idsF m).Pairwise (· < ·) := List.Pairwise.sublist (idsF_sub m) List.pairwise_lt_range
theorem ids_at (m : Int) {i j a b : Nat} (h : i < j) (ha : (idsF m)[i]? = some a) (hb : (idsF m)[j]? = some b) : a < b := by
  obtain ⟨h1, e1⟩ := List.getElem?_eq_some_iff.1 ha
  obtain ⟨h2, e2⟩ := List.getElem?_eq_some_iff.1 hb
  have := List.pairwise_iff_getElem.1 (ids_sorted m) i j h1 h2 h
  omega
theorem low_has (m : Int) (k : Nat) {i x : Nat} (hx : (idsF m)[i]? = some x) : hasF (orF ((idsF m).take k) : Int) (x : Int) = decide (i < k) := by
  have hx10 : x < 10 := List.mem_range.1 ((idsF_sub m).subset (List.mem_of_getElem? hx))
  unfold hasF
  rw [decide_eq_true (show (0 : Int) ≤ (x : Int) ∧ (x : Int) < 10 by omega), Bool.true_and, Int.toNat_natCast, bitM_orF _ _ (by omega), decide_eq_decide]
  constructor
  · intro h
    obtain ⟨j, hj⟩ := List.getElem?_of_mem h
    rw [List.getElem?_take] at hj
    split at hj
    · rename_i hjk
      have : i = j := by
        rcases Nat.lt_trichotomy i j with h | h | h
        · have := ids_at m h hx hj; omega
        · exact h
        · have := ids_at m h hj hx; omega
      omega
    · cases hj
  · intro h
    refine List.mem_of_getElem? (i := i) ?_
    rw [List.getElem?_take, if_pos h]
    exact hx
theorem idsF_len (m : Int) : (idsF m).length ≤ 10 := by have := (idsF_sub m).length_le; simpa using this
theorem hasF_nat (m : Int) (i : Nat) (hi : i < 10) : hasF m (i : Int) = bitM m i := by
  unfold hasF
  rw [decide_eq_true (show (0 : Int) ≤ (i : Int) ∧ (i : Int) < 10 by omega), Bool.true_and, Int.toNat_natCast]
/-! ### Quorums meet -/
theorem size_meet (a b c : Int) : ((idsF (bits .and .i64 a c)).length : Int) + ((idsF (bits .and .i64 b c)).length : Int) ≤ ((idsF (bits .and .i64 (bits .and .i64 a c) (bits .and .i64 b c))).length : Int) + ((idsF c).length : Int) := by
  have h := count_meet (bitM (bits .and .i64 a c)) (bitM (bits .and .i64 b c)) (bitM c) (fun i h => by rw [bitM_and] at h; simp at h; exact h.2) (fun i h => by rw [bitM_and] at h; simp at h; exact h.2) (List.range 10)
  have e : (fun i => bitM (bits .and .i64 a c) i && bitM (bits .and .i64 b c) i) = bitM (bits .and .i64 (bits .and .i64 a c) (bits .and .i64 b c)) := funext fun i => (bitM_and _ _ i).symm
  rw [e] at h
  unfold idsF
  omega
end Go.Fl
