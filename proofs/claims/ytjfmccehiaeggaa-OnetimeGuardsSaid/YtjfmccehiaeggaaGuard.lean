/-
  Of two unlike names some digit of the first is less than that of the second.
-/
import Derived.Test.YtjfmccehiaeggaaOneS
namespace Go.Fl
open Go.ChangeShapes Go.WideShapes Go.ChangeAt Go.RowKit

theorem sum_le : ∀ (l m : List Nat), l.length = m.length → (∀ i, l.getD i 0 ≤ m.getD i 0) → l.sum ≤ m.sum ∧ (l.sum = m.sum → l = m) := by
  intro l
  induction l with
  | nil => intro m hm _; have : m = [] := List.eq_nil_of_length_eq_zero hm.symm; subst this; simp
  | cons x l ih =>
    intro m hm h
    cases m with
    | nil => simp at hm
    | cons y m =>
      have h0 := h 0
      simp at h0
      obtain ⟨h1, h2⟩ := ih m (by simpa using hm) (fun i => by have := h (i + 1); simpa using this)
      simp only [List.sum_cons]
      refine ⟨by omega, fun e => ?_⟩
      have e1 : l.sum = m.sum := by omega
      have e2 : x = y := by omega
      rw [h2 e1, e2]
theorem halfs_inj {a b : BitVec 64} (h : halfs a = halfs b) : a = b := by
  apply nm_inj
  intro i hi
  have key : ∀ k, k < 16 → (halfs a).getD k 0 = (halfs b).getD k 0 := fun k _ => by rw [h]
  have one : ∀ j, j < 8 → (nb a j).toNat / 16 = (nb b j).toNat / 16 ∧ (nb a j).toNat % 16 = (nb b j).toNat % 16 := by
    intro j hj
    have : j = 0 ∨ j = 1 ∨ j = 2 ∨ j = 3 ∨ j = 4 ∨ j = 5 ∨ j = 6 ∨ j = 7 := by omega
    rcases this with rfl | rfl | rfl | rfl | rfl | rfl | rfl | rfl
    · exact ⟨key 0 (by omega), key 1 (by omega)⟩
    · exact ⟨key 2 (by omega), key 3 (by omega)⟩
    · exact ⟨key 4 (by omega), key 5 (by omega)⟩
    · exact ⟨key 6 (by omega), key 7 (by omega)⟩
    · exact ⟨key 8 (by omega), key 9 (by omega)⟩
    · exact ⟨key 10 (by omega), key 11 (by omega)⟩
    · exact ⟨key 12 (by omega), key 13 (by omega)⟩
    · exact ⟨key 14 (by omega), key 15 (by omega)⟩
  obtain ⟨h1, h2⟩ := one i hi
  apply UInt8.toNat_inj.1
  omega
/-- Of two unlike names some digit of the first is less than that of the second. -/
theorem guards {a b : BitVec 64} (hab : a ≠ b) : ∃ i, i < 18 ∧ (digF a).getD i 0 < (digF b).getD i 0 := by
  apply Classical.byContradiction
  intro hno
  have hle : ∀ i, i < 18 → (digF b).getD i 0 ≤ (digF a).getD i 0 := fun i hi => by
    apply Classical.byContradiction
    intro h
    exact hno ⟨i, hi, by omega⟩
  have hh : ∀ i, (halfs b).getD i 0 ≤ (halfs a).getD i 0 := fun i => by
    by_cases hi : i < 16
    · have := hle i (by omega)
      have e : ∀ m : BitVec 64, (digF m).getD i 0 = (halfs m).getD i 0 := fun m => by
        simp only [digF, List.getD_eq_getElem?_getD]
        rw [List.getElem?_append_left (by rw [halfs_len]; exact hi)]
      rw [e, e] at this
      exact this
    · have e : ∀ m : BitVec 64, (halfs m).getD i 0 = 0 := fun m => by
        rw [List.getD_eq_getElem?_getD, List.getElem?_eq_none (by rw [halfs_len]; omega)]
        rfl
      rw [e, e]
      exact Nat.le_refl _
  obtain ⟨h1, h2⟩ := sum_le (halfs b) (halfs a) (by rw [halfs_len, halfs_len]) hh
  have h3 : (halfs b).sum ≠ (halfs a).sum := fun e => hab (halfs_inj (h2 e)).symm
  have b1 := half_sum a 8 (Nat.le_refl _)
  have e8 : ∀ m : BitVec 64, (halfs m).take (2 * 8) = halfs m := fun m => List.take_of_length_le (by rw [halfs_len]; omega)
  rw [e8] at b1
  have h16 := hle 16 (by omega)
  have h17 := hle 17 (by omega)
  have e16 : ∀ m : BitVec 64, (digF m).getD 16 0 = restF m / 16 := fun m => rfl
  have e17 : ∀ m : BitVec 64, (digF m).getD 17 0 = restF m % 16 := fun m => rfl
  rw [e16, e16] at h16
  rw [e17, e17] at h17
  have r : restF a < restF b := by unfold restF; omega
  omega
end Go.Fl
