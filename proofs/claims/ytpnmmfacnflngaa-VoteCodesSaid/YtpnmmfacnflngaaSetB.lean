/-
  One byte of a slice of the call's own is changed; a byte xored.
-/
import Derived.Test.YtpnmmfacnflngaaAppend
import Derived.Laws.Closers25b
namespace Go.Fl
open Go.ChangeShapes Go.WideShapes Go.ChangeAt Go.RowKit

theorem xor_u8 (a b : UInt8) : ∃ z : UInt8, bits .xor .u8 (ub a) (ub b) = ub z := ub_of _ (bits_lo_u8 _ _ _) (bits_hi_u8 _ _ _)

/-- One byte of a slice of the call's own. -/
theorem ob_set {w : World} {base : Nat} {tb : TypeId} {v : Value} {l : List UInt8} (h : OB w base tb v l) (j : Nat) (hj : j < l.length) :
    ∃ g cap b, v = .slice (some ⟨g, 0, none⟩) l.length cap ∧ base ≤ g ∧ g < w.heap.size ∧ l[j]? = some b ∧ w.cell? ⟨g, j, none⟩ = some (B b) ∧ w.frozen? ⟨g, j, none⟩ = false ∧ ∀ z, OB (w.setCell ⟨g, j, none⟩ (B z)) base tb v (l.set j z) := by
  obtain ⟨hl, h0 | ⟨g, cap, cur, rfl, hg, hh, hn, hm, hs, ht⟩⟩ := h
  · omega
  · have hcur : j < cur.size := by omega
    have hb : (l.map B)[j]? = some (B l[j]) := by simp [hj]
    have hc : cur[j]? = some (B l[j]) := by
      rw [← ht, Nat.mul_one, List.getElem?_take, if_pos hj] at hb
      simpa using hb
    refine ⟨g, cap, l[j], rfl, hg, (Array.getElem?_eq_some_iff.1 hh).1, by simp [hj], by rw [cell_of_row w g j cur tb (0, 0) hh]; exact hc, frozen_of_row w g j cur tb hh, fun z => ?_⟩
    refine ⟨by simp, .inr ⟨g, cap, cur.setIfInBounds j (B z), by simp, hg, ?_, by simpa using hn, hm, by simpa using hs, ?_⟩⟩
    · have e := setCell_eq_setRow w g j cur tb (0, 0) (B z) hh
      rw [e]
      exact setRow_heap w g cur _ tb _ hh
    · rw [Nat.mul_one] at ht ⊢
      rw [List.length_set, Array.toList_setIfInBounds, List.take_set, ht, List.map_set]
end Go.Fl
