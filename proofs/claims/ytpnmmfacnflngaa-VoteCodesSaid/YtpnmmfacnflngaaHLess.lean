/-
  hash.Less: names are ordered by their numbers.
-/
import Derived.Test.YtpnmmfacnflngaaHNum
import Derived.Deep.RegionHeld3
namespace Go.Proofs.Ytpnmmfacnflngaa
open Go.ChangeShapes Go.WideShapes Go.ChangeAt Go.RowKit Go.Fl

attribute [local go_sem] equal_nm eqGuard_nm

theorem less_any (x y : BitVec 64) (w : World) :
    Calls Try.prog 39 #[nm x, nm y] w fun e w' => e = .returned (.bool (ltB x y)) ∧ Below w.heap.size w w' := by
  by_cases h : x = y
  · subst h
    have he := nmEq_self x
    go_enter Try.func39, Try.ntmps39
    go_wp2
    go_ret
    exact ⟨by simp [ltB], ((Below.refl _ _).alloc (Nat.le_refl _) _).alloc (by simp) _⟩
  · have he := nmEq_ne h
    go_enter Try.func39, Try.ntmps39
    go_wp2
    have A1 := At.old (At.new w (nmC x) 24) (.cells (nmC y) 24) (by simp)
    have A2 := At.newAt (w.alloc (.cells (nmC x) 24)) (nmC y) 24 (g := w.heap.size + 1) (by simp)
    have A3 : Fr w 2 ((w.alloc (.cells (nmC x) 24)).alloc (.cells (nmC y) 24)) := ((Fr.refl w).alloc _).alloc _
    go_region_held3 (fun w' => Fr w 2 w' ∧ (∀ i, w'.cell? ⟨w.heap.size, i, none⟩ = (nmC x)[i]?) ∧ (∀ i, w'.cell? ⟨w.heap.size + 1, i, none⟩ = (nmC y)[i]?))
      (first | exact ⟨A3.drew, A1, A2⟩ | (go_split_ands; exact ⟨Fr.next hb (by assumption), Fr.cells (n := 2) hb (by assumption) (by omega) (by assumption), Fr.cells (n := 2) hb (by assumption) (by omega) (by assumption)⟩))
      (first | (go_at_call 48; refine (number_any _ _).mono ?_; rintro e w' ⟨rfl, hb⟩))
    go_split_ands
    go_wp2
    go_ret
    exact ⟨rfl, (by assumption : Fr w 2 _).1⟩
end Go.Proofs.Ytpnmmfacnflngaa
