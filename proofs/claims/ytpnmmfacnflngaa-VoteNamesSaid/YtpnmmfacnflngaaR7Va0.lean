/-
  forkledgerref6: agreement.
-/
import Derived.Test.YtpnmmfacnflngaaVote
import Derived.Test.YtpnmmfacnflngaaSeat
import Derived.BigQuiet
namespace Go.Proofs.Ytpnmmfacnflngaa
open Go.ChangeShapes Go.WideShapes Go.ChangeAt Go.RowKit Go.Fl

attribute [local go_sem] equal_nm eqGuard_nm

theorem ragree_any (k : Int) (w : World) : Calls Try.prog 32 #[.int .i64 k] w fun e w' => e = .returned (.bool (agreeF k)) ∧ w = w' := by
  unfold agreeF
  by_cases h1 : 1 ≤ k
  · by_cases h4 : k ≤ 4
    · rw [decide_eq_true ⟨h1, h4⟩]
      go_enter Try.func32, Try.ntmps32
      go_wp2
      go_ret
      exact ⟨rfl, rfl⟩
    · rw [decide_eq_false (fun h => h4 h.2)]
      go_enter Try.func32, Try.ntmps32
      go_wp2
      go_ret
      exact ⟨rfl, rfl⟩
  · rw [decide_eq_false (fun h => h1 h.1)]
    go_enter Try.func32, Try.ntmps32
    go_wp2
    go_ret
    exact ⟨rfl, rfl⟩

theorem val_range {w : World} {g : Nat} {t : TypeId} {v : VoteV} (h : Is w g t (voteC v)) : w.rangeAt g 14 (nmR v.value) := fun i u hi => by
  rw [h.cell (14 + i)]
  have : i < 8 := (List.getElem?_eq_some_iff.1 hi).1
  have : i = 0 ∨ i = 1 ∨ i = 2 ∨ i = 3 ∨ i = 4 ∨ i = 5 ∨ i = 6 ∨ i = 7 := by omega
  rcases this with rfl | rfl | rfl | rfl | rfl | rfl | rfl | rfl <;> exact hi

end Go.Proofs.Ytpnmmfacnflngaa
