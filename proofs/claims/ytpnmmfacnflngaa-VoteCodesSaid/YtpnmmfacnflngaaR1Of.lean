/-
  forkledgerref1.Of.
-/
import Derived.Test.YtpnmmfacnflngaaSeat
namespace Go.Proofs.Ytpnmmfacnflngaa
open Go.ChangeShapes Go.WideShapes Go.ChangeAt Go.RowKit Go.Fl

theorem rof_any (x : BitVec 64) (w : World) :
    Calls Try.prog 53 #[U x] w fun e w' => e = .returned (nm x) ∧ Below w.heap.size w w' := by
  have lo := iu_lo x
  have hi := iu_hi x
  go_enter Try.func53, Try.ntmps53
  go_wp2
  refine bodyPost_ret (v := nm x) ?_ rfl ⟨rfl, (Below.refl _ _).alloc (Nat.le_refl _) _⟩
  obtain ⟨b0, b1, b2, b3, b4, b5, b6, b7⟩ := iu_bytes x
  rw [b0, b1, b2, b3, b4, b5, b6, b7]
  simp [results, Try.results53, go_sem]
end Go.Proofs.Ytpnmmfacnflngaa
