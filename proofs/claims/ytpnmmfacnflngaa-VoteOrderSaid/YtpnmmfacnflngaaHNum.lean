/-
  hash.Number and hash.Of: a name and its number, each way.
-/
import Derived.Test.YtpnmmfacnflngaaSeat
namespace Go.Proofs.Ytpnmmfacnflngaa
open Go.ChangeShapes Go.WideShapes Go.ChangeAt Go.RowKit Go.Fl

theorem number_any (x : BitVec 64) (w : World) :
    Calls Try.prog 48 #[nm x] w fun e w' => e = .returned (U x) ∧ Below w.heap.size w w' := by
  have l0 := ub_lo (nb x 0); have u0 := ub_hi (nb x 0)
  have l1 := ub_lo (nb x 1); have u1 := ub_hi (nb x 1)
  have l2 := ub_lo (nb x 2); have u2 := ub_hi (nb x 2)
  have l3 := ub_lo (nb x 3); have u3 := ub_hi (nb x 3)
  have l4 := ub_lo (nb x 4); have u4 := ub_hi (nb x 4)
  have l5 := ub_lo (nb x 5); have u5 := ub_hi (nb x 5)
  have l6 := ub_lo (nb x 6); have u6 := ub_hi (nb x 6)
  have l7 := ub_lo (nb x 7); have u7 := ub_hi (nb x 7)
  go_enter Try.func48, Try.ntmps48
  go_wp2
  go_ret
  exact ⟨by rw [or_bytes]; rfl, (Below.refl _ _).alloc (Nat.le_refl _) _⟩

theorem of_any (x : BitVec 64) (w : World) :
    Calls Try.prog 49 #[U x] w fun e w' => e = .returned (nm x) ∧ Below w.heap.size w w' := by
  have lo := iu_lo x
  have hi := iu_hi x
  go_enter Try.func49, Try.ntmps49
  go_wp2
  refine bodyPost_ret (v := nm x) ?_ rfl ⟨rfl, (Below.refl _ _).alloc (Nat.le_refl _) _⟩
  obtain ⟨b0, b1, b2, b3, b4, b5, b6, b7⟩ := iu_bytes x
  rw [b0, b1, b2, b3, b4, b5, b6, b7]
  simp [results, Try.results49, go_sem]
end Go.Proofs.Ytpnmmfacnflngaa
