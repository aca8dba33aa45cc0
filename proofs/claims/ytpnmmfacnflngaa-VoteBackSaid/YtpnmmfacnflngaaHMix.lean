/-
  hash.mix: one step of the hash.
-/
import Derived.Test.YtpnmmfacnflngaaSeat
namespace Go.Proofs.Ytpnmmfacnflngaa
open Go.ChangeShapes Go.WideShapes Go.ChangeAt Go.RowKit Go.Fl

attribute [local go_sem] wrap_add_iu bits_xor_iu

theorem rot13_any (x : BitVec 64) (w : World) : Calls Try.prog 54 #[U x, .int .i64 13] w fun e w' => e = .returned (U (rot13 x)) ∧ w = w' := by
  have h0 := iu_lo x
  have h1 := iu_hi x
  have h2 : bits .and .u64 13 63 = 13 := by kernel_rfl
  go_enter Try.func54, Try.ntmps54
  go_wp2
  go_ret
  exact ⟨by rw [rot13_iu]; rfl, rfl⟩

theorem rot32_any (x : BitVec 64) (w : World) : Calls Try.prog 54 #[U x, .int .i64 32] w fun e w' => e = .returned (U (rot32 x)) ∧ w = w' := by
  have h0 := iu_lo x
  have h1 := iu_hi x
  have h2 : bits .and .u64 32 63 = 32 := by kernel_rfl
  go_enter Try.func54, Try.ntmps54
  go_wp2
  go_ret
  exact ⟨by rw [rot32_iu]; rfl, rfl⟩

theorem mix_any (x y : BitVec 64) (w : World) : Calls Try.prog 47 #[U x, U y] w fun e w' => e = .returned (.tuple #[U (mixX x y), U (mixY x y)]) ∧ w = w' := by
  go_enter Try.func47, Try.ntmps47
  go_wp2_with fail
  refine (rot13_any _ _).mono ?_; rintro e w1 ⟨rfl, rfl⟩
  go_wp2_with fail
  refine (rot32_any _ _).mono ?_; rintro e w1 ⟨rfl, rfl⟩
  go_wp2_with fail
  go_ret2
  exact ⟨by rw [mixX_iu]; rfl, rfl⟩
end Go.Proofs.Ytpnmmfacnflngaa
