/-
  One step of the hash, as the program and as the reference compute it: both are the function 'mix' of two 64 bit numbers.
-/
import Derived.Test.YtfmhfkmigfhleaaNum
namespace Go.Proofs.Ytfmhfkmigfhleaa
open Go.ChangeShapes Go.WideShapes Go.ChangeAt Go.RowKit Go.Fl

theorem wrap_iu (n : Int) : IntKind.u64.wrap n = iu (BitVec.ofInt 64 n) := by
  rw [IntKind.wrap_u64]
  unfold iu
  rw [BitVec.toNat_ofInt]
  omega
theorem ofInt_iu (x : BitVec 64) : BitVec.ofInt 64 (iu x) = x := by
  unfold iu
  rw [BitVec.ofInt_natCast]
  simp
theorem wrap_add_iu (x y : BitVec 64) : IntKind.u64.wrap (iu x + iu y) = iu (x + y) := by
  rw [wrap_iu, BitVec.ofInt_add, ofInt_iu, ofInt_iu]
theorem bits_xor_iu (x y : BitVec 64) : bits .xor .u64 (iu x) (iu y) = iu (x ^^^ y) := by
  show IntKind.u64.wrap ((BitVec.ofInt 64 (iu x) ^^^ BitVec.ofInt 64 (iu y)).toNat : Int) = _
  rw [ofInt_iu, ofInt_iu, wrap_iu, BitVec.ofInt_natCast]
  simp
theorem bits_or_iu (x y : BitVec 64) : bits .or .u64 (iu x) (iu y) = iu (x ||| y) := by
  show IntKind.u64.wrap ((BitVec.ofInt 64 (iu x) ||| BitVec.ofInt 64 (iu y)).toNat : Int) = _
  rw [ofInt_iu, ofInt_iu, wrap_iu, BitVec.ofInt_natCast]
  simp

def rot13 (x : BitVec 64) : BitVec 64 := BitVec.ofInt 64 (iu x * 8192) ||| BitVec.ofInt 64 (iu x / 2251799813685248)
def rot32 (x : BitVec 64) : BitVec 64 := BitVec.ofInt 64 (iu x * 4294967296) ||| BitVec.ofInt 64 (iu x / 4294967296)
theorem rot13_iu (x : BitVec 64) : bits .or .u64 (IntKind.u64.wrap (iu x * 8192)) (iu x / 2251799813685248) = iu (rot13 x) := by
  have h0 := iu_lo x
  have h1 := iu_hi x
  have e : iu x / 2251799813685248 = iu (BitVec.ofInt 64 (iu x / 2251799813685248)) := by
    rw [← wrap_iu, IntKind.wrap_u64]
    omega
  rw [wrap_iu, e, bits_or_iu]
  rfl
theorem rot32_iu (x : BitVec 64) : bits .or .u64 (IntKind.u64.wrap (iu x * 4294967296)) (iu x / 4294967296) = iu (rot32 x) := by
  have h0 := iu_lo x
  have h1 := iu_hi x
  have e : iu x / 4294967296 = iu (BitVec.ofInt 64 (iu x / 4294967296)) := by
    rw [← wrap_iu, IntKind.wrap_u64]
    omega
  rw [wrap_iu, e, bits_or_iu]
  rfl

theorem rot13_any (x : BitVec 64) (w : World) : Calls Try.prog 27 #[U x, .int .i64 13] w fun e w' => e = .returned (U (rot13 x)) ∧ w = w' := by
  have h0 := iu_lo x
  have h1 := iu_hi x
  have h2 : bits .and .u64 13 63 = 13 := by kernel_rfl
  go_enter Try.func27, Try.ntmps27
  go_wp2
  go_ret
  exact ⟨by rw [rot13_iu]; rfl, rfl⟩
theorem rot32_any (x : BitVec 64) (w : World) : Calls Try.prog 27 #[U x, .int .i64 32] w fun e w' => e = .returned (U (rot32 x)) ∧ w = w' := by
  have h0 := iu_lo x
  have h1 := iu_hi x
  have h2 : bits .and .u64 32 63 = 32 := by kernel_rfl
  go_enter Try.func27, Try.ntmps27
  go_wp2
  go_ret
  exact ⟨by rw [rot32_iu]; rfl, rfl⟩

/-- What one step makes of two numbers. -/
def mixY (x y : BitVec 64) : BitVec 64 := rot13 y ^^^ (x + y)
def mixX (x y : BitVec 64) : BitVec 64 := BitVec.ofInt 64 (iu (rot32 (x + y)) * 11400714819323198485)
theorem mixX_iu (x y : BitVec 64) : IntKind.u64.wrap (iu (rot32 (x + y)) * 11400714819323198485) = iu (mixX x y) := wrap_iu _

attribute [local go_sem] wrap_add_iu bits_xor_iu

theorem mix_any (x y : BitVec 64) (w : World) : Calls Try.prog 25 #[U x, U y] w fun e w' => e = .returned (.tuple #[U (mixX x y), U (mixY x y)]) ∧ w = w' := by
  go_enter Try.func25, Try.ntmps25
  go_wp2_with fail
  refine (rot13_any _ _).mono ?_; rintro e w1 ⟨rfl, rfl⟩
  go_wp2_with fail
  refine (rot32_any _ _).mono ?_; rintro e w1 ⟨rfl, rfl⟩
  go_wp2_with fail
  go_ret2
  exact ⟨by rw [mixX_iu]; rfl, rfl⟩
end Go.Proofs.Ytfmhfkmigfhleaa
