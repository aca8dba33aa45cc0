/-
  Closed facts on the types of this translation.
-/
import Derived.Test.YtpnmmfacnflngaaRows
import Derived.Test.YtpnmmfacnflngaaPure
namespace Go.Proofs.Ytpnmmfacnflngaa
open Go.ChangeShapes Go.WideShapes Go.ChangeAt Go.RowKit Go.Fl

theorem info_byte : (Try.prog.info? 5).map (fun i => (i.zero, i.size, i.bytes)) = some (some (.int .u8 0), 1, 1) := by kernel_rfl

theorem info_name : (Try.prog.info? 24).map (fun i => (i.zero, i.size, i.bytes)) = some (some (.agg #[.int .u8 0, .int .u8 0, .int .u8 0, .int .u8 0, .int .u8 0, .int .u8 0, .int .u8 0, .int .u8 0]), 8, 8) := by kernel_rfl

theorem eqGuard_nm : Try.prog.eqGuardType Try.prog.depth 24 = false := by kernel_rfl

theorem equal_nm (x y : BitVec 64) (w : World) : (Op.equalIn 10000 24 (nm x) (nm y)).run Try.prog w = .ok (nmEq x y) w := by
  obtain ⟨i, hi, _, hz, _⟩ := info_parts info_byte
  exact run_equalIn_nm Try.underlying24 Try.underlying5 hi hz 9998 x y w

theorem name_info : (Try.prog.info? 24).map (·.size) = some 8 := by kernel_rfl

theorem byte_info : (Try.prog.info? 5).map (·.size) = some 1 := by kernel_rfl

/-- Bytes that lie in memory, nil let in, as a string. -/
theorem run_convert_rb {n : Nat} {A : Option Addr} {l : List UInt8} (m c : Nat) (hm : m = l.length) (w : World) (h : RB w n A l) :
    (convert 29 9 (.slice A m c)).run Try.prog w = .ok (.string (bsOf l)) w := by
  subst hm
  cases A with
  | none =>
    obtain rfl := rb_none w h
    rw [run_convert_bytes_string w 29 9 5 none _ c Try.underlying29 Try.underlying5 Try.underlying9]
    rfl
  | some ad => exact run_convert_bytes Try.underlying29 Try.underlying5 Try.underlying9 ad l c w (fun i b hb => rb_news w h i (B b) (by simp [hb]))
end Go.Proofs.Ytpnmmfacnflngaa
