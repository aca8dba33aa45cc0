/-
  math/bits.Len of a number above 0 is the number of its highest bit and one; the library's own text is walked.
-/
import Derived.Test.YtllciohpphngiaaSeat
import Derived.Lib.Walk
import Derived.Lib.Small
import Derived.Lib.BitFns
namespace Go.Proofs.Ytllciohpphngiaa
open Go.ChangeShapes Go.WideShapes Go.ChangeAt Go.RowKit Go.Fl

theorem log2_up (x b : Nat) (h : 2 ^ b ≤ x) : Nat.log2 x = b + Nat.log2 (x / 2 ^ b) := by
  have hp : 0 < 2 ^ b := Nat.two_pow_pos b
  have h1 : x / 2 ^ b ≠ 0 := by rw [Nat.div_ne_zero_iff]; omega
  have hx : x ≠ 0 := by omega
  have h2 := Nat.log2_self_le h1
  have h3 := @Nat.lt_log2_self (x / 2 ^ b)
  rw [Nat.log2_eq_iff hx]
  refine ⟨?_, ?_⟩
  · rw [Nat.add_comm b, Nat.pow_add]
    exact (Nat.le_div_iff_mul_le hp).1 h2
  · rw [show b + Nat.log2 (x / 2 ^ b) + 1 = (Nat.log2 (x / 2 ^ b) + 1) + b by omega, Nat.pow_add]
    exact (Nat.div_lt_iff_lt_mul hp).1 h3
theorem bits_small : ∀ n : Fin 256, n.val ≠ 0 → Lib.bitLen n.val = Nat.log2 n.val + 1 := by decide +kernel
/-- What the table says of a byte above 0. -/
theorem len8_log (b : Int) (k : Nat) (hb : b = (k : Int)) (h1 : 1 ≤ k) (h2 : k ≤ 255) : Lib.len8 b = (Nat.log2 k : Int) + 1 := by
  subst hb
  rw [Lib.len8_of _ (by omega) (by omega), Int.toNat_natCast, bits_small ⟨k, by omega⟩ (by simp; omega)]
  rfl
theorem log2_le8 (k : Nat) (h1 : 1 ≤ k) (h2 : k ≤ 255) : Nat.log2 k ≤ 7 := by
  have := (Nat.log2_lt (n := k) (k := 8) (by omega)).2 (by omega)
  omega
theorem len8_up (x b : Nat) (Y : Int) (d : Nat) (hd : d = 2 ^ b) (hY : Y = ((x / d : Nat) : Int)) (h1 : d ≤ x) (h2 : x / d ≤ 255) : Lib.len8 Y + (b : Int) = (Nat.log2 x : Int) + 1 ∧ Lib.len8 Y ≤ 8 ∧ 0 ≤ Lib.len8 Y := by
  subst hd
  have hp : 0 < 2 ^ b := Nat.two_pow_pos b
  have h3 : 1 ≤ x / 2 ^ b := (Nat.le_div_iff_mul_le hp).2 (by omega)
  rw [len8_log Y _ hY h3 h2, log2_up x b h1]
  have := log2_le8 _ h3 h2
  omega

/-- The table's byte as it is read. -/
theorem tab_len8 (i : Int) (h : i.toNat < Lib.len8tab.size) : (((Lib.len8tab[i.toNat]'h).toNat : Nat) : Int) = Lib.len8 i := by
  unfold Lib.len8
  rw [ByteArray.getElem?_lt' _ _ h, Option.getD_some]

set_option maxHeartbeats 4000000 in
set_option maxRecDepth 100000 in
theorem len64_int (x : Int) (h0 : 1 ≤ x) (h1 : x ≤ 18446744073709551615) (w : World) :
    Calls Try.prog 43 #[.int .u64 x] w fun e w' => e = .returned (.int .i64 ((Nat.log2 x.toNat : Int) + 1)) ∧ w = w' := by
  have hsize := Lib.len8tab_size
  go_enter Try.func43, Try.ntmps43
  go_wp2
  all_goals first | (exfalso; rw [hsize] at *; omega) | skip
  all_goals (go_ret; refine ⟨congrArg Ending.returned (congrArg (Value.int IntKind.i64) ?_), rfl⟩; rw [tab_len8])
  all_goals first
    | (have h := len8_up x.toNat 56 (x / 4294967296 / 65536 / 256) 72057594037927936 (by decide) (by omega) (by omega) (by omega); unfold wrap64; omega)
    | (have h := len8_up x.toNat 48 (x / 4294967296 / 65536) 281474976710656 (by decide) (by omega) (by omega) (by omega); unfold wrap64; omega)
    | (have h := len8_up x.toNat 40 (x / 4294967296 / 256) 1099511627776 (by decide) (by omega) (by omega) (by omega); unfold wrap64; omega)
    | (have h := len8_up x.toNat 32 (x / 4294967296) 4294967296 (by decide) (by omega) (by omega) (by omega); unfold wrap64; omega)
    | (have h := len8_up x.toNat 24 (x / 65536 / 256) 16777216 (by decide) (by omega) (by omega) (by omega); unfold wrap64; omega)
    | (have h := len8_up x.toNat 16 (x / 65536) 65536 (by decide) (by omega) (by omega) (by omega); unfold wrap64; omega)
    | (have h := len8_up x.toNat 8 (x / 256) 256 (by decide) (by omega) (by omega) (by omega); unfold wrap64; omega)
    | (have h := len8_up x.toNat 0 x 1 (by decide) (by omega) (by omega) (by omega); unfold wrap64; omega)
    | trace_state

/-- math/bits.Len. -/
theorem len_any (x : Int) (k : Nat) (hx : x = (k : Int)) (h0 : 1 ≤ k) (h1 : k ≤ 18446744073709551615) (w : World) :
    Calls Try.prog 38 #[.int .u64 x] w fun e w' => e = .returned (.int .i64 ((Nat.log2 k : Int) + 1)) ∧ w = w' := by
  subst hx
  go_enter Try.func38, Try.ntmps38
  go_wp2_with (go_at_call 43; refine (len64_int (k : Int) (by omega) (by omega) _).mono ?_; rintro e w1 ⟨rfl, rfl⟩; rw [Int.toNat_natCast])
  go_ret
  exact ⟨rfl, rfl⟩
end Go.Proofs.Ytllciohpphngiaa
