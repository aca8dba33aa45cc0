/-
  The project's committee: Quorum, Third, Has; the number of ids ('math/bits.OnesCount').
-/
import Derived.Test.YtonchdillkhjbaaComm2
import Derived.Test.YtonchdillkhjbaaSeat6
namespace Go.Fl
open Go.ChangeShapes Go.WideShapes Go.ChangeAt Go.RowKit
theorem third_eq (n : Int) (h : ¬ n < 1) : thirdF n = (n - 1) / 3 + 1 := by
  unfold thirdF
  rw [if_neg h]
  omega
/-- Counting ones by halves. -/
def pop64 (x : Int) : Int :=
  let y1 := IntKind.u64.wrap (bits .and .u64 (x / 2) 6148914691236517205 + bits .and .u64 x 6148914691236517205)
  let y2 := IntKind.u64.wrap (bits .and .u64 (y1 / 4) 3689348814741910323 + bits .and .u64 y1 3689348814741910323)
  let y3 := bits .and .u64 (IntKind.u64.wrap (y2 / 16 + y2)) 1085102592571150095
  let y4 := IntKind.u64.wrap (y3 + y3 / 256)
  let y5 := IntKind.u64.wrap (y4 + y4 / 65536)
  let y6 := IntKind.u64.wrap (y5 + y5 / 4294967296)
  bits .and .i64 (wrap64 y6) 127
theorem pop64_ids : ∀ n : Fin 1024, pop64 (n.val : Int) = ((idsF (n.val : Int)).length : Int) := by decide +kernel
/-- The ten bits that count. -/
theorem and_1023 (m : Int) : ∃ x : Nat, x < 1024 ∧ bits .and .i64 m 1023 = (x : Int) ∧ idsF (x : Int) = idsF m := by
  have h1 : (BitVec.ofInt 64 1023).toNat = 2 ^ 10 - 1 := by decide
  have key : (BitVec.ofInt 64 m &&& BitVec.ofInt 64 1023).toNat = (BitVec.ofInt 64 m).toNat % 2 ^ 10 := by
    rw [BitVec.toNat_and, h1, Nat.and_two_pow_sub_one_eq_mod]
  have hlt : (BitVec.ofInt 64 m).toNat % 2 ^ 10 < 1024 := Nat.mod_lt _ (by decide)
  have hb : bits .and .i64 m 1023 = (((BitVec.ofInt 64 m).toNat % 2 ^ 10 : Nat) : Int) := by
    show IntKind.i64.wrap ((BitVec.ofInt 64 m &&& BitVec.ofInt 64 1023).toNat : Nat) = _
    rw [key, IntKind.wrap_i64]
    omega
  refine ⟨_, hlt, hb, ?_⟩
  unfold idsF
  apply List.filter_congr
  intro i hi
  have hi := List.mem_range.1 hi
  rw [bitM_nat _ _ (by omega), Nat.testBit_mod_two_pow, decide_eq_true hi, Bool.true_and]
  rfl
end Go.Fl
namespace Go.Proofs.Ytonchdillkhjbaa
open Go.ChangeShapes Go.WideShapes Go.ChangeAt Go.RowKit Go.Fl

theorem cquorum_any (n : Int) (hn : I64 n) (w : World) : Calls Try.prog 10 #[.int .i64 n] w fun e w' => e = .returned (.int .i64 (quorumF n)) ∧ Below w.heap.size w w' := by
  obtain ⟨h1, h2⟩ := hn
  have hB := Below.refl w.heap.size w
  by_cases h : n < 1
  · unfold quorumF
    rw [if_pos h]
    go_enter Try.func10, Try.ntmps10
    go_wp2
    go_ret
    exact ⟨rfl, hB⟩
  · unfold quorumF
    rw [if_neg h]
    have e1 : IntKind.i64.wrap (n - 1) = n - 1 := by rw [IntKind.wrap_i64]; omega
    have e2 : (n - 1).tdiv 3 = (n - 1) / 3 := by rw [Int.tdiv_eq_ediv_of_nonneg (by omega)]
    have e3 : IntKind.i64.wrap ((n - 1) / 3) = (n - 1) / 3 := by rw [IntKind.wrap_i64]; omega
    have e4 : IntKind.i64.wrap (n - (n - 1) / 3) = n - (n - 1) / 3 := by rw [IntKind.wrap_i64]; omega
    go_enter Try.func10, Try.ntmps10
    go_wp2
    go_ret
    exact ⟨rfl, hB⟩

theorem cthird_any (n : Int) (hn : I64 n) (w : World) : Calls Try.prog 12 #[.int .i64 n] w fun e w' => e = .returned (.int .i64 (thirdF n)) ∧ Below w.heap.size w w' := by
  obtain ⟨h1, h2⟩ := hn
  have hB := Below.refl w.heap.size w
  by_cases h : n < 1
  · unfold thirdF
    rw [if_pos h]
    go_enter Try.func12, Try.ntmps12
    go_wp2
    go_ret
    exact ⟨rfl, hB⟩
  · rw [third_eq n h]
    have e1 : IntKind.i64.wrap (n - 1) = n - 1 := by rw [IntKind.wrap_i64]; omega
    have e2 : (n - 1).tdiv 3 = (n - 1) / 3 := by rw [Int.tdiv_eq_ediv_of_nonneg (by omega)]
    have e3 : IntKind.i64.wrap ((n - 1) / 3) = (n - 1) / 3 := by rw [IntKind.wrap_i64]; omega
    have e4 : IntKind.i64.wrap ((n - 1) / 3 + 1) = (n - 1) / 3 + 1 := by rw [IntKind.wrap_i64]; omega
    go_enter Try.func12, Try.ntmps12
    go_wp2
    go_ret
    exact ⟨rfl, hB⟩

theorem chas_any (m i : Int) (hm : I64 m) (hi : I64 i) (w : World) : Calls Try.prog 15 #[.int .i64 m, .int .i64 i] w fun e w' => e = .returned (.bool (hasF m i)) ∧ w' = w := by
  obtain ⟨h1, h2⟩ := hm
  obtain ⟨h3, h4⟩ := hi
  by_cases h : 0 ≤ i ∧ i < 10
  · obtain ⟨k, rfl⟩ : ∃ k : Nat, i = (k : Int) := ⟨i.toNat, by omega⟩
    have hh : hasF m (k : Int) = bitM m k := by unfold hasF; rw [decide_eq_true h]; simp
    rw [hh]
    have hs := bit_and m k (by omega)
    generalize bitM m k = b at hs ⊢
    clear hh h3 h4
    have hk : k = 0 ∨ k = 1 ∨ k = 2 ∨ k = 3 ∨ k = 4 ∨ k = 5 ∨ k = 6 ∨ k = 7 ∨ k = 8 ∨ k = 9 := by omega
    rcases hk with rfl | rfl | rfl | rfl | rfl | rfl | rfl | rfl | rfl | rfl
    · have hs2 : (bits .and .i64 (m) 1 == 1) = b := by rw [← hs]; rw [show m / 2 ^ 0 = m by omega]
      clear hs
      go_enter Try.func15, Try.ntmps15
      go_wp2
      go_ret
      exact ⟨rfl, rfl⟩
    · have hs2 : (bits .and .i64 (m / 2) 1 == 1) = b := by rw [← hs]; rfl
      clear hs
      go_enter Try.func15, Try.ntmps15
      go_wp2
      go_ret
      exact ⟨rfl, rfl⟩
    · have hs2 : (bits .and .i64 (m / 4) 1 == 1) = b := by rw [← hs]; rfl
      clear hs
      go_enter Try.func15, Try.ntmps15
      go_wp2
      go_ret
      exact ⟨rfl, rfl⟩
    · have hs2 : (bits .and .i64 (m / 8) 1 == 1) = b := by rw [← hs]; rfl
      clear hs
      go_enter Try.func15, Try.ntmps15
      go_wp2
      go_ret
      exact ⟨rfl, rfl⟩
    · have hs2 : (bits .and .i64 (m / 16) 1 == 1) = b := by rw [← hs]; rfl
      clear hs
      go_enter Try.func15, Try.ntmps15
      go_wp2
      go_ret
      exact ⟨rfl, rfl⟩
    · have hs2 : (bits .and .i64 (m / 32) 1 == 1) = b := by rw [← hs]; rfl
      clear hs
      go_enter Try.func15, Try.ntmps15
      go_wp2
      go_ret
      exact ⟨rfl, rfl⟩
    · have hs2 : (bits .and .i64 (m / 64) 1 == 1) = b := by rw [← hs]; rfl
      clear hs
      go_enter Try.func15, Try.ntmps15
      go_wp2
      go_ret
      exact ⟨rfl, rfl⟩
    · have hs2 : (bits .and .i64 (m / 128) 1 == 1) = b := by rw [← hs]; rfl
      clear hs
      go_enter Try.func15, Try.ntmps15
      go_wp2
      go_ret
      exact ⟨rfl, rfl⟩
    · have hs2 : (bits .and .i64 (m / 256) 1 == 1) = b := by rw [← hs]; rfl
      clear hs
      go_enter Try.func15, Try.ntmps15
      go_wp2
      go_ret
      exact ⟨rfl, rfl⟩
    · have hs2 : (bits .and .i64 (m / 512) 1 == 1) = b := by rw [← hs]; rfl
      clear hs
      go_enter Try.func15, Try.ntmps15
      go_wp2
      go_ret
      exact ⟨rfl, rfl⟩
  · have hh : hasF m i = false := by unfold hasF; rw [decide_eq_false h]; rfl
    rw [hh]
    by_cases h0 : 0 ≤ i
    · have h10 : ¬ i < 10 := by omega
      go_enter Try.func15, Try.ntmps15
      go_wp2
      go_ret
      exact ⟨rfl, rfl⟩
    · go_enter Try.func15, Try.ntmps15
      go_wp2
      go_ret
      exact ⟨rfl, rfl⟩

theorem pop64_any (x : Nat) (hx : x < 1024) (w : World) : Calls Try.prog 30 #[.int .u64 (x : Int)] w fun e w' => e = .returned (.int .i64 ((idsF (x : Int)).length : Int)) ∧ w' = w := by
  have key := pop64_ids ⟨x, hx⟩
  unfold pop64 at key
  dsimp only at key
  obtain ⟨y1, h1⟩ : ∃ y, IntKind.u64.wrap (bits .and .u64 ((x : Int) / 2) 6148914691236517205 + bits .and .u64 (x : Int) 6148914691236517205) = y := ⟨_, rfl⟩
  rw [h1] at key
  obtain ⟨y2, h2⟩ : ∃ y, IntKind.u64.wrap (bits .and .u64 (y1 / 4) 3689348814741910323 + bits .and .u64 y1 3689348814741910323) = y := ⟨_, rfl⟩
  rw [h2] at key
  obtain ⟨y3, h3⟩ : ∃ y, bits .and .u64 (IntKind.u64.wrap (y2 / 16 + y2)) 1085102592571150095 = y := ⟨_, rfl⟩
  rw [h3] at key
  obtain ⟨y4, h4⟩ : ∃ y, IntKind.u64.wrap (y3 + y3 / 256) = y := ⟨_, rfl⟩
  rw [h4] at key
  obtain ⟨y5, h5⟩ : ∃ y, IntKind.u64.wrap (y4 + y4 / 65536) = y := ⟨_, rfl⟩
  rw [h5] at key
  obtain ⟨y6, h6⟩ : ∃ y, IntKind.u64.wrap (y5 + y5 / 4294967296) = y := ⟨_, rfl⟩
  rw [h6] at key
  rw [← key]
  clear key
  go_enter Try.func30, Try.ntmps30
  go_wp2
  go_ret
  exact ⟨rfl, rfl⟩

theorem pop_any (x : Nat) (hx : x < 1024) (w : World) : Calls Try.prog 26 #[.int .u64 (x : Int)] w fun e w' => e = .returned (.int .i64 ((idsF (x : Int)).length : Int)) ∧ w' = w := by
  go_enter Try.func26, Try.ntmps26
  go_wp2_with fail
  refine (pop64_any x hx w).mono ?_
  rintro e w1 ⟨rfl, rfl⟩
  go_wp2
  go_ret
  exact ⟨rfl, rfl⟩

theorem csize_any (m : Int) (w : World) : Calls Try.prog 17 #[.int .i64 m] w fun e w' => e = .returned (.int .i64 ((idsF m).length : Int)) ∧ w' = w := by
  obtain ⟨x, hx, hm, hi⟩ := and_1023 m
  have hw : IntKind.u64.wrap (x : Int) = (x : Int) := by rw [IntKind.wrap_u64]; omega
  go_enter Try.func17, Try.ntmps17
  go_wp2_with fail
  refine (pop_any x hx w).mono ?_
  rintro e w1 ⟨rfl, rfl⟩
  rw [hi]
  go_wp2
  go_ret
  exact ⟨rfl, rfl⟩
end Go.Proofs.Ytonchdillkhjbaa
