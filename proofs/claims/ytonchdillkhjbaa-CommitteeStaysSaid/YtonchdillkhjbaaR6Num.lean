/-
  forkledgerref6: Quorum, Third, Has, Bit.
-/
import Derived.Test.YtonchdillkhjbaaComm
import Derived.Test.YtonchdillkhjbaaSeat6
namespace Go.Proofs.Ytonchdillkhjbaa
open Go.ChangeShapes Go.WideShapes Go.ChangeAt Go.RowKit Go.Fl

theorem rquorum_any (n : Int) (hn : I64 n) (w : World) : Calls Try.prog 11 #[.int .i64 n] w fun e w' => e = .returned (.int .i64 (quorumF n)) ∧ Below w.heap.size w w' := by
  obtain ⟨h1, h2⟩ := hn
  have hB := Below.refl w.heap.size w
  by_cases h : n < 1
  · unfold quorumF
    rw [if_pos h]
    go_enter Try.func11, Try.ntmps11
    go_wp2
    go_ret
    exact ⟨rfl, hB⟩
  · unfold quorumF
    rw [if_neg h]
    have e1 : IntKind.i64.wrap (n - 1) = n - 1 := by rw [IntKind.wrap_i64]; omega
    have e2 : (n - 1).tdiv 3 = (n - 1) / 3 := by rw [Int.tdiv_eq_ediv_of_nonneg (by omega)]
    have e3 : IntKind.i64.wrap ((n - 1) / 3) = (n - 1) / 3 := by rw [IntKind.wrap_i64]; omega
    have e4 : IntKind.i64.wrap (n - (n - 1) / 3) = n - (n - 1) / 3 := by rw [IntKind.wrap_i64]; omega
    go_enter Try.func11, Try.ntmps11
    go_wp2
    go_ret
    exact ⟨rfl, hB⟩

theorem rthird_any (n : Int) (hn : I64 n) (w : World) : Calls Try.prog 13 #[.int .i64 n] w fun e w' => e = .returned (.int .i64 (thirdF n)) ∧ Below w.heap.size w w' := by
  obtain ⟨h1, h2⟩ := hn
  have hB := Below.refl w.heap.size w
  by_cases h : n < 1
  · unfold thirdF
    rw [if_pos h]
    go_enter Try.func13, Try.ntmps13
    go_wp2
    go_ret
    exact ⟨rfl, hB⟩
  · unfold thirdF
    rw [if_neg h]
    have e1 : n.tmod 3 = n % 3 := by rw [Int.tmod_eq_emod_of_nonneg (by omega)]
    have e2 : n.tdiv 3 = n / 3 := by rw [Int.tdiv_eq_ediv_of_nonneg (by omega)]
    have e3 : IntKind.i64.wrap (n / 3) = n / 3 := by rw [IntKind.wrap_i64]; omega
    have e4 : IntKind.i64.wrap (n / 3 + 1) = n / 3 + 1 := by rw [IntKind.wrap_i64]; omega
    by_cases h3 : n % 3 = 0
    · have e5 : (n + 2) / 3 = n / 3 := by omega
      rw [e5]
      go_enter Try.func13, Try.ntmps13
      go_wp2
      go_ret
      exact ⟨rfl, hB⟩
    · have e5 : (n + 2) / 3 = n / 3 + 1 := by omega
      rw [e5]
      go_enter Try.func13, Try.ntmps13
      go_wp2
      go_ret
      exact ⟨rfl, hB⟩

theorem rhas_any (m i : Int) (hm : I64 m) (hi : I64 i) (w : World) : Calls Try.prog 16 #[.int .i64 m, .int .i64 i] w fun e w' => e = .returned (.bool (hasF m i)) ∧ Below w.heap.size w w' := by
  obtain ⟨h1, h2⟩ := hm
  obtain ⟨h3, h4⟩ := hi
  have hB := Below.refl w.heap.size w
  by_cases h : 0 ≤ i ∧ i < 10
  · obtain ⟨k, rfl⟩ : ∃ k : Nat, i = (k : Int) := ⟨i.toNat, by omega⟩
    have hh : hasF m (k : Int) = bitM m k := by unfold hasF; rw [decide_eq_true h]; simp
    rw [hh]
    have hs := bit_and m k (by omega)
    generalize bitM m k = b at hs ⊢
    clear hh h3 h4
    have hk : k = 0 ∨ k = 1 ∨ k = 2 ∨ k = 3 ∨ k = 4 ∨ k = 5 ∨ k = 6 ∨ k = 7 ∨ k = 8 ∨ k = 9 := by omega
    rcases hk with rfl | rfl | rfl | rfl | rfl | rfl | rfl | rfl | rfl | rfl
    · have hs2 : (bits .and .i64 (m) 1 == 1) = b := by rw [← hs]; rw [show m / 2 ^ 0 = m by omega]
      clear hs
      go_enter Try.func16, Try.ntmps16
      go_wp2
      go_ret
      exact ⟨rfl, hB⟩
    · have hs2 : (bits .and .i64 (m / 2) 1 == 1) = b := by rw [← hs]; rfl
      clear hs
      go_enter Try.func16, Try.ntmps16
      go_wp2
      go_ret
      exact ⟨rfl, hB⟩
    · have hs2 : (bits .and .i64 (m / 4) 1 == 1) = b := by rw [← hs]; rfl
      clear hs
      go_enter Try.func16, Try.ntmps16
      go_wp2
      go_ret
      exact ⟨rfl, hB⟩
    · have hs2 : (bits .and .i64 (m / 8) 1 == 1) = b := by rw [← hs]; rfl
      clear hs
      go_enter Try.func16, Try.ntmps16
      go_wp2
      go_ret
      exact ⟨rfl, hB⟩
    · have hs2 : (bits .and .i64 (m / 16) 1 == 1) = b := by rw [← hs]; rfl
      clear hs
      go_enter Try.func16, Try.ntmps16
      go_wp2
      go_ret
      exact ⟨rfl, hB⟩
    · have hs2 : (bits .and .i64 (m / 32) 1 == 1) = b := by rw [← hs]; rfl
      clear hs
      go_enter Try.func16, Try.ntmps16
      go_wp2
      go_ret
      exact ⟨rfl, hB⟩
    · have hs2 : (bits .and .i64 (m / 64) 1 == 1) = b := by rw [← hs]; rfl
      clear hs
      go_enter Try.func16, Try.ntmps16
      go_wp2
      go_ret
      exact ⟨rfl, hB⟩
    · have hs2 : (bits .and .i64 (m / 128) 1 == 1) = b := by rw [← hs]; rfl
      clear hs
      go_enter Try.func16, Try.ntmps16
      go_wp2
      go_ret
      exact ⟨rfl, hB⟩
    · have hs2 : (bits .and .i64 (m / 256) 1 == 1) = b := by rw [← hs]; rfl
      clear hs
      go_enter Try.func16, Try.ntmps16
      go_wp2
      go_ret
      exact ⟨rfl, hB⟩
    · have hs2 : (bits .and .i64 (m / 512) 1 == 1) = b := by rw [← hs]; rfl
      clear hs
      go_enter Try.func16, Try.ntmps16
      go_wp2
      go_ret
      exact ⟨rfl, hB⟩
  · have hh : hasF m i = false := by unfold hasF; rw [decide_eq_false h]; rfl
    rw [hh]
    by_cases h0 : 0 ≤ i
    · have h10 : ¬ i < 10 := by omega
      go_enter Try.func16, Try.ntmps16
      go_wp2
      go_ret
      exact ⟨rfl, hB⟩
    · go_enter Try.func16, Try.ntmps16
      go_wp2
      go_ret
      exact ⟨rfl, hB⟩

theorem rbit_any (k : Nat) (hk : k < 10) (w : World) : Calls Try.prog 28 #[.int .i64 (k : Int)] w fun e w' => e = .returned (.int .i64 ((2 ^ k : Nat) : Int)) ∧ Below w.heap.size w w' := by
  have hB := Below.refl w.heap.size w
  have hk : k = 0 ∨ k = 1 ∨ k = 2 ∨ k = 3 ∨ k = 4 ∨ k = 5 ∨ k = 6 ∨ k = 7 ∨ k = 8 ∨ k = 9 := by omega
  rcases hk with rfl | rfl | rfl | rfl | rfl | rfl | rfl | rfl | rfl | rfl <;>
  · go_enter Try.func28, Try.ntmps28
    go_wp2
    go_ret
    exact ⟨rfl, hB⟩
end Go.Proofs.Ytonchdillkhjbaa
