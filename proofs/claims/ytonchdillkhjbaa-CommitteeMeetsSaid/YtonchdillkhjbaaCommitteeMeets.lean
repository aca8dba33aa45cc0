/-
  The statement CommitteeMeets, proved for all masks, with no condition: two quorums of a committee share at least 2 q - n members.
-/
import Derived.Test.YtonchdillkhjbaaLaw6A
import Derived.Test.YtonchdillkhjbaaComm2
import Derived.Test.YtonchdillkhjbaaSkip
namespace Go.Proofs.Ytonchdillkhjbaa.committeeMeets
open Go.ChangeShapes Go.WideShapes Go.ChangeAt Go.RowKit Go.Fl

set_option maxRecDepth 10000 in
set_option maxHeartbeats 1000000 in
theorem walk0 (w : World) (c a b : Int) (hc : I64 c) (hN : (idsF c).length = 0) :
    Calls Try.prog 6 #[.int .i64 c, .int .i64 a, .int .i64 b] w fun e w' => e = .returned (.bool true) ∧ Below w.heap.size w w' := by
  have hmeet := size_meet a b c
  have hIX := I64_bits .and a c
  have hIY := I64_bits .and b c
  obtain ⟨X, hX⟩ : ∃ x, bits .and .i64 a c = x := ⟨_, rfl⟩
  obtain ⟨Y, hY⟩ : ∃ x, bits .and .i64 b c = x := ⟨_, rfl⟩
  have hIZ := I64_bits .and X Y
  obtain ⟨Z, hZ⟩ : ∃ x, bits .and .i64 X Y = x := ⟨_, rfl⟩
  rw [hX, hY, hZ] at hmeet
  rw [hX] at hIX
  rw [hY] at hIY
  rw [hZ] at hIZ
  obtain ⟨LX, hLX⟩ : ∃ n, (idsF X).length = n := ⟨_, rfl⟩
  obtain ⟨LY, hLY⟩ : ∃ n, (idsF Y).length = n := ⟨_, rfl⟩
  obtain ⟨LZ, hLZ⟩ : ∃ n, (idsF Z).length = n := ⟨_, rfl⟩
  rw [hLX, hLY, hLZ, hN] at hmeet
  have HC := Lib.hid hc
  have HX := Lib.hid hIX
  have HY := Lib.hid hIY
  have HZ := Lib.hid hIZ
  have eN : ((idsF c).length : Int) = 0 := by rw [hN]; rfl
  clear hc hIX hIY hIZ hN
  go_enter Try.func6, Try.ntmps6
  go_wp2_with fail
  refine (comC.size _ c HC.out).mono ?_
  rintro e w1 ⟨rfl, hb1⟩
  rw [eN]
  have hB1 := hb1
  go_wp2_with fail
  refine (comC.quorum _ 0 ⟨by omega, by omega⟩).mono ?_
  rintro e w2 ⟨rfl, hb2⟩
  rw [show quorumF 0 = 0 by decide]
  have hB2 := hB1.trans (hb2.mono hB1.size)
  go_wp2_with fail
  refine (comC.third _ 0 ⟨by omega, by omega⟩).mono ?_
  rintro e w3 ⟨rfl, hb3⟩
  rw [show thirdF 0 = 0 by decide]
  have hB3 := hB2.trans (hb3.mono hB2.size)
  go_wp2_with fail
  refine (awake_any _).mono ?_
  rintro e w4 ⟨rfl, hb4⟩
  have hB4 := hB3.trans (hb4.mono hB3.size)
  go_wp2_with fail
  go_ret
  exact ⟨rfl, hB4⟩

set_option maxRecDepth 10000 in
set_option maxHeartbeats 1000000 in
theorem walk1 (w : World) (c a b : Int) (hc : I64 c) (hN : (idsF c).length = 1) :
    Calls Try.prog 6 #[.int .i64 c, .int .i64 a, .int .i64 b] w fun e w' => e = .returned (.bool true) ∧ Below w.heap.size w w' := by
  have hmeet := size_meet a b c
  have hIX := I64_bits .and a c
  have hIY := I64_bits .and b c
  obtain ⟨X, hX⟩ : ∃ x, bits .and .i64 a c = x := ⟨_, rfl⟩
  obtain ⟨Y, hY⟩ : ∃ x, bits .and .i64 b c = x := ⟨_, rfl⟩
  have hIZ := I64_bits .and X Y
  obtain ⟨Z, hZ⟩ : ∃ x, bits .and .i64 X Y = x := ⟨_, rfl⟩
  rw [hX, hY, hZ] at hmeet
  rw [hX] at hIX
  rw [hY] at hIY
  rw [hZ] at hIZ
  obtain ⟨LX, hLX⟩ : ∃ n, (idsF X).length = n := ⟨_, rfl⟩
  obtain ⟨LY, hLY⟩ : ∃ n, (idsF Y).length = n := ⟨_, rfl⟩
  obtain ⟨LZ, hLZ⟩ : ∃ n, (idsF Z).length = n := ⟨_, rfl⟩
  rw [hLX, hLY, hLZ, hN] at hmeet
  have HC := Lib.hid hc
  have HX := Lib.hid hIX
  have HY := Lib.hid hIY
  have HZ := Lib.hid hIZ
  have eN : ((idsF c).length : Int) = 1 := by rw [hN]; rfl
  clear hc hIX hIY hIZ hN
  go_enter Try.func6, Try.ntmps6
  go_wp2_with fail
  refine (comC.size _ c HC.out).mono ?_
  rintro e w1 ⟨rfl, hb1⟩
  rw [eN]
  have hB1 := hb1
  go_wp2_with fail
  refine (comC.quorum _ 1 ⟨by omega, by omega⟩).mono ?_
  rintro e w2 ⟨rfl, hb2⟩
  rw [show quorumF 1 = 1 by decide]
  have hB2 := hB1.trans (hb2.mono hB1.size)
  go_wp2_with fail
  refine (comC.third _ 1 ⟨by omega, by omega⟩).mono ?_
  rintro e w3 ⟨rfl, hb3⟩
  rw [show thirdF 1 = 1 by decide]
  have hB3 := hB2.trans (hb3.mono hB2.size)
  go_wp2_with fail
  refine (comC.size _ X HX.out).mono ?_
  rintro e w4 ⟨rfl, hb4⟩
  rw [hLX]
  have hB4 := hB3.trans (hb4.mono hB3.size)
  by_cases hA : (LX : Int) < 1
  · go_wp2_with fail
    refine (awake_any _).mono ?_
    rintro e w11 ⟨rfl, hb11⟩
    have hB11 := hB4.trans (hb11.mono hB4.size)
    go_wp2_with fail
    go_ret
    exact ⟨rfl, hB11⟩
  · have hA2 : (1 : Int) ≤ (LX : Int) := by omega
    go_wp2_with fail
    refine (comC.size _ Y HY.out).mono ?_
    rintro e w21 ⟨rfl, hb21⟩
    rw [hLY]
    have hB21 := hB4.trans (hb21.mono hB4.size)
    by_cases hB : (LY : Int) < 1
    · go_wp2_with fail
      refine (awake_any _).mono ?_
      rintro e w31 ⟨rfl, hb31⟩
      have hB31 := hB21.trans (hb31.mono hB21.size)
      go_wp2_with fail
      go_ret
      exact ⟨rfl, hB31⟩
    · have hB2 : (1 : Int) ≤ (LY : Int) := by omega
      have hC2 : (1 : Int) ≤ (LZ : Int) := by omega
      go_wp2_with fail
      refine (comC.size _ Z HZ.out).mono ?_
      rintro e w41 ⟨rfl, hb41⟩
      rw [hLZ]
      have hB41 := hB21.trans (hb41.mono hB21.size)
      go_wp2_with fail
      refine (awake_any _).mono ?_
      rintro e w42 ⟨rfl, hb42⟩
      have hB42 := hB41.trans (hb42.mono hB41.size)
      go_wp2_with fail
      go_ret
      exact ⟨rfl, hB42⟩

set_option maxRecDepth 10000 in
set_option maxHeartbeats 1000000 in
theorem walk2 (w : World) (c a b : Int) (hc : I64 c) (hN : (idsF c).length = 2) :
    Calls Try.prog 6 #[.int .i64 c, .int .i64 a, .int .i64 b] w fun e w' => e = .returned (.bool true) ∧ Below w.heap.size w w' := by
  have hmeet := size_meet a b c
  have hIX := I64_bits .and a c
  have hIY := I64_bits .and b c
  obtain ⟨X, hX⟩ : ∃ x, bits .and .i64 a c = x := ⟨_, rfl⟩
  obtain ⟨Y, hY⟩ : ∃ x, bits .and .i64 b c = x := ⟨_, rfl⟩
  have hIZ := I64_bits .and X Y
  obtain ⟨Z, hZ⟩ : ∃ x, bits .and .i64 X Y = x := ⟨_, rfl⟩
  rw [hX, hY, hZ] at hmeet
  rw [hX] at hIX
  rw [hY] at hIY
  rw [hZ] at hIZ
  obtain ⟨LX, hLX⟩ : ∃ n, (idsF X).length = n := ⟨_, rfl⟩
  obtain ⟨LY, hLY⟩ : ∃ n, (idsF Y).length = n := ⟨_, rfl⟩
  obtain ⟨LZ, hLZ⟩ : ∃ n, (idsF Z).length = n := ⟨_, rfl⟩
  rw [hLX, hLY, hLZ, hN] at hmeet
  have HC := Lib.hid hc
  have HX := Lib.hid hIX
  have HY := Lib.hid hIY
  have HZ := Lib.hid hIZ
  have eN : ((idsF c).length : Int) = 2 := by rw [hN]; rfl
  clear hc hIX hIY hIZ hN
  go_enter Try.func6, Try.ntmps6
  go_wp2_with fail
  refine (comC.size _ c HC.out).mono ?_
  rintro e w1 ⟨rfl, hb1⟩
  rw [eN]
  have hB1 := hb1
  go_wp2_with fail
  refine (comC.quorum _ 2 ⟨by omega, by omega⟩).mono ?_
  rintro e w2 ⟨rfl, hb2⟩
  rw [show quorumF 2 = 2 by decide]
  have hB2 := hB1.trans (hb2.mono hB1.size)
  go_wp2_with fail
  refine (comC.third _ 2 ⟨by omega, by omega⟩).mono ?_
  rintro e w3 ⟨rfl, hb3⟩
  rw [show thirdF 2 = 1 by decide]
  have hB3 := hB2.trans (hb3.mono hB2.size)
  go_wp2_with fail
  refine (comC.size _ X HX.out).mono ?_
  rintro e w4 ⟨rfl, hb4⟩
  rw [hLX]
  have hB4 := hB3.trans (hb4.mono hB3.size)
  by_cases hA : (LX : Int) < 2
  · go_wp2_with fail
    refine (awake_any _).mono ?_
    rintro e w11 ⟨rfl, hb11⟩
    have hB11 := hB4.trans (hb11.mono hB4.size)
    go_wp2_with fail
    go_ret
    exact ⟨rfl, hB11⟩
  · have hA2 : (2 : Int) ≤ (LX : Int) := by omega
    go_wp2_with fail
    refine (comC.size _ Y HY.out).mono ?_
    rintro e w21 ⟨rfl, hb21⟩
    rw [hLY]
    have hB21 := hB4.trans (hb21.mono hB4.size)
    by_cases hB : (LY : Int) < 2
    · go_wp2_with fail
      refine (awake_any _).mono ?_
      rintro e w31 ⟨rfl, hb31⟩
      have hB31 := hB21.trans (hb31.mono hB21.size)
      go_wp2_with fail
      go_ret
      exact ⟨rfl, hB31⟩
    · have hB2 : (2 : Int) ≤ (LY : Int) := by omega
      have hC2 : (2 : Int) ≤ (LZ : Int) := by omega
      go_wp2_with fail
      refine (comC.size _ Z HZ.out).mono ?_
      rintro e w41 ⟨rfl, hb41⟩
      rw [hLZ]
      have hB41 := hB21.trans (hb41.mono hB21.size)
      go_wp2_with fail
      refine (awake_any _).mono ?_
      rintro e w42 ⟨rfl, hb42⟩
      have hB42 := hB41.trans (hb42.mono hB41.size)
      go_wp2_with fail
      go_ret
      exact ⟨rfl, hB42⟩

set_option maxRecDepth 10000 in
set_option maxHeartbeats 1000000 in
theorem walk3 (w : World) (c a b : Int) (hc : I64 c) (hN : (idsF c).length = 3) :
    Calls Try.prog 6 #[.int .i64 c, .int .i64 a, .int .i64 b] w fun e w' => e = .returned (.bool true) ∧ Below w.heap.size w w' := by
  have hmeet := size_meet a b c
  have hIX := I64_bits .and a c
  have hIY := I64_bits .and b c
  obtain ⟨X, hX⟩ : ∃ x, bits .and .i64 a c = x := ⟨_, rfl⟩
  obtain ⟨Y, hY⟩ : ∃ x, bits .and .i64 b c = x := ⟨_, rfl⟩
  have hIZ := I64_bits .and X Y
  obtain ⟨Z, hZ⟩ : ∃ x, bits .and .i64 X Y = x := ⟨_, rfl⟩
  rw [hX, hY, hZ] at hmeet
  rw [hX] at hIX
  rw [hY] at hIY
  rw [hZ] at hIZ
  obtain ⟨LX, hLX⟩ : ∃ n, (idsF X).length = n := ⟨_, rfl⟩
  obtain ⟨LY, hLY⟩ : ∃ n, (idsF Y).length = n := ⟨_, rfl⟩
  obtain ⟨LZ, hLZ⟩ : ∃ n, (idsF Z).length = n := ⟨_, rfl⟩
  rw [hLX, hLY, hLZ, hN] at hmeet
  have HC := Lib.hid hc
  have HX := Lib.hid hIX
  have HY := Lib.hid hIY
  have HZ := Lib.hid hIZ
  have eN : ((idsF c).length : Int) = 3 := by rw [hN]; rfl
  clear hc hIX hIY hIZ hN
  go_enter Try.func6, Try.ntmps6
  go_wp2_with fail
  refine (comC.size _ c HC.out).mono ?_
  rintro e w1 ⟨rfl, hb1⟩
  rw [eN]
  have hB1 := hb1
  go_wp2_with fail
  refine (comC.quorum _ 3 ⟨by omega, by omega⟩).mono ?_
  rintro e w2 ⟨rfl, hb2⟩
  rw [show quorumF 3 = 3 by decide]
  have hB2 := hB1.trans (hb2.mono hB1.size)
  go_wp2_with fail
  refine (comC.third _ 3 ⟨by omega, by omega⟩).mono ?_
  rintro e w3 ⟨rfl, hb3⟩
  rw [show thirdF 3 = 1 by decide]
  have hB3 := hB2.trans (hb3.mono hB2.size)
  go_wp2_with fail
  refine (comC.size _ X HX.out).mono ?_
  rintro e w4 ⟨rfl, hb4⟩
  rw [hLX]
  have hB4 := hB3.trans (hb4.mono hB3.size)
  by_cases hA : (LX : Int) < 3
  · go_wp2_with fail
    refine (awake_any _).mono ?_
    rintro e w11 ⟨rfl, hb11⟩
    have hB11 := hB4.trans (hb11.mono hB4.size)
    go_wp2_with fail
    go_ret
    exact ⟨rfl, hB11⟩
  · have hA2 : (3 : Int) ≤ (LX : Int) := by omega
    go_wp2_with fail
    refine (comC.size _ Y HY.out).mono ?_
    rintro e w21 ⟨rfl, hb21⟩
    rw [hLY]
    have hB21 := hB4.trans (hb21.mono hB4.size)
    by_cases hB : (LY : Int) < 3
    · go_wp2_with fail
      refine (awake_any _).mono ?_
      rintro e w31 ⟨rfl, hb31⟩
      have hB31 := hB21.trans (hb31.mono hB21.size)
      go_wp2_with fail
      go_ret
      exact ⟨rfl, hB31⟩
    · have hB2 : (3 : Int) ≤ (LY : Int) := by omega
      have hC2 : (3 : Int) ≤ (LZ : Int) := by omega
      go_wp2_with fail
      refine (comC.size _ Z HZ.out).mono ?_
      rintro e w41 ⟨rfl, hb41⟩
      rw [hLZ]
      have hB41 := hB21.trans (hb41.mono hB21.size)
      go_wp2_with fail
      refine (awake_any _).mono ?_
      rintro e w42 ⟨rfl, hb42⟩
      have hB42 := hB41.trans (hb42.mono hB41.size)
      go_wp2_with fail
      go_ret
      exact ⟨rfl, hB42⟩

set_option maxRecDepth 10000 in
set_option maxHeartbeats 1000000 in
theorem walk4 (w : World) (c a b : Int) (hc : I64 c) (hN : (idsF c).length = 4) :
    Calls Try.prog 6 #[.int .i64 c, .int .i64 a, .int .i64 b] w fun e w' => e = .returned (.bool true) ∧ Below w.heap.size w w' := by
  have hmeet := size_meet a b c
  have hIX := I64_bits .and a c
  have hIY := I64_bits .and b c
  obtain ⟨X, hX⟩ : ∃ x, bits .and .i64 a c = x := ⟨_, rfl⟩
  obtain ⟨Y, hY⟩ : ∃ x, bits .and .i64 b c = x := ⟨_, rfl⟩
  have hIZ := I64_bits .and X Y
  obtain ⟨Z, hZ⟩ : ∃ x, bits .and .i64 X Y = x := ⟨_, rfl⟩
  rw [hX, hY, hZ] at hmeet
  rw [hX] at hIX
  rw [hY] at hIY
  rw [hZ] at hIZ
  obtain ⟨LX, hLX⟩ : ∃ n, (idsF X).length = n := ⟨_, rfl⟩
  obtain ⟨LY, hLY⟩ : ∃ n, (idsF Y).length = n := ⟨_, rfl⟩
  obtain ⟨LZ, hLZ⟩ : ∃ n, (idsF Z).length = n := ⟨_, rfl⟩
  rw [hLX, hLY, hLZ, hN] at hmeet
  have HC := Lib.hid hc
  have HX := Lib.hid hIX
  have HY := Lib.hid hIY
  have HZ := Lib.hid hIZ
  have eN : ((idsF c).length : Int) = 4 := by rw [hN]; rfl
  clear hc hIX hIY hIZ hN
  go_enter Try.func6, Try.ntmps6
  go_wp2_with fail
  refine (comC.size _ c HC.out).mono ?_
  rintro e w1 ⟨rfl, hb1⟩
  rw [eN]
  have hB1 := hb1
  go_wp2_with fail
  refine (comC.quorum _ 4 ⟨by omega, by omega⟩).mono ?_
  rintro e w2 ⟨rfl, hb2⟩
  rw [show quorumF 4 = 3 by decide]
  have hB2 := hB1.trans (hb2.mono hB1.size)
  go_wp2_with fail
  refine (comC.third _ 4 ⟨by omega, by omega⟩).mono ?_
  rintro e w3 ⟨rfl, hb3⟩
  rw [show thirdF 4 = 2 by decide]
  have hB3 := hB2.trans (hb3.mono hB2.size)
  go_wp2_with fail
  refine (comC.size _ X HX.out).mono ?_
  rintro e w4 ⟨rfl, hb4⟩
  rw [hLX]
  have hB4 := hB3.trans (hb4.mono hB3.size)
  by_cases hA : (LX : Int) < 3
  · go_wp2_with fail
    refine (awake_any _).mono ?_
    rintro e w11 ⟨rfl, hb11⟩
    have hB11 := hB4.trans (hb11.mono hB4.size)
    go_wp2_with fail
    go_ret
    exact ⟨rfl, hB11⟩
  · have hA2 : (3 : Int) ≤ (LX : Int) := by omega
    go_wp2_with fail
    refine (comC.size _ Y HY.out).mono ?_
    rintro e w21 ⟨rfl, hb21⟩
    rw [hLY]
    have hB21 := hB4.trans (hb21.mono hB4.size)
    by_cases hB : (LY : Int) < 3
    · go_wp2_with fail
      refine (awake_any _).mono ?_
      rintro e w31 ⟨rfl, hb31⟩
      have hB31 := hB21.trans (hb31.mono hB21.size)
      go_wp2_with fail
      go_ret
      exact ⟨rfl, hB31⟩
    · have hB2 : (3 : Int) ≤ (LY : Int) := by omega
      have hC2 : (2 : Int) ≤ (LZ : Int) := by omega
      go_wp2_with fail
      refine (comC.size _ Z HZ.out).mono ?_
      rintro e w41 ⟨rfl, hb41⟩
      rw [hLZ]
      have hB41 := hB21.trans (hb41.mono hB21.size)
      go_wp2_with fail
      refine (awake_any _).mono ?_
      rintro e w42 ⟨rfl, hb42⟩
      have hB42 := hB41.trans (hb42.mono hB41.size)
      go_wp2_with fail
      go_ret
      exact ⟨rfl, hB42⟩

set_option maxRecDepth 10000 in
set_option maxHeartbeats 1000000 in
theorem walk5 (w : World) (c a b : Int) (hc : I64 c) (hN : (idsF c).length = 5) :
    Calls Try.prog 6 #[.int .i64 c, .int .i64 a, .int .i64 b] w fun e w' => e = .returned (.bool true) ∧ Below w.heap.size w w' := by
  have hmeet := size_meet a b c
  have hIX := I64_bits .and a c
  have hIY := I64_bits .and b c
  obtain ⟨X, hX⟩ : ∃ x, bits .and .i64 a c = x := ⟨_, rfl⟩
  obtain ⟨Y, hY⟩ : ∃ x, bits .and .i64 b c = x := ⟨_, rfl⟩
  have hIZ := I64_bits .and X Y
  obtain ⟨Z, hZ⟩ : ∃ x, bits .and .i64 X Y = x := ⟨_, rfl⟩
  rw [hX, hY, hZ] at hmeet
  rw [hX] at hIX
  rw [hY] at hIY
  rw [hZ] at hIZ
  obtain ⟨LX, hLX⟩ : ∃ n, (idsF X).length = n := ⟨_, rfl⟩
  obtain ⟨LY, hLY⟩ : ∃ n, (idsF Y).length = n := ⟨_, rfl⟩
  obtain ⟨LZ, hLZ⟩ : ∃ n, (idsF Z).length = n := ⟨_, rfl⟩
  rw [hLX, hLY, hLZ, hN] at hmeet
  have HC := Lib.hid hc
  have HX := Lib.hid hIX
  have HY := Lib.hid hIY
  have HZ := Lib.hid hIZ
  have eN : ((idsF c).length : Int) = 5 := by rw [hN]; rfl
  clear hc hIX hIY hIZ hN
  go_enter Try.func6, Try.ntmps6
  go_wp2_with fail
  refine (comC.size _ c HC.out).mono ?_
  rintro e w1 ⟨rfl, hb1⟩
  rw [eN]
  have hB1 := hb1
  go_wp2_with fail
  refine (comC.quorum _ 5 ⟨by omega, by omega⟩).mono ?_
  rintro e w2 ⟨rfl, hb2⟩
  rw [show quorumF 5 = 4 by decide]
  have hB2 := hB1.trans (hb2.mono hB1.size)
  go_wp2_with fail
  refine (comC.third _ 5 ⟨by omega, by omega⟩).mono ?_
  rintro e w3 ⟨rfl, hb3⟩
  rw [show thirdF 5 = 2 by decide]
  have hB3 := hB2.trans (hb3.mono hB2.size)
  go_wp2_with fail
  refine (comC.size _ X HX.out).mono ?_
  rintro e w4 ⟨rfl, hb4⟩
  rw [hLX]
  have hB4 := hB3.trans (hb4.mono hB3.size)
  by_cases hA : (LX : Int) < 4
  · go_wp2_with fail
    refine (awake_any _).mono ?_
    rintro e w11 ⟨rfl, hb11⟩
    have hB11 := hB4.trans (hb11.mono hB4.size)
    go_wp2_with fail
    go_ret
    exact ⟨rfl, hB11⟩
  · have hA2 : (4 : Int) ≤ (LX : Int) := by omega
    go_wp2_with fail
    refine (comC.size _ Y HY.out).mono ?_
    rintro e w21 ⟨rfl, hb21⟩
    rw [hLY]
    have hB21 := hB4.trans (hb21.mono hB4.size)
    by_cases hB : (LY : Int) < 4
    · go_wp2_with fail
      refine (awake_any _).mono ?_
      rintro e w31 ⟨rfl, hb31⟩
      have hB31 := hB21.trans (hb31.mono hB21.size)
      go_wp2_with fail
      go_ret
      exact ⟨rfl, hB31⟩
    · have hB2 : (4 : Int) ≤ (LY : Int) := by omega
      have hC2 : (3 : Int) ≤ (LZ : Int) := by omega
      go_wp2_with fail
      refine (comC.size _ Z HZ.out).mono ?_
      rintro e w41 ⟨rfl, hb41⟩
      rw [hLZ]
      have hB41 := hB21.trans (hb41.mono hB21.size)
      go_wp2_with fail
      refine (awake_any _).mono ?_
      rintro e w42 ⟨rfl, hb42⟩
      have hB42 := hB41.trans (hb42.mono hB41.size)
      go_wp2_with fail
      go_ret
      exact ⟨rfl, hB42⟩

set_option maxRecDepth 10000 in
set_option maxHeartbeats 1000000 in
theorem walk6 (w : World) (c a b : Int) (hc : I64 c) (hN : (idsF c).length = 6) :
    Calls Try.prog 6 #[.int .i64 c, .int .i64 a, .int .i64 b] w fun e w' => e = .returned (.bool true) ∧ Below w.heap.size w w' := by
  have hmeet := size_meet a b c
  have hIX := I64_bits .and a c
  have hIY := I64_bits .and b c
  obtain ⟨X, hX⟩ : ∃ x, bits .and .i64 a c = x := ⟨_, rfl⟩
  obtain ⟨Y, hY⟩ : ∃ x, bits .and .i64 b c = x := ⟨_, rfl⟩
  have hIZ := I64_bits .and X Y
  obtain ⟨Z, hZ⟩ : ∃ x, bits .and .i64 X Y = x := ⟨_, rfl⟩
  rw [hX, hY, hZ] at hmeet
  rw [hX] at hIX
  rw [hY] at hIY
  rw [hZ] at hIZ
  obtain ⟨LX, hLX⟩ : ∃ n, (idsF X).length = n := ⟨_, rfl⟩
  obtain ⟨LY, hLY⟩ : ∃ n, (idsF Y).length = n := ⟨_, rfl⟩
  obtain ⟨LZ, hLZ⟩ : ∃ n, (idsF Z).length = n := ⟨_, rfl⟩
  rw [hLX, hLY, hLZ, hN] at hmeet
  have HC := Lib.hid hc
  have HX := Lib.hid hIX
  have HY := Lib.hid hIY
  have HZ := Lib.hid hIZ
  have eN : ((idsF c).length : Int) = 6 := by rw [hN]; rfl
  clear hc hIX hIY hIZ hN
  go_enter Try.func6, Try.ntmps6
  go_wp2_with fail
  refine (comC.size _ c HC.out).mono ?_
  rintro e w1 ⟨rfl, hb1⟩
  rw [eN]
  have hB1 := hb1
  go_wp2_with fail
  refine (comC.quorum _ 6 ⟨by omega, by omega⟩).mono ?_
  rintro e w2 ⟨rfl, hb2⟩
  rw [show quorumF 6 = 5 by decide]
  have hB2 := hB1.trans (hb2.mono hB1.size)
  go_wp2_with fail
  refine (comC.third _ 6 ⟨by omega, by omega⟩).mono ?_
  rintro e w3 ⟨rfl, hb3⟩
  rw [show thirdF 6 = 2 by decide]
  have hB3 := hB2.trans (hb3.mono hB2.size)
  go_wp2_with fail
  refine (comC.size _ X HX.out).mono ?_
  rintro e w4 ⟨rfl, hb4⟩
  rw [hLX]
  have hB4 := hB3.trans (hb4.mono hB3.size)
  by_cases hA : (LX : Int) < 5
  · go_wp2_with fail
    refine (awake_any _).mono ?_
    rintro e w11 ⟨rfl, hb11⟩
    have hB11 := hB4.trans (hb11.mono hB4.size)
    go_wp2_with fail
    go_ret
    exact ⟨rfl, hB11⟩
  · have hA2 : (5 : Int) ≤ (LX : Int) := by omega
    go_wp2_with fail
    refine (comC.size _ Y HY.out).mono ?_
    rintro e w21 ⟨rfl, hb21⟩
    rw [hLY]
    have hB21 := hB4.trans (hb21.mono hB4.size)
    by_cases hB : (LY : Int) < 5
    · go_wp2_with fail
      refine (awake_any _).mono ?_
      rintro e w31 ⟨rfl, hb31⟩
      have hB31 := hB21.trans (hb31.mono hB21.size)
      go_wp2_with fail
      go_ret
      exact ⟨rfl, hB31⟩
    · have hB2 : (5 : Int) ≤ (LY : Int) := by omega
      have hC2 : (4 : Int) ≤ (LZ : Int) := by omega
      go_wp2_with fail
      refine (comC.size _ Z HZ.out).mono ?_
      rintro e w41 ⟨rfl, hb41⟩
      rw [hLZ]
      have hB41 := hB21.trans (hb41.mono hB21.size)
      go_wp2_with fail
      refine (awake_any _).mono ?_
      rintro e w42 ⟨rfl, hb42⟩
      have hB42 := hB41.trans (hb42.mono hB41.size)
      go_wp2_with fail
      go_ret
      exact ⟨rfl, hB42⟩

set_option maxRecDepth 10000 in
set_option maxHeartbeats 1000000 in
theorem walk7 (w : World) (c a b : Int) (hc : I64 c) (hN : (idsF c).length = 7) :
    Calls Try.prog 6 #[.int .i64 c, .int .i64 a, .int .i64 b] w fun e w' => e = .returned (.bool true) ∧ Below w.heap.size w w' := by
  have hmeet := size_meet a b c
  have hIX := I64_bits .and a c
  have hIY := I64_bits .and b c
  obtain ⟨X, hX⟩ : ∃ x, bits .and .i64 a c = x := ⟨_, rfl⟩
  obtain ⟨Y, hY⟩ : ∃ x, bits .and .i64 b c = x := ⟨_, rfl⟩
  have hIZ := I64_bits .and X Y
  obtain ⟨Z, hZ⟩ : ∃ x, bits .and .i64 X Y = x := ⟨_, rfl⟩
  rw [hX, hY, hZ] at hmeet
  rw [hX] at hIX
  rw [hY] at hIY
  rw [hZ] at hIZ
  obtain ⟨LX, hLX⟩ : ∃ n, (idsF X).length = n := ⟨_, rfl⟩
  obtain ⟨LY, hLY⟩ : ∃ n, (idsF Y).length = n := ⟨_, rfl⟩
  obtain ⟨LZ, hLZ⟩ : ∃ n, (idsF Z).length = n := ⟨_, rfl⟩
  rw [hLX, hLY, hLZ, hN] at hmeet
  have HC := Lib.hid hc
  have HX := Lib.hid hIX
  have HY := Lib.hid hIY
  have HZ := Lib.hid hIZ
  have eN : ((idsF c).length : Int) = 7 := by rw [hN]; rfl
  clear hc hIX hIY hIZ hN
  go_enter Try.func6, Try.ntmps6
  go_wp2_with fail
  refine (comC.size _ c HC.out).mono ?_
  rintro e w1 ⟨rfl, hb1⟩
  rw [eN]
  have hB1 := hb1
  go_wp2_with fail
  refine (comC.quorum _ 7 ⟨by omega, by omega⟩).mono ?_
  rintro e w2 ⟨rfl, hb2⟩
  rw [show quorumF 7 = 5 by decide]
  have hB2 := hB1.trans (hb2.mono hB1.size)
  go_wp2_with fail
  refine (comC.third _ 7 ⟨by omega, by omega⟩).mono ?_
  rintro e w3 ⟨rfl, hb3⟩
  rw [show thirdF 7 = 3 by decide]
  have hB3 := hB2.trans (hb3.mono hB2.size)
  go_wp2_with fail
  refine (comC.size _ X HX.out).mono ?_
  rintro e w4 ⟨rfl, hb4⟩
  rw [hLX]
  have hB4 := hB3.trans (hb4.mono hB3.size)
  by_cases hA : (LX : Int) < 5
  · go_wp2_with fail
    refine (awake_any _).mono ?_
    rintro e w11 ⟨rfl, hb11⟩
    have hB11 := hB4.trans (hb11.mono hB4.size)
    go_wp2_with fail
    go_ret
    exact ⟨rfl, hB11⟩
  · have hA2 : (5 : Int) ≤ (LX : Int) := by omega
    go_wp2_with fail
    refine (comC.size _ Y HY.out).mono ?_
    rintro e w21 ⟨rfl, hb21⟩
    rw [hLY]
    have hB21 := hB4.trans (hb21.mono hB4.size)
    by_cases hB : (LY : Int) < 5
    · go_wp2_with fail
      refine (awake_any _).mono ?_
      rintro e w31 ⟨rfl, hb31⟩
      have hB31 := hB21.trans (hb31.mono hB21.size)
      go_wp2_with fail
      go_ret
      exact ⟨rfl, hB31⟩
    · have hB2 : (5 : Int) ≤ (LY : Int) := by omega
      have hC2 : (3 : Int) ≤ (LZ : Int) := by omega
      go_wp2_with fail
      refine (comC.size _ Z HZ.out).mono ?_
      rintro e w41 ⟨rfl, hb41⟩
      rw [hLZ]
      have hB41 := hB21.trans (hb41.mono hB21.size)
      go_wp2_with fail
      refine (awake_any _).mono ?_
      rintro e w42 ⟨rfl, hb42⟩
      have hB42 := hB41.trans (hb42.mono hB41.size)
      go_wp2_with fail
      go_ret
      exact ⟨rfl, hB42⟩

set_option maxRecDepth 10000 in
set_option maxHeartbeats 1000000 in
theorem walk8 (w : World) (c a b : Int) (hc : I64 c) (hN : (idsF c).length = 8) :
    Calls Try.prog 6 #[.int .i64 c, .int .i64 a, .int .i64 b] w fun e w' => e = .returned (.bool true) ∧ Below w.heap.size w w' := by
  have hmeet := size_meet a b c
  have hIX := I64_bits .and a c
  have hIY := I64_bits .and b c
  obtain ⟨X, hX⟩ : ∃ x, bits .and .i64 a c = x := ⟨_, rfl⟩
  obtain ⟨Y, hY⟩ : ∃ x, bits .and .i64 b c = x := ⟨_, rfl⟩
  have hIZ := I64_bits .and X Y
  obtain ⟨Z, hZ⟩ : ∃ x, bits .and .i64 X Y = x := ⟨_, rfl⟩
  rw [hX, hY, hZ] at hmeet
  rw [hX] at hIX
  rw [hY] at hIY
  rw [hZ] at hIZ
  obtain ⟨LX, hLX⟩ : ∃ n, (idsF X).length = n := ⟨_, rfl⟩
  obtain ⟨LY, hLY⟩ : ∃ n, (idsF Y).length = n := ⟨_, rfl⟩
  obtain ⟨LZ, hLZ⟩ : ∃ n, (idsF Z).length = n := ⟨_, rfl⟩
  rw [hLX, hLY, hLZ, hN] at hmeet
  have HC := Lib.hid hc
  have HX := Lib.hid hIX
  have HY := Lib.hid hIY
  have HZ := Lib.hid hIZ
  have eN : ((idsF c).length : Int) = 8 := by rw [hN]; rfl
  clear hc hIX hIY hIZ hN
  go_enter Try.func6, Try.ntmps6
  go_wp2_with fail
  refine (comC.size _ c HC.out).mono ?_
  rintro e w1 ⟨rfl, hb1⟩
  rw [eN]
  have hB1 := hb1
  go_wp2_with fail
  refine (comC.quorum _ 8 ⟨by omega, by omega⟩).mono ?_
  rintro e w2 ⟨rfl, hb2⟩
  rw [show quorumF 8 = 6 by decide]
  have hB2 := hB1.trans (hb2.mono hB1.size)
  go_wp2_with fail
  refine (comC.third _ 8 ⟨by omega, by omega⟩).mono ?_
  rintro e w3 ⟨rfl, hb3⟩
  rw [show thirdF 8 = 3 by decide]
  have hB3 := hB2.trans (hb3.mono hB2.size)
  go_wp2_with fail
  refine (comC.size _ X HX.out).mono ?_
  rintro e w4 ⟨rfl, hb4⟩
  rw [hLX]
  have hB4 := hB3.trans (hb4.mono hB3.size)
  by_cases hA : (LX : Int) < 6
  · go_wp2_with fail
    refine (awake_any _).mono ?_
    rintro e w11 ⟨rfl, hb11⟩
    have hB11 := hB4.trans (hb11.mono hB4.size)
    go_wp2_with fail
    go_ret
    exact ⟨rfl, hB11⟩
  · have hA2 : (6 : Int) ≤ (LX : Int) := by omega
    go_wp2_with fail
    refine (comC.size _ Y HY.out).mono ?_
    rintro e w21 ⟨rfl, hb21⟩
    rw [hLY]
    have hB21 := hB4.trans (hb21.mono hB4.size)
    by_cases hB : (LY : Int) < 6
    · go_wp2_with fail
      refine (awake_any _).mono ?_
      rintro e w31 ⟨rfl, hb31⟩
      have hB31 := hB21.trans (hb31.mono hB21.size)
      go_wp2_with fail
      go_ret
      exact ⟨rfl, hB31⟩
    · have hB2 : (6 : Int) ≤ (LY : Int) := by omega
      have hC2 : (4 : Int) ≤ (LZ : Int) := by omega
      go_wp2_with fail
      refine (comC.size _ Z HZ.out).mono ?_
      rintro e w41 ⟨rfl, hb41⟩
      rw [hLZ]
      have hB41 := hB21.trans (hb41.mono hB21.size)
      go_wp2_with fail
      refine (awake_any _).mono ?_
      rintro e w42 ⟨rfl, hb42⟩
      have hB42 := hB41.trans (hb42.mono hB41.size)
      go_wp2_with fail
      go_ret
      exact ⟨rfl, hB42⟩

set_option maxRecDepth 10000 in
set_option maxHeartbeats 1000000 in
theorem walk9 (w : World) (c a b : Int) (hc : I64 c) (hN : (idsF c).length = 9) :
    Calls Try.prog 6 #[.int .i64 c, .int .i64 a, .int .i64 b] w fun e w' => e = .returned (.bool true) ∧ Below w.heap.size w w' := by
  have hmeet := size_meet a b c
  have hIX := I64_bits .and a c
  have hIY := I64_bits .and b c
  obtain ⟨X, hX⟩ : ∃ x, bits .and .i64 a c = x := ⟨_, rfl⟩
  obtain ⟨Y, hY⟩ : ∃ x, bits .and .i64 b c = x := ⟨_, rfl⟩
  have hIZ := I64_bits .and X Y
  obtain ⟨Z, hZ⟩ : ∃ x, bits .and .i64 X Y = x := ⟨_, rfl⟩
  rw [hX, hY, hZ] at hmeet
  rw [hX] at hIX
  rw [hY] at hIY
  rw [hZ] at hIZ
  obtain ⟨LX, hLX⟩ : ∃ n, (idsF X).length = n := ⟨_, rfl⟩
  obtain ⟨LY, hLY⟩ : ∃ n, (idsF Y).length = n := ⟨_, rfl⟩
  obtain ⟨LZ, hLZ⟩ : ∃ n, (idsF Z).length = n := ⟨_, rfl⟩
  rw [hLX, hLY, hLZ, hN] at hmeet
  have HC := Lib.hid hc
  have HX := Lib.hid hIX
  have HY := Lib.hid hIY
  have HZ := Lib.hid hIZ
  have eN : ((idsF c).length : Int) = 9 := by rw [hN]; rfl
  clear hc hIX hIY hIZ hN
  go_enter Try.func6, Try.ntmps6
  go_wp2_with fail
  refine (comC.size _ c HC.out).mono ?_
  rintro e w1 ⟨rfl, hb1⟩
  rw [eN]
  have hB1 := hb1
  go_wp2_with fail
  refine (comC.quorum _ 9 ⟨by omega, by omega⟩).mono ?_
  rintro e w2 ⟨rfl, hb2⟩
  rw [show quorumF 9 = 7 by decide]
  have hB2 := hB1.trans (hb2.mono hB1.size)
  go_wp2_with fail
  refine (comC.third _ 9 ⟨by omega, by omega⟩).mono ?_
  rintro e w3 ⟨rfl, hb3⟩
  rw [show thirdF 9 = 3 by decide]
  have hB3 := hB2.trans (hb3.mono hB2.size)
  go_wp2_with fail
  refine (comC.size _ X HX.out).mono ?_
  rintro e w4 ⟨rfl, hb4⟩
  rw [hLX]
  have hB4 := hB3.trans (hb4.mono hB3.size)
  by_cases hA : (LX : Int) < 7
  · go_wp2_with fail
    refine (awake_any _).mono ?_
    rintro e w11 ⟨rfl, hb11⟩
    have hB11 := hB4.trans (hb11.mono hB4.size)
    go_wp2_with fail
    go_ret
    exact ⟨rfl, hB11⟩
  · have hA2 : (7 : Int) ≤ (LX : Int) := by omega
    go_wp2_with fail
    refine (comC.size _ Y HY.out).mono ?_
    rintro e w21 ⟨rfl, hb21⟩
    rw [hLY]
    have hB21 := hB4.trans (hb21.mono hB4.size)
    by_cases hB : (LY : Int) < 7
    · go_wp2_with fail
      refine (awake_any _).mono ?_
      rintro e w31 ⟨rfl, hb31⟩
      have hB31 := hB21.trans (hb31.mono hB21.size)
      go_wp2_with fail
      go_ret
      exact ⟨rfl, hB31⟩
    · have hB2 : (7 : Int) ≤ (LY : Int) := by omega
      have hC2 : (5 : Int) ≤ (LZ : Int) := by omega
      go_wp2_with fail
      refine (comC.size _ Z HZ.out).mono ?_
      rintro e w41 ⟨rfl, hb41⟩
      rw [hLZ]
      have hB41 := hB21.trans (hb41.mono hB21.size)
      go_wp2_with fail
      refine (awake_any _).mono ?_
      rintro e w42 ⟨rfl, hb42⟩
      have hB42 := hB41.trans (hb42.mono hB41.size)
      go_wp2_with fail
      go_ret
      exact ⟨rfl, hB42⟩

set_option maxRecDepth 10000 in
set_option maxHeartbeats 1000000 in
theorem walk10 (w : World) (c a b : Int) (hc : I64 c) (hN : (idsF c).length = 10) :
    Calls Try.prog 6 #[.int .i64 c, .int .i64 a, .int .i64 b] w fun e w' => e = .returned (.bool true) ∧ Below w.heap.size w w' := by
  have hmeet := size_meet a b c
  have hIX := I64_bits .and a c
  have hIY := I64_bits .and b c
  obtain ⟨X, hX⟩ : ∃ x, bits .and .i64 a c = x := ⟨_, rfl⟩
  obtain ⟨Y, hY⟩ : ∃ x, bits .and .i64 b c = x := ⟨_, rfl⟩
  have hIZ := I64_bits .and X Y
  obtain ⟨Z, hZ⟩ : ∃ x, bits .and .i64 X Y = x := ⟨_, rfl⟩
  rw [hX, hY, hZ] at hmeet
  rw [hX] at hIX
  rw [hY] at hIY
  rw [hZ] at hIZ
  obtain ⟨LX, hLX⟩ : ∃ n, (idsF X).length = n := ⟨_, rfl⟩
  obtain ⟨LY, hLY⟩ : ∃ n, (idsF Y).length = n := ⟨_, rfl⟩
  obtain ⟨LZ, hLZ⟩ : ∃ n, (idsF Z).length = n := ⟨_, rfl⟩
  rw [hLX, hLY, hLZ, hN] at hmeet
  have HC := Lib.hid hc
  have HX := Lib.hid hIX
  have HY := Lib.hid hIY
  have HZ := Lib.hid hIZ
  have eN : ((idsF c).length : Int) = 10 := by rw [hN]; rfl
  clear hc hIX hIY hIZ hN
  go_enter Try.func6, Try.ntmps6
  go_wp2_with fail
  refine (comC.size _ c HC.out).mono ?_
  rintro e w1 ⟨rfl, hb1⟩
  rw [eN]
  have hB1 := hb1
  go_wp2_with fail
  refine (comC.quorum _ 10 ⟨by omega, by omega⟩).mono ?_
  rintro e w2 ⟨rfl, hb2⟩
  rw [show quorumF 10 = 7 by decide]
  have hB2 := hB1.trans (hb2.mono hB1.size)
  go_wp2_with fail
  refine (comC.third _ 10 ⟨by omega, by omega⟩).mono ?_
  rintro e w3 ⟨rfl, hb3⟩
  rw [show thirdF 10 = 4 by decide]
  have hB3 := hB2.trans (hb3.mono hB2.size)
  go_wp2_with fail
  refine (comC.size _ X HX.out).mono ?_
  rintro e w4 ⟨rfl, hb4⟩
  rw [hLX]
  have hB4 := hB3.trans (hb4.mono hB3.size)
  by_cases hA : (LX : Int) < 7
  · go_wp2_with fail
    refine (awake_any _).mono ?_
    rintro e w11 ⟨rfl, hb11⟩
    have hB11 := hB4.trans (hb11.mono hB4.size)
    go_wp2_with fail
    go_ret
    exact ⟨rfl, hB11⟩
  · have hA2 : (7 : Int) ≤ (LX : Int) := by omega
    go_wp2_with fail
    refine (comC.size _ Y HY.out).mono ?_
    rintro e w21 ⟨rfl, hb21⟩
    rw [hLY]
    have hB21 := hB4.trans (hb21.mono hB4.size)
    by_cases hB : (LY : Int) < 7
    · go_wp2_with fail
      refine (awake_any _).mono ?_
      rintro e w31 ⟨rfl, hb31⟩
      have hB31 := hB21.trans (hb31.mono hB21.size)
      go_wp2_with fail
      go_ret
      exact ⟨rfl, hB31⟩
    · have hB2 : (7 : Int) ≤ (LY : Int) := by omega
      have hC2 : (4 : Int) ≤ (LZ : Int) := by omega
      go_wp2_with fail
      refine (comC.size _ Z HZ.out).mono ?_
      rintro e w41 ⟨rfl, hb41⟩
      rw [hLZ]
      have hB41 := hB21.trans (hb41.mono hB21.size)
      go_wp2_with fail
      refine (awake_any _).mono ?_
      rintro e w42 ⟨rfl, hb42⟩
      have hB42 := hB41.trans (hb42.mono hB41.size)
      go_wp2_with fail
      go_ret
      exact ⟨rfl, hB42⟩

theorem walk (w : World) (c a b : Int) (hc : I64 c) (_ha : I64 a) (_hb : I64 b) :
    Calls Try.prog 6 #[.int .i64 c, .int .i64 a, .int .i64 b] w fun e w' => e = .returned (.bool true) ∧ Below w.heap.size w w' := by
  have h := idsF_len c
  have : (idsF c).length = 0 ∨ (idsF c).length = 1 ∨ (idsF c).length = 2 ∨ (idsF c).length = 3 ∨ (idsF c).length = 4 ∨ (idsF c).length = 5 ∨ (idsF c).length = 6 ∨ (idsF c).length = 7 ∨ (idsF c).length = 8 ∨ (idsF c).length = 9 ∨ (idsF c).length = 10 := by omega
  rcases this with h | h | h | h | h | h | h | h | h | h | h
  · exact walk0 w c a b hc h
  · exact walk1 w c a b hc h
  · exact walk2 w c a b hc h
  · exact walk3 w c a b hc h
  · exact walk4 w c a b hc h
  · exact walk5 w c a b hc h
  · exact walk6 w c a b hc h
  · exact walk7 w c a b hc h
  · exact walk8 w c a b hc h
  · exact walk9 w c a b hc h
  · exact walk10 w c a b hc h

set_option maxRecDepth 100000 in
/-- The law's step, at every reading. -/
theorem lifted (os : Os) (started : os.Started) (H : Type) (enc : TypeId × Value → H) :
    ReturnsInHanded {} Try.checked os 6 .any (Rows.committeeMeetsSpec.pre6 enc Try.prog Try.f6 Rows.committeeMeetsRow.domain false) (Rows.committeeMeetsSpec.post enc Try.prog Try.f6 false true false false) := by
  refine law_lifted (C := Try.checked) (n := 3) (tb := 4) own started (by kernel_rfl) Try.func6 rfl (by kernel_rfl)
    (of_decide_eq_true (by kernel_rfl)) (by kernel_rfl) (by kernel_rfl) Try.underlying4
    (fun ds hd => by match ds, hd with | [_, _, _], _ => rfl)
    (ChangeSpec.witness6 (enc := enc) (C := Try.checked) false ⟨#[], #[.int .i64 0, .int .i64 0, .int .i64 0], []⟩ 8 (by kernel_rfl) (by kernel_rfl) (by kernel_rfl) (by kernel_rfl)) ?_
  intro W base args ds ps hval hA hlt hsz
  rw [Try.params6] at hA hval
  obtain ⟨v0, vs0, d0, ds0, p0, q0, hargs, rfl, rfl, h0, r0⟩ := trodAll_cons hA
  obtain ⟨v1, vs1, d1, ds1, p1, q1, rfl, rfl, rfl, h1, r1⟩ := trodAll_cons r0
  obtain ⟨v2, vs2, d2, ds2, p2, q2, rfl, rfl, rfl, h2, r2⟩ := trodAll_cons r1
  obtain ⟨rfl, rfl, rfl⟩ := trodAll_nil r2
  obtain rfl : args = #[v0, v1, v2] := by cases args; simp_all
  obtain ⟨x0, rfl, rfl, rfl, wn0⟩ := open_int Try.underlying25 (hval 0 _ v0 rfl rfl) h0
  obtain ⟨x1, rfl, rfl, rfl, wn1⟩ := open_int Try.underlying25 (hval 1 _ v1 rfl rfl) h1
  obtain ⟨x2, rfl, rfl, rfl, wn2⟩ := open_int Try.underlying25 (hval 2 _ v2 rfl rfl) h2
  exact walk W x0 x1 x2 (bounds_i64 wn0) (bounds_i64 wn1) (bounds_i64 wn2)

theorem proved : Rows.CommitteeMeetsSaid :=
  OpenClaim.holds_of_wide 6 Try.f6 rfl rfl rfl rfl rfl rfl rfl ⟨rfl, rfl, rfl, rfl, rfl⟩ rfl rfl rfl rfl rfl (by kernel_rfl) Try.func6 (by kernel_rfl)
    (of_decide_eq_true (by kernel_rfl)) (by unfold Func.isWrapper; first | (rw [if_pos (by decide +kernel)]; kernel_rfl) | (rw [if_neg (by decide +kernel)]; exact ⟨rfl, rfl⟩))
    (fun os started H enc _ => lifted os started H enc)
#print axioms proved
end Go.Proofs.Ytonchdillkhjbaa.committeeMeets
