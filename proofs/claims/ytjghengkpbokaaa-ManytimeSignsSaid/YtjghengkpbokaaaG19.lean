/-
  1 texts in one file: R5Ver.
-/
import Derived.Deep.DeepCutAuto
import Derived.Test.YtjghengkpbokaaaG6
import Derived.Test.YtjghengkpbokaaaG17
import Derived.Test.YtjghengkpbokaaaG18

/-
  forkledgerref1's many-time signatures: Verify.
-/
namespace Go.Fl
open Go.ChangeShapes Go.WideShapes Go.ChangeAt Go.RowKit
theorem or_i64 (a b : UInt8) : bits .or .i64 (ub a * 256) (ub b) = ub a * 256 + ub b := by
  have e : ∀ x y : Nat, x < 256 → y < 256 → bits .or .i64 ((x * 256 : Nat) : Int) (y : Int) = ((x * 256 + y : Nat) : Int) := fun x y hx hy => by
    have h1 : (BitVec.ofInt 64 ((x * 256 : Nat) : Int)).toNat = x * 256 := by
      rw [BitVec.ofInt_natCast, BitVec.toNat_ofNat]; exact Nat.mod_eq_of_lt (by omega)
    have h2 : (BitVec.ofInt 64 (y : Int)).toNat = y := by
      rw [BitVec.ofInt_natCast, BitVec.toNat_ofNat]; exact Nat.mod_eq_of_lt (by omega)
    have h3 := Nat.two_pow_add_eq_or_of_lt (i := 8) (b := y) hy x
    show IntKind.i64.wrap ((BitVec.ofInt 64 ((x * 256 : Nat) : Int) ||| BitVec.ofInt 64 (y : Int)).toNat : Int) = _
    rw [BitVec.toNat_or, h1, h2, IntKind.wrap_i64]
    have h4 : x * 256 ||| y = x * 256 + y := by rw [Nat.mul_comm]; exact h3.symm
    rw [h4]
    omega
  have := e a.toNat b.toNat a.toNat_lt b.toNat_lt
  simpa [ub] using this
end Go.Fl
namespace Go.Proofs.Ytjghengkpbokaaa
open Go.ChangeShapes Go.WideShapes Go.ChangeAt Go.RowKit Go.Fl

attribute [local go_sem] equal_nm eqGuard_nm

theorem size_one : sizeF 1 = 186 := rfl
theorem size_two : sizeF 2 = 370 := rfl
theorem cap_one : capF 1 = 32 := rfl
theorem cap_two : capF 2 = 1024 := rfl

theorem rver_lv (w : World) (pub m : BitVec 64) (lv : Int) (A : Option Addr) (n c : Nat) (h : lv < 1 ∨ 2 < lv) :
    Calls Try.prog 20 #[nm pub, .int .i64 lv, nm m, .slice A n c] w fun e w' => e = .returned (.bool false) ∧ Below w.heap.size w w' := by
  obtain ⟨hb, hm, hF⟩ := signW_facts w pub m
  by_cases h1 : lv < 1
  · go_enter Try.func20, Try.ntmps20
    go_wp2_with fail
    go_ret
    exact ⟨rfl, hF.1⟩
  · have h2 : 2 < lv := by omega
    clear h
    go_enter Try.func20, Try.ntmps20
    go_wp2_with fail
    go_ret
    exact ⟨rfl, hF.1⟩

theorem rver_len (w : World) (pub m : BitVec 64) (lv S : Int) (h1 : 1 ≤ lv) (h2 : lv ≤ 2) (hS : Hid (sizeF lv = S)) (A : Option Addr) (n c : Nat) (h : (n : Int) ≠ S) :
    Calls Try.prog 20 #[nm pub, .int .i64 lv, nm m, .slice A n c] w fun e w' => e = .returned (.bool false) ∧ Below w.heap.size w w' := by
  obtain ⟨hb, hm, hF⟩ := signW_facts w pub m
  have b1 : ((n : Int) == S) = false := by rw [beq_eq_false_iff_ne]; exact h
  have b2 : ((n : Int) != S) = true := by rw [bne, b1]; rfl
  have b3 : decide ((n : Int) = S) = false := by rw [decide_eq_false_iff_not]; exact h
  go_enter Try.func20, Try.ntmps20
  go_wp2_with (go_at_call 13; refine (rsize_any _ lv).mono ?_; rintro e w1 ⟨rfl, rfl⟩; rw [hS.out])
  go_ret
  exact ⟨rfl, hF.1⟩

set_option maxRecDepth 10000 in
set_option maxHeartbeats 4000000 in
theorem rver_go1 (w : World) (pub m : BitVec 64) (n : Nat) (l : List UInt8) (c : Nat) (hm : 186 = l.length) (_hc : 186 ≤ c) (_hc63 : c ≤ 9223372036854775807) (hn : leafN l = n) (A : Option Addr) (hr : RB w w.heap.size A l) (r : Bool) (hver : Hid (verM pub 1 m l = r)) :
    Calls Try.prog 20 #[nm pub, .int .i64 1, nm m, .slice A 186 c] w fun e w' => e = .returned (.bool r) ∧ Below w.heap.size w w' := by
  obtain ⟨hb, hm0, hF⟩ := signW_facts w pub m
  obtain ⟨b0, hb0⟩ : ∃ b, l[0]? = some b := ⟨_, List.getElem?_eq_getElem (by omega)⟩
  obtain ⟨b1, hb1⟩ : ∃ b, l[1]? = some b := ⟨_, List.getElem?_eq_getElem (by omega)⟩
  have hnn : ub b0 * 256 + ub b1 = (n : Int) := by
    rw [← hn]
    unfold leafN
    rw [List.getD_eq_getElem?_getD, List.getD_eq_getElem?_getD, hb0, hb1]
    simp [ub]
  have hor := or_i64 b0 b1
  rw [hnn] at hor
  have n0 : (0 : Int) ≤ (n : Int) := by omega
  have lo0 := ub_lo b0
  have hi0 := ub_hi b0
  have lo1 := ub_lo b1
  have hi1 := ub_hi b1
  have n9 : (n : Int) < 65536 := by omega
  have hw0 : IntKind.i64.wrap (ub b0) = ub b0 := by rw [IntKind.wrap_i64]; omega
  have hw1 : IntKind.i64.wrap (ub b1) = ub b1 := by rw [IntKind.wrap_i64]; omega
  have hw2 : IntKind.i64.wrap (ub b0 * 256) = ub b0 * 256 := by rw [IntKind.wrap_i64]; omega
  have hrb := hr.keep hF.1
  obtain ⟨g, off, rfl, hg, hcell⟩ := hrb (by omega)
  have hc0 : (signW w pub m).cell? ⟨g, off, none⟩ = some (.int .u8 (ub b0)) := hcell 0 b0 hb0
  have hc1 : (signW w pub m).cell? ⟨g, off + 1, none⟩ = some (.int .u8 (ub b1)) := hcell 1 b1 hb1
  have HC0 := Lib.hid hc0
  have HC1 := Lib.hid hc1
  have HG : Hid (g < (signW w pub m).heap.size) := Lib.hid (by have := hF.2; omega)
  have HR0 := Lib.hid hr
  have HM := Lib.hid hm
  have HN := Lib.hid hn
  clear hcell hc0 hc1 hb0 hb1 hnn hrb hm hn hg hr
  go_enter Try.func20, Try.ntmps20
  go_wp2_with (go_at_call 13; refine (rsize_any _ 1).mono ?_; rintro e w1 ⟨rfl, rfl⟩; rw [size_one])
  change Code.wp _ _ _ _ (signW w pub m)
  have hRB : Hid (RB (signW w pub m) (signW w pub m).heap.size (some ⟨g, off, none⟩) l) := Lib.hid ((HR0.out.keep hF.1).mono (by have := hF.2; omega))
  generalize signW w pub m = W at *
  refine wp_region_held_drew (S := fun w' => Below W.heap.size W w') (by kernel_rfl) (Below.refl _ _).drew (fun hHeld => ?_)
  refine held_pure 0 31 (.slice (some ⟨g, off, none⟩) 186 c) rfl (fun W => by rfl) hHeld ?_
  try simp only [Act.put, List.setIfInBounds_toArray, List.set_cons_zero, List.set_cons_succ]
  refine held_pure 1 32 (.pointer (some ⟨g, off, none⟩)) rfl (fun W => by go_simp) hHeld ?_
  try simp only [Act.put, List.setIfInBounds_toArray, List.set_cons_zero, List.set_cons_succ]
  refine held_if 2 33 (.int .u8 (ub b0)) rfl (fun w' h => by (have hc := (h.cell (p := ⟨g, off, none⟩) HG.out).trans HC0.out; go_simp)) hHeld ?_
  try simp only [Act.put, List.setIfInBounds_toArray, List.set_cons_zero, List.set_cons_succ]
  refine held_pure 3 34 (.int .i64 (ub b0)) rfl (fun W => by go_simp) hHeld ?_
  try simp only [Act.put, List.setIfInBounds_toArray, List.set_cons_zero, List.set_cons_succ]
  refine held_pure 4 35 (.int .i64 (ub b0 * 256)) rfl (fun W => by go_simp) hHeld ?_
  try simp only [Act.put, List.setIfInBounds_toArray, List.set_cons_zero, List.set_cons_succ]
  refine held_pure 5 36 (.slice (some ⟨g, off, none⟩) 186 c) rfl (fun W => by rfl) hHeld ?_
  try simp only [Act.put, List.setIfInBounds_toArray, List.set_cons_zero, List.set_cons_succ]
  refine held_pure 6 37 (.pointer (some ⟨g, off + 1, none⟩)) rfl (fun W => by go_simp) hHeld ?_
  try simp only [Act.put, List.setIfInBounds_toArray, List.set_cons_zero, List.set_cons_succ]
  refine held_if 7 38 (.int .u8 (ub b1)) rfl (fun w' h => by (have hc := (h.cell (p := ⟨g, off + 1, none⟩) HG.out).trans HC1.out; go_simp)) hHeld ?_
  try simp only [Act.put, List.setIfInBounds_toArray, List.set_cons_zero, List.set_cons_succ]
  refine held_pure 8 39 (.int .i64 (ub b1)) rfl (fun W => by go_simp) hHeld ?_
  try simp only [Act.put, List.setIfInBounds_toArray, List.set_cons_zero, List.set_cons_succ]
  refine held_pure 9 40 (.int .i64 (n : Int)) rfl (fun W => by go_simp) hHeld ?_
  try simp only [Act.put, List.setIfInBounds_toArray, List.set_cons_zero, List.set_cons_succ]
  refine held_pure 10 9 (.int .i64 (n : Int)) rfl (fun W => by rfl) hHeld ?_
  try simp only [Act.put, List.setIfInBounds_toArray, List.set_cons_zero, List.set_cons_succ]
  refine wpAnyH_done (by kernel_rfl) ?_ _
  try simp only [Act.put, List.setIfInBounds_toArray, List.set_cons_zero, List.set_cons_succ]
  clear hw0 hw1 hw2 hor lo0 hi0 lo1 hi1 n9
  by_cases hnC : n < 32
  · have s1 : (n : Int) < 32 := by omega
    obtain ⟨q, hq⟩ : ∃ q, n % 32 = q := ⟨_, rfl⟩
    obtain ⟨d, hd⟩ : ∃ d, n / 32 = d := ⟨_, rfl⟩
    have hq1 : (n : Int) % 32 = (q : Int) := by omega
    have hq2 : Int.tmod (n : Int) 32 = (q : Int) := by rw [Int.tmod_eq_emod_of_nonneg (by omega)]; exact hq1
    have hd1 : (n : Int) / 32 = (d : Int) := by omega
    have hd2 : Int.tdiv (n : Int) 32 = (d : Int) := by rw [Int.tdiv_eq_ediv_of_nonneg (by omega)]; exact hd1
    have hq32 : q < 32 := by omega
    have hd32 : d < 32 := by omega
    have hwd : IntKind.i64.wrap (d : Int) = (d : Int) := by rw [IntKind.wrap_i64]; omega
    have b5 : decide ((32 : Int) ≤ (n : Int)) = false := by rw [decide_eq_false_iff_not]; omega
    obtain ⟨L1, hL1⟩ : ∃ L1, listF l 2 18 = L1 := ⟨_, rfl⟩
    obtain ⟨one, hone⟩ : ∃ x, endsF (recF m L1) = x := ⟨_, rfl⟩
    obtain ⟨L2, hL2⟩ : ∃ L2, listF l 146 5 = L2 := ⟨_, rfl⟩
    obtain ⟨root, hroot⟩ : ∃ x, followF one (q) 32 L2 = x := ⟨_, rfl⟩
    have hl1 := listF_len l 2 18
    have hl2 := listF_len l 146 5
    rw [hL1] at hl1
    rw [hL2] at hl2
    have hsh : showF m l 2 (q) = root := by unfold showF; rw [hL1, hone, hL2, hroot]
    have HR1 : Hid (recP m L1 = (one, true)) := Lib.hid (by rw [recP_len m L1 hl1, hone])
    have HF2 : Hid (followP one ((q : Nat) : Int) 32 L2 = (root, true)) := Lib.hid (by
      unfold followP
      have h0 := depthI_nat (q) 32 (by omega)
      rw [depth32 (q) (by omega)] at h0
      rw [show ((32 : Int)) = ((32 : Nat) : Int) from rfl, h0, if_pos ⟨by omega, by omega⟩, Int.toNat_natCast, Int.toNat_natCast, hroot])
    have HL1 := Lib.hid hL1
    have HL2 := Lib.hid hL2
    have hl1 := Lib.hid hl1
    have hl2 := Lib.hid hl2
    have HVER : Hid (nmEq root pub = r) := Lib.hid (by
      rw [← hver.out]
      unfold verM
      rw [HN.out, if_pos ⟨Or.inl rfl, by rw [← HM.out]; rfl, s1⟩, if_pos rfl, hq, hsh])
    clear hL1 hone hL2 hroot hsh hver hnC hq hd
    go_wp2_with fail
    refine (rcap_any _ 1).mono ?_
    rintro e w1 ⟨rfl, rfl⟩
    rw [cap_one]
    go_wp2_with fail
    go_cut [10, 11] (fun s10 s11 wx => ∃ p, s10 = .pointer (some ⟨p, 0, none⟩) ∧ s11 = .bool true ∧ Is wx p 30 (nmC one) ∧ Below W.heap.size W wx)
    case first =>
      refine wp_region_held_drew (S := fun w' => Below W.heap.size W w') (by kernel_rfl) (Below.refl _ _).drew.drew (fun hHeld => ?_)
      refine held_load 0 46 rfl 30 (.tmp 6) rfl (w.heap.size + 1) 0 rfl (nmR m) (fun w' h => range_is (cs := nmR m) (hm0.next h)) Try.underlying30 name_info hHeld ?_
      try simp only [Act.put, List.setIfInBounds_toArray, List.set_cons_zero, List.set_cons_succ]
      refine held_pure 1 47 (.slice (some ⟨g, off, none⟩) 186 c) rfl (fun W => by rfl) hHeld ?_
      try simp only [Act.put, List.setIfInBounds_toArray, List.set_cons_zero, List.set_cons_succ]
      refine wpAnyH_ready (rs := [2, 7]) (by kernel_rfl) (by simp) (AllReadyH.cons rfl (fun KK hK => ?_) (AllReadyH.cons rfl (fun KK hK => ?_) AllReadyH.nil))
      · rw [if_pos (by rfl)]
        go_wp2_with fail
        refine (rlist_any _ l _ _ 2 18 _ _ HM.out rfl rfl (by have := HM.out; omega) (by have := HM.out; omega) (by omega) L1 HL1 _ ((hRB.out.keep hHeld).mono hHeld.size)).mono ?_
        rintro e x1 ⟨vL, rfl, hoL, hb⟩
        have hvL := hoL.vn
        clear hoL
        have hL1 := hHeld.trans (hb.mono hHeld.size)
        go_wp2_with fail
        refine hK.out _ _ hL1 (fun _ => ?_)
        clear hK KK
        try simp only [Act.put, List.setIfInBounds_toArray, List.set_cons_zero, List.set_cons_succ]
        refine wpAnyH_ready (rs := [3, 7]) (by kernel_rfl) (by simp) (AllReadyH.cons rfl (fun KK hK => ?_) (AllReadyH.cons rfl (fun KK hK => ?_) AllReadyH.nil))
        · rw [if_pos (by rfl)]
          go_wp2_with fail
          refine (refO.recover _ m vL L1 (one, true) hvL (by have := hl1.out; omega) HR1).mono ?_
          rintro e x2 ⟨rfl, hb⟩
          have hC2 := hL1.trans (hb.mono hL1.size)
          go_wp2_with fail
          refine hK.out _ _ hC2 (fun _ => ?_)
          clear hK KK
          try simp only [Act.put, List.setIfInBounds_toArray, List.set_cons_zero, List.set_cons_succ]
          refine held_pure 4 45 (.tuple #[nm one, .bool true]) rfl (fun W => by rfl) hC2 ?_
          try simp only [Act.put, List.setIfInBounds_toArray, List.set_cons_zero, List.set_cons_succ]
          refine held_pure 5 50 (nm one) rfl (fun W => by rfl) hC2 ?_
          try simp only [Act.put, List.setIfInBounds_toArray, List.set_cons_zero, List.set_cons_succ]
          refine held_pure 6 51 (.bool true) rfl (fun W => by rfl) hC2 ?_
          try simp only [Act.put, List.setIfInBounds_toArray, List.set_cons_zero, List.set_cons_succ]
          refine held_one (i := 7) (by kernel_rfl) rfl (by rfl) (fun KK hK => ?_)
          go_wp2_with fail
          have hA3 := hC2.alloc hC2.size (.cells #[B 0, B 0, B 0, B 0, B 0, B 0, B 0, B 0] 30)
          have hz3 := Is.new x2 30 #[B 0, B 0, B 0, B 0, B 0, B 0, B 0, B 0]
          have hzle := hC2.size
          refine hK.out _ _ hA3 (fun _ => ?_)
          clear hK KK
          try simp only [Act.put, List.setIfInBounds_toArray, List.set_cons_zero, List.set_cons_succ]
          refine held_one (i := 8) (by kernel_rfl) rfl (by rfl) (fun KK hK => ?_)
          refine oper_store_is 30 (.tmp 10) (.tmp 50) rfl _ 30 _ (nmC one) rfl rfl hz3 (nmC_size _) name_info (nmC_one _) ?_
          intro x9 hz9 hb9 hfar9
          have hS9 := hA3.trans (hb9.mono hzle)
          refine hK.out _ _ hS9 (fun _ => ?_)
          clear hK KK
          try simp only [Act.put, List.setIfInBounds_toArray]
          refine held_pure 9 11 (.bool true) rfl (fun W => by rfl) hS9 ?_
          refine wpAnyH_done (by kernel_rfl) ?_ _
          try simp only [Act.put]
          go_wp2_with fail
          go_meet
          case rel => exact ⟨_, rfl, rfl, hz9, hS9⟩
        · rw [if_pos (by rfl)]
          go_wp2_with fail
          have hA4 := hL1.alloc hL1.size (.cells #[B 0, B 0, B 0, B 0, B 0, B 0, B 0, B 0] 30)
          have hz4 := Is.new x1 30 #[B 0, B 0, B 0, B 0, B 0, B 0, B 0, B 0]
          have hzle := hL1.size
          have hvL := hvL.next ((Below.refl _ _).alloc (Nat.le_refl _) (.cells #[B 0, B 0, B 0, B 0, B 0, B 0, B 0, B 0] 30))
          refine hK.out _ _ hA4 (fun _ => ?_)
          clear hK KK
          try simp only [Act.put, List.setIfInBounds_toArray, List.set_cons_zero, List.set_cons_succ]
          refine held_one (i := 3) (by kernel_rfl) rfl (by rfl) (fun KK hK => ?_)
          go_wp2_with fail
          refine (refO.recover _ m vL L1 (one, true) hvL (by have := hl1.out; omega) HR1).mono ?_
          rintro e x5 ⟨rfl, hb⟩
          have hC5 := hA4.trans (hb.mono hA4.size)
          have hz5 := hz4.next hb
          go_wp2_with fail
          refine hK.out _ _ hC5 (fun _ => ?_)
          clear hK KK
          try simp only [Act.put, List.setIfInBounds_toArray, List.set_cons_zero, List.set_cons_succ]
          refine held_pure 4 45 (.tuple #[nm one, .bool true]) rfl (fun W => by rfl) hC5 ?_
          try simp only [Act.put, List.setIfInBounds_toArray, List.set_cons_zero, List.set_cons_succ]
          refine held_pure 5 50 (nm one) rfl (fun W => by rfl) hC5 ?_
          try simp only [Act.put, List.setIfInBounds_toArray, List.set_cons_zero, List.set_cons_succ]
          refine held_pure 6 51 (.bool true) rfl (fun W => by rfl) hC5 ?_
          try simp only [Act.put, List.setIfInBounds_toArray, List.set_cons_zero, List.set_cons_succ]
          refine held_one (i := 8) (by kernel_rfl) rfl (by rfl) (fun KK hK => ?_)
          refine oper_store_is 30 (.tmp 10) (.tmp 50) rfl _ 30 _ (nmC one) rfl rfl hz5 (nmC_size _) name_info (nmC_one _) ?_
          intro x9 hz9 hb9 hfar9
          have hS9 := hC5.trans (hb9.mono hzle)
          refine hK.out _ _ hS9 (fun _ => ?_)
          clear hK KK
          try simp only [Act.put, List.setIfInBounds_toArray]
          refine held_pure 9 11 (.bool true) rfl (fun W => by rfl) hS9 ?_
          refine wpAnyH_done (by kernel_rfl) ?_ _
          try simp only [Act.put]
          go_wp2_with fail
          go_meet
          case rel => exact ⟨_, rfl, rfl, hz9, hS9⟩
      · rw [if_pos (by rfl)]
        go_wp2_with fail
        have hA6 := hHeld.alloc hHeld.size (.cells #[B 0, B 0, B 0, B 0, B 0, B 0, B 0, B 0] 30)
        have hz6 := Is.new W.drew.drew 30 #[B 0, B 0, B 0, B 0, B 0, B 0, B 0, B 0]
        have hzle := hHeld.size
        refine hK.out _ _ hA6 (fun _ => ?_)
        clear hK KK
        try simp only [Act.put, List.setIfInBounds_toArray, List.set_cons_zero, List.set_cons_succ]
        refine held_one (i := 2) (by kernel_rfl) rfl (by rfl) (fun KK hK => ?_)
        go_wp2_with fail
        refine (rlist_any _ l _ _ 2 18 _ _ HM.out rfl rfl (by have := HM.out; omega) (by have := HM.out; omega) (by omega) L1 HL1 _ ((hRB.out.keep hA6).mono hA6.size)).mono ?_
        rintro e x7 ⟨vL, rfl, hoL, hb⟩
        have hvL := hoL.vn
        clear hoL
        have hL7 := hA6.trans (hb.mono hA6.size)
        have hz7 := hz6.next hb
        go_wp2_with fail
        refine hK.out _ _ hL7 (fun _ => ?_)
        clear hK KK
        try simp only [Act.put, List.setIfInBounds_toArray, List.set_cons_zero, List.set_cons_succ]
        refine held_one (i := 3) (by kernel_rfl) rfl (by rfl) (fun KK hK => ?_)
        go_wp2_with fail
        refine (refO.recover _ m vL L1 (one, true) hvL (by have := hl1.out; omega) HR1).mono ?_
        rintro e x8 ⟨rfl, hb⟩
        have hC8 := hL7.trans (hb.mono hL7.size)
        have hz8 := hz7.next hb
        go_wp2_with fail
        refine hK.out _ _ hC8 (fun _ => ?_)
        clear hK KK
        try simp only [Act.put, List.setIfInBounds_toArray, List.set_cons_zero, List.set_cons_succ]
        refine held_pure 4 45 (.tuple #[nm one, .bool true]) rfl (fun W => by rfl) hC8 ?_
        try simp only [Act.put, List.setIfInBounds_toArray, List.set_cons_zero, List.set_cons_succ]
        refine held_pure 5 50 (nm one) rfl (fun W => by rfl) hC8 ?_
        try simp only [Act.put, List.setIfInBounds_toArray, List.set_cons_zero, List.set_cons_succ]
        refine held_pure 6 51 (.bool true) rfl (fun W => by rfl) hC8 ?_
        try simp only [Act.put, List.setIfInBounds_toArray, List.set_cons_zero, List.set_cons_succ]
        refine held_one (i := 8) (by kernel_rfl) rfl (by rfl) (fun KK hK => ?_)
        refine oper_store_is 30 (.tmp 10) (.tmp 50) rfl _ 30 _ (nmC one) rfl rfl hz8 (nmC_size _) name_info (nmC_one _) ?_
        intro x9 hz9 hb9 hfar9
        have hS9 := hC8.trans (hb9.mono hzle)
        refine hK.out _ _ hS9 (fun _ => ?_)
        clear hK KK
        try simp only [Act.put, List.setIfInBounds_toArray]
        refine held_pure 9 11 (.bool true) rfl (fun W => by rfl) hS9 ?_
        refine wpAnyH_done (by kernel_rfl) ?_ _
        try simp only [Act.put]
        go_wp2_with fail
        go_meet
        case rel => exact ⟨_, rfl, rfl, hz9, hS9⟩
    case rest =>
      obtain ⟨p1, rfl, rfl, hp1, hB1⟩ := hcut
      obtain ⟨w1, rfl⟩ : ∃ y, y = wc := ⟨_, rfl⟩
      have hRB := Lib.hid ((hRB.out.keep hB1).mono hB1.size)
      have hb := hb.next hB1
      have hF := hF.next hB1
      have cb := hb.cell
      have cp := hp1.cell
      clear cb cp
      go_wp2_with fail
      go_cut [12, 13] (fun s12 s13 wx => ∃ p, s12 = .pointer (some ⟨p, 0, none⟩) ∧ s13 = .bool true ∧ Is wx p 30 (nmC root) ∧ Below w1.heap.size w1 wx)
      case first =>
        refine wp_region_held_drew (S := fun w' => Below w1.heap.size w1 w') (by kernel_rfl) (Below.refl _ _).drew (fun hHeld => ?_)
        refine held_load 0 53 rfl 30 (.tmp 10) rfl p1 0 rfl (nmR one) (fun w' h => range_is (cs := nmR one) (hp1.next h)) Try.underlying30 name_info hHeld ?_
        try simp only [Act.put, List.setIfInBounds_toArray, List.set_cons_zero, List.set_cons_succ]
        refine held_pure 1 54 (.int .i64 (n : Int)) rfl (fun W => by rfl) hHeld ?_
        try simp only [Act.put, List.setIfInBounds_toArray, List.set_cons_zero, List.set_cons_succ]
        refine held_pure 2 55 (.int .i64 (q : Int)) rfl (fun W => by go_simp) hHeld ?_
        try simp only [Act.put, List.setIfInBounds_toArray, List.set_cons_zero, List.set_cons_succ]
        refine held_pure 3 56 (.slice (some ⟨g, off, none⟩) 186 c) rfl (fun W => by rfl) hHeld ?_
        try simp only [Act.put, List.setIfInBounds_toArray, List.set_cons_zero, List.set_cons_succ]
        refine wpAnyH_ready (rs := [4, 9]) (by kernel_rfl) (by simp) (AllReadyH.cons rfl (fun KK hK => ?_) (AllReadyH.cons rfl (fun KK hK => ?_) AllReadyH.nil))
        · rw [if_pos (by rfl)]
          go_wp2_with fail
          refine (rlist_any _ l _ _ 146 5 _ _ HM.out rfl rfl (by have := HM.out; omega) (by have := HM.out; omega) (by omega) L2 HL2 _ ((hRB.out.keep hHeld).mono hHeld.size)).mono ?_
          rintro e x1 ⟨vL, rfl, hoL, hb⟩
          have hvL := hoL.vn
          clear hoL
          have hL1 := hHeld.trans (hb.mono hHeld.size)
          go_wp2_with fail
          refine hK.out _ _ hL1 (fun _ => ?_)
          clear hK KK
          try simp only [Act.put, List.setIfInBounds_toArray, List.set_cons_zero, List.set_cons_succ]
          refine wpAnyH_ready (rs := [5, 9]) (by kernel_rfl) (by simp) (AllReadyH.cons rfl (fun KK hK => ?_) (AllReadyH.cons rfl (fun KK hK => ?_) AllReadyH.nil))
          · rw [if_pos (by rfl)]
            go_wp2_with fail
            refine (rFollow_any _ one ((q : Nat) : Int) 32 vL L2 (root, true) hvL (by have := hl2.out; omega) ⟨by omega, by omega⟩ ⟨by omega, by omega⟩ HF2).mono ?_
            rintro e x2 ⟨rfl, hb⟩
            have hC2 := hL1.trans (hb.mono hL1.size)
            go_wp2_with fail
            refine hK.out _ _ hC2 (fun _ => ?_)
            clear hK KK
            try simp only [Act.put, List.setIfInBounds_toArray, List.set_cons_zero, List.set_cons_succ]
            refine held_pure 6 52 (.tuple #[nm root, .bool true]) rfl (fun W => by rfl) hC2 ?_
            try simp only [Act.put, List.setIfInBounds_toArray, List.set_cons_zero, List.set_cons_succ]
            refine held_pure 7 59 (nm root) rfl (fun W => by rfl) hC2 ?_
            try simp only [Act.put, List.setIfInBounds_toArray, List.set_cons_zero, List.set_cons_succ]
            refine held_pure 8 60 (.bool true) rfl (fun W => by rfl) hC2 ?_
            try simp only [Act.put, List.setIfInBounds_toArray, List.set_cons_zero, List.set_cons_succ]
            refine held_one (i := 9) (by kernel_rfl) rfl (by rfl) (fun KK hK => ?_)
            go_wp2_with fail
            have hA3 := hC2.alloc hC2.size (.cells #[B 0, B 0, B 0, B 0, B 0, B 0, B 0, B 0] 30)
            have hz3 := Is.new x2 30 #[B 0, B 0, B 0, B 0, B 0, B 0, B 0, B 0]
            have hzle := hC2.size
            refine hK.out _ _ hA3 (fun _ => ?_)
            clear hK KK
            try simp only [Act.put, List.setIfInBounds_toArray, List.set_cons_zero, List.set_cons_succ]
            refine held_one (i := 10) (by kernel_rfl) rfl (by rfl) (fun KK hK => ?_)
            refine oper_store_is 30 (.tmp 12) (.tmp 59) rfl _ 30 _ (nmC root) rfl rfl hz3 (nmC_size _) name_info (nmC_one _) ?_
            intro x9 hz9 hb9 hfar9
            have hS9 := hA3.trans (hb9.mono hzle)
            refine hK.out _ _ hS9 (fun _ => ?_)
            clear hK KK
            try simp only [Act.put, List.setIfInBounds_toArray]
            refine held_pure 11 13 (.bool true) rfl (fun W => by rfl) hS9 ?_
            refine wpAnyH_done (by kernel_rfl) ?_ _
            try simp only [Act.put]
            go_wp2_with fail
            go_meet
            case rel => exact ⟨_, rfl, rfl, hz9, hS9⟩
          · rw [if_pos (by rfl)]
            go_wp2_with fail
            have hA4 := hL1.alloc hL1.size (.cells #[B 0, B 0, B 0, B 0, B 0, B 0, B 0, B 0] 30)
            have hz4 := Is.new x1 30 #[B 0, B 0, B 0, B 0, B 0, B 0, B 0, B 0]
            have hzle := hL1.size
            have hvL := hvL.next ((Below.refl _ _).alloc (Nat.le_refl _) (.cells #[B 0, B 0, B 0, B 0, B 0, B 0, B 0, B 0] 30))
            refine hK.out _ _ hA4 (fun _ => ?_)
            clear hK KK
            try simp only [Act.put, List.setIfInBounds_toArray, List.set_cons_zero, List.set_cons_succ]
            refine held_one (i := 5) (by kernel_rfl) rfl (by rfl) (fun KK hK => ?_)
            go_wp2_with fail
            refine (rFollow_any _ one ((q : Nat) : Int) 32 vL L2 (root, true) hvL (by have := hl2.out; omega) ⟨by omega, by omega⟩ ⟨by omega, by omega⟩ HF2).mono ?_
            rintro e x5 ⟨rfl, hb⟩
            have hC5 := hA4.trans (hb.mono hA4.size)
            have hz5 := hz4.next hb
            go_wp2_with fail
            refine hK.out _ _ hC5 (fun _ => ?_)
            clear hK KK
            try simp only [Act.put, List.setIfInBounds_toArray, List.set_cons_zero, List.set_cons_succ]
            refine held_pure 6 52 (.tuple #[nm root, .bool true]) rfl (fun W => by rfl) hC5 ?_
            try simp only [Act.put, List.setIfInBounds_toArray, List.set_cons_zero, List.set_cons_succ]
            refine held_pure 7 59 (nm root) rfl (fun W => by rfl) hC5 ?_
            try simp only [Act.put, List.setIfInBounds_toArray, List.set_cons_zero, List.set_cons_succ]
            refine held_pure 8 60 (.bool true) rfl (fun W => by rfl) hC5 ?_
            try simp only [Act.put, List.setIfInBounds_toArray, List.set_cons_zero, List.set_cons_succ]
            refine held_one (i := 10) (by kernel_rfl) rfl (by rfl) (fun KK hK => ?_)
            refine oper_store_is 30 (.tmp 12) (.tmp 59) rfl _ 30 _ (nmC root) rfl rfl hz5 (nmC_size _) name_info (nmC_one _) ?_
            intro x9 hz9 hb9 hfar9
            have hS9 := hC5.trans (hb9.mono hzle)
            refine hK.out _ _ hS9 (fun _ => ?_)
            clear hK KK
            try simp only [Act.put, List.setIfInBounds_toArray]
            refine held_pure 11 13 (.bool true) rfl (fun W => by rfl) hS9 ?_
            refine wpAnyH_done (by kernel_rfl) ?_ _
            try simp only [Act.put]
            go_wp2_with fail
            go_meet
            case rel => exact ⟨_, rfl, rfl, hz9, hS9⟩
        · rw [if_pos (by rfl)]
          go_wp2_with fail
          have hA6 := hHeld.alloc hHeld.size (.cells #[B 0, B 0, B 0, B 0, B 0, B 0, B 0, B 0] 30)
          have hz6 := Is.new w1.drew 30 #[B 0, B 0, B 0, B 0, B 0, B 0, B 0, B 0]
          have hzle := hHeld.size
          refine hK.out _ _ hA6 (fun _ => ?_)
          clear hK KK
          try simp only [Act.put, List.setIfInBounds_toArray, List.set_cons_zero, List.set_cons_succ]
          refine held_one (i := 4) (by kernel_rfl) rfl (by rfl) (fun KK hK => ?_)
          go_wp2_with fail
          refine (rlist_any _ l _ _ 146 5 _ _ HM.out rfl rfl (by have := HM.out; omega) (by have := HM.out; omega) (by omega) L2 HL2 _ ((hRB.out.keep hA6).mono hA6.size)).mono ?_
          rintro e x7 ⟨vL, rfl, hoL, hb⟩
          have hvL := hoL.vn
          clear hoL
          have hL7 := hA6.trans (hb.mono hA6.size)
          have hz7 := hz6.next hb
          go_wp2_with fail
          refine hK.out _ _ hL7 (fun _ => ?_)
          clear hK KK
          try simp only [Act.put, List.setIfInBounds_toArray, List.set_cons_zero, List.set_cons_succ]
          refine held_one (i := 5) (by kernel_rfl) rfl (by rfl) (fun KK hK => ?_)
          go_wp2_with fail
          refine (rFollow_any _ one ((q : Nat) : Int) 32 vL L2 (root, true) hvL (by have := hl2.out; omega) ⟨by omega, by omega⟩ ⟨by omega, by omega⟩ HF2).mono ?_
          rintro e x8 ⟨rfl, hb⟩
          have hC8 := hL7.trans (hb.mono hL7.size)
          have hz8 := hz7.next hb
          go_wp2_with fail
          refine hK.out _ _ hC8 (fun _ => ?_)
          clear hK KK
          try simp only [Act.put, List.setIfInBounds_toArray, List.set_cons_zero, List.set_cons_succ]
          refine held_pure 6 52 (.tuple #[nm root, .bool true]) rfl (fun W => by rfl) hC8 ?_
          try simp only [Act.put, List.setIfInBounds_toArray, List.set_cons_zero, List.set_cons_succ]
          refine held_pure 7 59 (nm root) rfl (fun W => by rfl) hC8 ?_
          try simp only [Act.put, List.setIfInBounds_toArray, List.set_cons_zero, List.set_cons_succ]
          refine held_pure 8 60 (.bool true) rfl (fun W => by rfl) hC8 ?_
          try simp only [Act.put, List.setIfInBounds_toArray, List.set_cons_zero, List.set_cons_succ]
          refine held_one (i := 10) (by kernel_rfl) rfl (by rfl) (fun KK hK => ?_)
          refine oper_store_is 30 (.tmp 12) (.tmp 59) rfl _ 30 _ (nmC root) rfl rfl hz8 (nmC_size _) name_info (nmC_one _) ?_
          intro x9 hz9 hb9 hfar9
          have hS9 := hC8.trans (hb9.mono hzle)
          refine hK.out _ _ hS9 (fun _ => ?_)
          clear hK KK
          try simp only [Act.put, List.setIfInBounds_toArray]
          refine held_pure 11 13 (.bool true) rfl (fun W => by rfl) hS9 ?_
          refine wpAnyH_done (by kernel_rfl) ?_ _
          try simp only [Act.put]
          go_wp2_with fail
          go_meet
          case rel => exact ⟨_, rfl, rfl, hz9, hS9⟩
      case rest =>
        obtain ⟨p2, rfl, rfl, hp2, hB2⟩ := hcut
        obtain ⟨w2, rfl⟩ : ∃ y, y = wc := ⟨_, rfl⟩
        have hRB := Lib.hid ((hRB.out.keep hB2).mono hB2.size)
        have hb := hb.next hB2
        have hF := hF.next hB2
        have cb := hb.cell
        have cp := hp2.cell
        go_wp2_with fail
        go_ret
        exact ⟨by rw [← HVER.out]; rfl, hF.1⟩
  · have s1 : ¬ (n : Int) < 32 := by omega
    have er : r = false := by
      rw [← hver.out]
      unfold verM
      rw [HN.out, if_neg (fun h => s1 h.2.2)]
    subst er
    go_wp2_with (go_at_call 11; refine (rcap_any _ 1).mono ?_; rintro e w1 ⟨rfl, rfl⟩; rw [cap_one])
    go_ret
    exact ⟨rfl, hF.drew.1⟩

set_option maxRecDepth 10000 in
set_option maxHeartbeats 4000000 in
theorem rver_go2 (w : World) (pub m : BitVec 64) (n : Nat) (l : List UInt8) (c : Nat) (hm : 370 = l.length) (_hc : 370 ≤ c) (_hc63 : c ≤ 9223372036854775807) (hn : leafN l = n) (A : Option Addr) (hr : RB w w.heap.size A l) (r : Bool) (hver : Hid (verM pub 2 m l = r)) :
    Calls Try.prog 20 #[nm pub, .int .i64 2, nm m, .slice A 370 c] w fun e w' => e = .returned (.bool r) ∧ Below w.heap.size w w' := by
  obtain ⟨hb, hm0, hF⟩ := signW_facts w pub m
  obtain ⟨b0, hb0⟩ : ∃ b, l[0]? = some b := ⟨_, List.getElem?_eq_getElem (by omega)⟩
  obtain ⟨b1, hb1⟩ : ∃ b, l[1]? = some b := ⟨_, List.getElem?_eq_getElem (by omega)⟩
  have hnn : ub b0 * 256 + ub b1 = (n : Int) := by
    rw [← hn]
    unfold leafN
    rw [List.getD_eq_getElem?_getD, List.getD_eq_getElem?_getD, hb0, hb1]
    simp [ub]
  have hor := or_i64 b0 b1
  rw [hnn] at hor
  have n0 : (0 : Int) ≤ (n : Int) := by omega
  have lo0 := ub_lo b0
  have hi0 := ub_hi b0
  have lo1 := ub_lo b1
  have hi1 := ub_hi b1
  have n9 : (n : Int) < 65536 := by omega
  have hw0 : IntKind.i64.wrap (ub b0) = ub b0 := by rw [IntKind.wrap_i64]; omega
  have hw1 : IntKind.i64.wrap (ub b1) = ub b1 := by rw [IntKind.wrap_i64]; omega
  have hw2 : IntKind.i64.wrap (ub b0 * 256) = ub b0 * 256 := by rw [IntKind.wrap_i64]; omega
  have hrb := hr.keep hF.1
  obtain ⟨g, off, rfl, hg, hcell⟩ := hrb (by omega)
  have hc0 : (signW w pub m).cell? ⟨g, off, none⟩ = some (.int .u8 (ub b0)) := hcell 0 b0 hb0
  have hc1 : (signW w pub m).cell? ⟨g, off + 1, none⟩ = some (.int .u8 (ub b1)) := hcell 1 b1 hb1
  have HC0 := Lib.hid hc0
  have HC1 := Lib.hid hc1
  have HG : Hid (g < (signW w pub m).heap.size) := Lib.hid (by have := hF.2; omega)
  have HR0 := Lib.hid hr
  have HM := Lib.hid hm
  have HN := Lib.hid hn
  clear hcell hc0 hc1 hb0 hb1 hnn hrb hm hn hg hr
  go_enter Try.func20, Try.ntmps20
  go_wp2_with (go_at_call 13; refine (rsize_any _ 2).mono ?_; rintro e w1 ⟨rfl, rfl⟩; rw [size_two])
  change Code.wp _ _ _ _ (signW w pub m)
  have hRB : Hid (RB (signW w pub m) (signW w pub m).heap.size (some ⟨g, off, none⟩) l) := Lib.hid ((HR0.out.keep hF.1).mono (by have := hF.2; omega))
  generalize signW w pub m = W at *
  refine wp_region_held_drew (S := fun w' => Below W.heap.size W w') (by kernel_rfl) (Below.refl _ _).drew (fun hHeld => ?_)
  refine held_pure 0 31 (.slice (some ⟨g, off, none⟩) 370 c) rfl (fun W => by rfl) hHeld ?_
  try simp only [Act.put, List.setIfInBounds_toArray, List.set_cons_zero, List.set_cons_succ]
  refine held_pure 1 32 (.pointer (some ⟨g, off, none⟩)) rfl (fun W => by go_simp) hHeld ?_
  try simp only [Act.put, List.setIfInBounds_toArray, List.set_cons_zero, List.set_cons_succ]
  refine held_if 2 33 (.int .u8 (ub b0)) rfl (fun w' h => by (have hc := (h.cell (p := ⟨g, off, none⟩) HG.out).trans HC0.out; go_simp)) hHeld ?_
  try simp only [Act.put, List.setIfInBounds_toArray, List.set_cons_zero, List.set_cons_succ]
  refine held_pure 3 34 (.int .i64 (ub b0)) rfl (fun W => by go_simp) hHeld ?_
  try simp only [Act.put, List.setIfInBounds_toArray, List.set_cons_zero, List.set_cons_succ]
  refine held_pure 4 35 (.int .i64 (ub b0 * 256)) rfl (fun W => by go_simp) hHeld ?_
  try simp only [Act.put, List.setIfInBounds_toArray, List.set_cons_zero, List.set_cons_succ]
  refine held_pure 5 36 (.slice (some ⟨g, off, none⟩) 370 c) rfl (fun W => by rfl) hHeld ?_
  try simp only [Act.put, List.setIfInBounds_toArray, List.set_cons_zero, List.set_cons_succ]
  refine held_pure 6 37 (.pointer (some ⟨g, off + 1, none⟩)) rfl (fun W => by go_simp) hHeld ?_
  try simp only [Act.put, List.setIfInBounds_toArray, List.set_cons_zero, List.set_cons_succ]
  refine held_if 7 38 (.int .u8 (ub b1)) rfl (fun w' h => by (have hc := (h.cell (p := ⟨g, off + 1, none⟩) HG.out).trans HC1.out; go_simp)) hHeld ?_
  try simp only [Act.put, List.setIfInBounds_toArray, List.set_cons_zero, List.set_cons_succ]
  refine held_pure 8 39 (.int .i64 (ub b1)) rfl (fun W => by go_simp) hHeld ?_
  try simp only [Act.put, List.setIfInBounds_toArray, List.set_cons_zero, List.set_cons_succ]
  refine held_pure 9 40 (.int .i64 (n : Int)) rfl (fun W => by go_simp) hHeld ?_
  try simp only [Act.put, List.setIfInBounds_toArray, List.set_cons_zero, List.set_cons_succ]
  refine held_pure 10 9 (.int .i64 (n : Int)) rfl (fun W => by rfl) hHeld ?_
  try simp only [Act.put, List.setIfInBounds_toArray, List.set_cons_zero, List.set_cons_succ]
  refine wpAnyH_done (by kernel_rfl) ?_ _
  try simp only [Act.put, List.setIfInBounds_toArray, List.set_cons_zero, List.set_cons_succ]
  clear hw0 hw1 hw2 hor lo0 hi0 lo1 hi1 n9
  by_cases hnC : n < 1024
  · have s1 : (n : Int) < 1024 := by omega
    obtain ⟨q, hq⟩ : ∃ q, n % 32 = q := ⟨_, rfl⟩
    obtain ⟨d, hd⟩ : ∃ d, n / 32 = d := ⟨_, rfl⟩
    have hq1 : (n : Int) % 32 = (q : Int) := by omega
    have hq2 : Int.tmod (n : Int) 32 = (q : Int) := by rw [Int.tmod_eq_emod_of_nonneg (by omega)]; exact hq1
    have hd1 : (n : Int) / 32 = (d : Int) := by omega
    have hd2 : Int.tdiv (n : Int) 32 = (d : Int) := by rw [Int.tdiv_eq_ediv_of_nonneg (by omega)]; exact hd1
    have hq32 : q < 32 := by omega
    have hd32 : d < 32 := by omega
    have hwd : IntKind.i64.wrap (d : Int) = (d : Int) := by rw [IntKind.wrap_i64]; omega
    have b5 : decide ((1024 : Int) ≤ (n : Int)) = false := by rw [decide_eq_false_iff_not]; omega
    obtain ⟨L1, hL1⟩ : ∃ L1, listF l 2 18 = L1 := ⟨_, rfl⟩
    obtain ⟨one, hone⟩ : ∃ x, endsF (recF m L1) = x := ⟨_, rfl⟩
    obtain ⟨L2, hL2⟩ : ∃ L2, listF l 146 5 = L2 := ⟨_, rfl⟩
    obtain ⟨root, hroot⟩ : ∃ x, followF one (q) 32 L2 = x := ⟨_, rfl⟩
    have hl1 := listF_len l 2 18
    have hl2 := listF_len l 146 5
    rw [hL1] at hl1
    rw [hL2] at hl2
    have hsh : showF m l 2 (q) = root := by unfold showF; rw [hL1, hone, hL2, hroot]
    have HR1 : Hid (recP m L1 = (one, true)) := Lib.hid (by rw [recP_len m L1 hl1, hone])
    have HF2 : Hid (followP one ((q : Nat) : Int) 32 L2 = (root, true)) := Lib.hid (by
      unfold followP
      have h0 := depthI_nat (q) 32 (by omega)
      rw [depth32 (q) (by omega)] at h0
      rw [show ((32 : Int)) = ((32 : Nat) : Int) from rfl, h0, if_pos ⟨by omega, by omega⟩, Int.toNat_natCast, Int.toNat_natCast, hroot])
    have HL1 := Lib.hid hL1
    have HL2 := Lib.hid hL2
    have hl1 := Lib.hid hl1
    have hl2 := Lib.hid hl2
    obtain ⟨L3, hL3⟩ : ∃ L3, listF l 186 18 = L3 := ⟨_, rfl⟩
    obtain ⟨two, htwo⟩ : ∃ x, endsF (recF root L3) = x := ⟨_, rfl⟩
    obtain ⟨L4, hL4⟩ : ∃ L4, listF l 330 5 = L4 := ⟨_, rfl⟩
    obtain ⟨top, htop⟩ : ∃ x, followF two (d) 32 L4 = x := ⟨_, rfl⟩
    have hl3 := listF_len l 186 18
    have hl4 := listF_len l 330 5
    rw [hL3] at hl3
    rw [hL4] at hl4
    have hsh2 : showF root l 186 (d) = top := by unfold showF; rw [hL3, htwo, hL4, htop]
    have HR3 : Hid (recP root L3 = (two, true)) := Lib.hid (by rw [recP_len root L3 hl3, htwo])
    have HF4 : Hid (followP two ((d : Nat) : Int) 32 L4 = (top, true)) := Lib.hid (by
      unfold followP
      have h0 := depthI_nat (d) 32 (by omega)
      rw [depth32 (d) (by omega)] at h0
      rw [show ((32 : Int)) = ((32 : Nat) : Int) from rfl, h0, if_pos ⟨by omega, by omega⟩, Int.toNat_natCast, Int.toNat_natCast, htop])
    have HL3 := Lib.hid hL3
    have HL4 := Lib.hid hL4
    have hl3 := Lib.hid hl3
    have hl4 := Lib.hid hl4
    have HVER : Hid (nmEq top pub = r) := Lib.hid (by
      rw [← hver.out]
      unfold verM
      rw [HN.out, if_pos ⟨Or.inr rfl, by rw [← HM.out]; rfl, s1⟩, if_neg (by decide), hq, hd, hsh, hsh2])
    clear hL3 htwo hL4 htop hsh2
    clear hL1 hone hL2 hroot hsh hver hnC hq hd
    go_wp2_with fail
    refine (rcap_any _ 2).mono ?_
    rintro e w1 ⟨rfl, rfl⟩
    rw [cap_two]
    go_wp2_with fail
    go_cut [10, 11] (fun s10 s11 wx => ∃ p, s10 = .pointer (some ⟨p, 0, none⟩) ∧ s11 = .bool true ∧ Is wx p 30 (nmC one) ∧ Below W.heap.size W wx)
    case first =>
      refine wp_region_held_drew (S := fun w' => Below W.heap.size W w') (by kernel_rfl) (Below.refl _ _).drew.drew (fun hHeld => ?_)
      refine held_load 0 46 rfl 30 (.tmp 6) rfl (w.heap.size + 1) 0 rfl (nmR m) (fun w' h => range_is (cs := nmR m) (hm0.next h)) Try.underlying30 name_info hHeld ?_
      try simp only [Act.put, List.setIfInBounds_toArray, List.set_cons_zero, List.set_cons_succ]
      refine held_pure 1 47 (.slice (some ⟨g, off, none⟩) 370 c) rfl (fun W => by rfl) hHeld ?_
      try simp only [Act.put, List.setIfInBounds_toArray, List.set_cons_zero, List.set_cons_succ]
      refine wpAnyH_ready (rs := [2, 7]) (by kernel_rfl) (by simp) (AllReadyH.cons rfl (fun KK hK => ?_) (AllReadyH.cons rfl (fun KK hK => ?_) AllReadyH.nil))
      · rw [if_pos (by rfl)]
        go_wp2_with fail
        refine (rlist_any _ l _ _ 2 18 _ _ HM.out rfl rfl (by have := HM.out; omega) (by have := HM.out; omega) (by omega) L1 HL1 _ ((hRB.out.keep hHeld).mono hHeld.size)).mono ?_
        rintro e x1 ⟨vL, rfl, hoL, hb⟩
        have hvL := hoL.vn
        clear hoL
        have hL1 := hHeld.trans (hb.mono hHeld.size)
        go_wp2_with fail
        refine hK.out _ _ hL1 (fun _ => ?_)
        clear hK KK
        try simp only [Act.put, List.setIfInBounds_toArray, List.set_cons_zero, List.set_cons_succ]
        refine wpAnyH_ready (rs := [3, 7]) (by kernel_rfl) (by simp) (AllReadyH.cons rfl (fun KK hK => ?_) (AllReadyH.cons rfl (fun KK hK => ?_) AllReadyH.nil))
        · rw [if_pos (by rfl)]
          go_wp2_with fail
          refine (refO.recover _ m vL L1 (one, true) hvL (by have := hl1.out; omega) HR1).mono ?_
          rintro e x2 ⟨rfl, hb⟩
          have hC2 := hL1.trans (hb.mono hL1.size)
          go_wp2_with fail
          refine hK.out _ _ hC2 (fun _ => ?_)
          clear hK KK
          try simp only [Act.put, List.setIfInBounds_toArray, List.set_cons_zero, List.set_cons_succ]
          refine held_pure 4 45 (.tuple #[nm one, .bool true]) rfl (fun W => by rfl) hC2 ?_
          try simp only [Act.put, List.setIfInBounds_toArray, List.set_cons_zero, List.set_cons_succ]
          refine held_pure 5 50 (nm one) rfl (fun W => by rfl) hC2 ?_
          try simp only [Act.put, List.setIfInBounds_toArray, List.set_cons_zero, List.set_cons_succ]
          refine held_pure 6 51 (.bool true) rfl (fun W => by rfl) hC2 ?_
          try simp only [Act.put, List.setIfInBounds_toArray, List.set_cons_zero, List.set_cons_succ]
          refine held_one (i := 7) (by kernel_rfl) rfl (by rfl) (fun KK hK => ?_)
          go_wp2_with fail
          have hA3 := hC2.alloc hC2.size (.cells #[B 0, B 0, B 0, B 0, B 0, B 0, B 0, B 0] 30)
          have hz3 := Is.new x2 30 #[B 0, B 0, B 0, B 0, B 0, B 0, B 0, B 0]
          have hzle := hC2.size
          refine hK.out _ _ hA3 (fun _ => ?_)
          clear hK KK
          try simp only [Act.put, List.setIfInBounds_toArray, List.set_cons_zero, List.set_cons_succ]
          refine held_one (i := 8) (by kernel_rfl) rfl (by rfl) (fun KK hK => ?_)
          refine oper_store_is 30 (.tmp 10) (.tmp 50) rfl _ 30 _ (nmC one) rfl rfl hz3 (nmC_size _) name_info (nmC_one _) ?_
          intro x9 hz9 hb9 hfar9
          have hS9 := hA3.trans (hb9.mono hzle)
          refine hK.out _ _ hS9 (fun _ => ?_)
          clear hK KK
          try simp only [Act.put, List.setIfInBounds_toArray]
          refine held_pure 9 11 (.bool true) rfl (fun W => by rfl) hS9 ?_
          refine wpAnyH_done (by kernel_rfl) ?_ _
          try simp only [Act.put]
          go_wp2_with fail
          go_meet
          case rel => exact ⟨_, rfl, rfl, hz9, hS9⟩
        · rw [if_pos (by rfl)]
          go_wp2_with fail
          have hA4 := hL1.alloc hL1.size (.cells #[B 0, B 0, B 0, B 0, B 0, B 0, B 0, B 0] 30)
          have hz4 := Is.new x1 30 #[B 0, B 0, B 0, B 0, B 0, B 0, B 0, B 0]
          have hzle := hL1.size
          have hvL := hvL.next ((Below.refl _ _).alloc (Nat.le_refl _) (.cells #[B 0, B 0, B 0, B 0, B 0, B 0, B 0, B 0] 30))
          refine hK.out _ _ hA4 (fun _ => ?_)
          clear hK KK
          try simp only [Act.put, List.setIfInBounds_toArray, List.set_cons_zero, List.set_cons_succ]
          refine held_one (i := 3) (by kernel_rfl) rfl (by rfl) (fun KK hK => ?_)
          go_wp2_with fail
          refine (refO.recover _ m vL L1 (one, true) hvL (by have := hl1.out; omega) HR1).mono ?_
          rintro e x5 ⟨rfl, hb⟩
          have hC5 := hA4.trans (hb.mono hA4.size)
          have hz5 := hz4.next hb
          go_wp2_with fail
          refine hK.out _ _ hC5 (fun _ => ?_)
          clear hK KK
          try simp only [Act.put, List.setIfInBounds_toArray, List.set_cons_zero, List.set_cons_succ]
          refine held_pure 4 45 (.tuple #[nm one, .bool true]) rfl (fun W => by rfl) hC5 ?_
          try simp only [Act.put, List.setIfInBounds_toArray, List.set_cons_zero, List.set_cons_succ]
          refine held_pure 5 50 (nm one) rfl (fun W => by rfl) hC5 ?_
          try simp only [Act.put, List.setIfInBounds_toArray, List.set_cons_zero, List.set_cons_succ]
          refine held_pure 6 51 (.bool true) rfl (fun W => by rfl) hC5 ?_
          try simp only [Act.put, List.setIfInBounds_toArray, List.set_cons_zero, List.set_cons_succ]
          refine held_one (i := 8) (by kernel_rfl) rfl (by rfl) (fun KK hK => ?_)
          refine oper_store_is 30 (.tmp 10) (.tmp 50) rfl _ 30 _ (nmC one) rfl rfl hz5 (nmC_size _) name_info (nmC_one _) ?_
          intro x9 hz9 hb9 hfar9
          have hS9 := hC5.trans (hb9.mono hzle)
          refine hK.out _ _ hS9 (fun _ => ?_)
          clear hK KK
          try simp only [Act.put, List.setIfInBounds_toArray]
          refine held_pure 9 11 (.bool true) rfl (fun W => by rfl) hS9 ?_
          refine wpAnyH_done (by kernel_rfl) ?_ _
          try simp only [Act.put]
          go_wp2_with fail
          go_meet
          case rel => exact ⟨_, rfl, rfl, hz9, hS9⟩
      · rw [if_pos (by rfl)]
        go_wp2_with fail
        have hA6 := hHeld.alloc hHeld.size (.cells #[B 0, B 0, B 0, B 0, B 0, B 0, B 0, B 0] 30)
        have hz6 := Is.new W.drew.drew 30 #[B 0, B 0, B 0, B 0, B 0, B 0, B 0, B 0]
        have hzle := hHeld.size
        refine hK.out _ _ hA6 (fun _ => ?_)
        clear hK KK
        try simp only [Act.put, List.setIfInBounds_toArray, List.set_cons_zero, List.set_cons_succ]
        refine held_one (i := 2) (by kernel_rfl) rfl (by rfl) (fun KK hK => ?_)
        go_wp2_with fail
        refine (rlist_any _ l _ _ 2 18 _ _ HM.out rfl rfl (by have := HM.out; omega) (by have := HM.out; omega) (by omega) L1 HL1 _ ((hRB.out.keep hA6).mono hA6.size)).mono ?_
        rintro e x7 ⟨vL, rfl, hoL, hb⟩
        have hvL := hoL.vn
        clear hoL
        have hL7 := hA6.trans (hb.mono hA6.size)
        have hz7 := hz6.next hb
        go_wp2_with fail
        refine hK.out _ _ hL7 (fun _ => ?_)
        clear hK KK
        try simp only [Act.put, List.setIfInBounds_toArray, List.set_cons_zero, List.set_cons_succ]
        refine held_one (i := 3) (by kernel_rfl) rfl (by rfl) (fun KK hK => ?_)
        go_wp2_with fail
        refine (refO.recover _ m vL L1 (one, true) hvL (by have := hl1.out; omega) HR1).mono ?_
        rintro e x8 ⟨rfl, hb⟩
        have hC8 := hL7.trans (hb.mono hL7.size)
        have hz8 := hz7.next hb
        go_wp2_with fail
        refine hK.out _ _ hC8 (fun _ => ?_)
        clear hK KK
        try simp only [Act.put, List.setIfInBounds_toArray, List.set_cons_zero, List.set_cons_succ]
        refine held_pure 4 45 (.tuple #[nm one, .bool true]) rfl (fun W => by rfl) hC8 ?_
        try simp only [Act.put, List.setIfInBounds_toArray, List.set_cons_zero, List.set_cons_succ]
        refine held_pure 5 50 (nm one) rfl (fun W => by rfl) hC8 ?_
        try simp only [Act.put, List.setIfInBounds_toArray, List.set_cons_zero, List.set_cons_succ]
        refine held_pure 6 51 (.bool true) rfl (fun W => by rfl) hC8 ?_
        try simp only [Act.put, List.setIfInBounds_toArray, List.set_cons_zero, List.set_cons_succ]
        refine held_one (i := 8) (by kernel_rfl) rfl (by rfl) (fun KK hK => ?_)
        refine oper_store_is 30 (.tmp 10) (.tmp 50) rfl _ 30 _ (nmC one) rfl rfl hz8 (nmC_size _) name_info (nmC_one _) ?_
        intro x9 hz9 hb9 hfar9
        have hS9 := hC8.trans (hb9.mono hzle)
        refine hK.out _ _ hS9 (fun _ => ?_)
        clear hK KK
        try simp only [Act.put, List.setIfInBounds_toArray]
        refine held_pure 9 11 (.bool true) rfl (fun W => by rfl) hS9 ?_
        refine wpAnyH_done (by kernel_rfl) ?_ _
        try simp only [Act.put]
        go_wp2_with fail
        go_meet
        case rel => exact ⟨_, rfl, rfl, hz9, hS9⟩
    case rest =>
      obtain ⟨p1, rfl, rfl, hp1, hB1⟩ := hcut
      obtain ⟨w1, rfl⟩ : ∃ y, y = wc := ⟨_, rfl⟩
      have hRB := Lib.hid ((hRB.out.keep hB1).mono hB1.size)
      have hb := hb.next hB1
      have hF := hF.next hB1
      have cb := hb.cell
      have cp := hp1.cell
      clear cb cp
      go_wp2_with fail
      go_cut [12, 13] (fun s12 s13 wx => ∃ p, s12 = .pointer (some ⟨p, 0, none⟩) ∧ s13 = .bool true ∧ Is wx p 30 (nmC root) ∧ Below w1.heap.size w1 wx)
      case first =>
        refine wp_region_held_drew (S := fun w' => Below w1.heap.size w1 w') (by kernel_rfl) (Below.refl _ _).drew (fun hHeld => ?_)
        refine held_load 0 53 rfl 30 (.tmp 10) rfl p1 0 rfl (nmR one) (fun w' h => range_is (cs := nmR one) (hp1.next h)) Try.underlying30 name_info hHeld ?_
        try simp only [Act.put, List.setIfInBounds_toArray, List.set_cons_zero, List.set_cons_succ]
        refine held_pure 1 54 (.int .i64 (n : Int)) rfl (fun W => by rfl) hHeld ?_
        try simp only [Act.put, List.setIfInBounds_toArray, List.set_cons_zero, List.set_cons_succ]
        refine held_pure 2 55 (.int .i64 (q : Int)) rfl (fun W => by go_simp) hHeld ?_
        try simp only [Act.put, List.setIfInBounds_toArray, List.set_cons_zero, List.set_cons_succ]
        refine held_pure 3 56 (.slice (some ⟨g, off, none⟩) 370 c) rfl (fun W => by rfl) hHeld ?_
        try simp only [Act.put, List.setIfInBounds_toArray, List.set_cons_zero, List.set_cons_succ]
        refine wpAnyH_ready (rs := [4, 9]) (by kernel_rfl) (by simp) (AllReadyH.cons rfl (fun KK hK => ?_) (AllReadyH.cons rfl (fun KK hK => ?_) AllReadyH.nil))
        · rw [if_pos (by rfl)]
          go_wp2_with fail
          refine (rlist_any _ l _ _ 146 5 _ _ HM.out rfl rfl (by have := HM.out; omega) (by have := HM.out; omega) (by omega) L2 HL2 _ ((hRB.out.keep hHeld).mono hHeld.size)).mono ?_
          rintro e x1 ⟨vL, rfl, hoL, hb⟩
          have hvL := hoL.vn
          clear hoL
          have hL1 := hHeld.trans (hb.mono hHeld.size)
          go_wp2_with fail
          refine hK.out _ _ hL1 (fun _ => ?_)
          clear hK KK
          try simp only [Act.put, List.setIfInBounds_toArray, List.set_cons_zero, List.set_cons_succ]
          refine wpAnyH_ready (rs := [5, 9]) (by kernel_rfl) (by simp) (AllReadyH.cons rfl (fun KK hK => ?_) (AllReadyH.cons rfl (fun KK hK => ?_) AllReadyH.nil))
          · rw [if_pos (by rfl)]
            go_wp2_with fail
            refine (rFollow_any _ one ((q : Nat) : Int) 32 vL L2 (root, true) hvL (by have := hl2.out; omega) ⟨by omega, by omega⟩ ⟨by omega, by omega⟩ HF2).mono ?_
            rintro e x2 ⟨rfl, hb⟩
            have hC2 := hL1.trans (hb.mono hL1.size)
            go_wp2_with fail
            refine hK.out _ _ hC2 (fun _ => ?_)
            clear hK KK
            try simp only [Act.put, List.setIfInBounds_toArray, List.set_cons_zero, List.set_cons_succ]
            refine held_pure 6 52 (.tuple #[nm root, .bool true]) rfl (fun W => by rfl) hC2 ?_
            try simp only [Act.put, List.setIfInBounds_toArray, List.set_cons_zero, List.set_cons_succ]
            refine held_pure 7 59 (nm root) rfl (fun W => by rfl) hC2 ?_
            try simp only [Act.put, List.setIfInBounds_toArray, List.set_cons_zero, List.set_cons_succ]
            refine held_pure 8 60 (.bool true) rfl (fun W => by rfl) hC2 ?_
            try simp only [Act.put, List.setIfInBounds_toArray, List.set_cons_zero, List.set_cons_succ]
            refine held_one (i := 9) (by kernel_rfl) rfl (by rfl) (fun KK hK => ?_)
            go_wp2_with fail
            have hA3 := hC2.alloc hC2.size (.cells #[B 0, B 0, B 0, B 0, B 0, B 0, B 0, B 0] 30)
            have hz3 := Is.new x2 30 #[B 0, B 0, B 0, B 0, B 0, B 0, B 0, B 0]
            have hzle := hC2.size
            refine hK.out _ _ hA3 (fun _ => ?_)
            clear hK KK
            try simp only [Act.put, List.setIfInBounds_toArray, List.set_cons_zero, List.set_cons_succ]
            refine held_one (i := 10) (by kernel_rfl) rfl (by rfl) (fun KK hK => ?_)
            refine oper_store_is 30 (.tmp 12) (.tmp 59) rfl _ 30 _ (nmC root) rfl rfl hz3 (nmC_size _) name_info (nmC_one _) ?_
            intro x9 hz9 hb9 hfar9
            have hS9 := hA3.trans (hb9.mono hzle)
            refine hK.out _ _ hS9 (fun _ => ?_)
            clear hK KK
            try simp only [Act.put, List.setIfInBounds_toArray]
            refine held_pure 11 13 (.bool true) rfl (fun W => by rfl) hS9 ?_
            refine wpAnyH_done (by kernel_rfl) ?_ _
            try simp only [Act.put]
            go_wp2_with fail
            go_meet
            case rel => exact ⟨_, rfl, rfl, hz9, hS9⟩
          · rw [if_pos (by rfl)]
            go_wp2_with fail
            have hA4 := hL1.alloc hL1.size (.cells #[B 0, B 0, B 0, B 0, B 0, B 0, B 0, B 0] 30)
            have hz4 := Is.new x1 30 #[B 0, B 0, B 0, B 0, B 0, B 0, B 0, B 0]
            have hzle := hL1.size
            have hvL := hvL.next ((Below.refl _ _).alloc (Nat.le_refl _) (.cells #[B 0, B 0, B 0, B 0, B 0, B 0, B 0, B 0] 30))
            refine hK.out _ _ hA4 (fun _ => ?_)
            clear hK KK
            try simp only [Act.put, List.setIfInBounds_toArray, List.set_cons_zero, List.set_cons_succ]
            refine held_one (i := 5) (by kernel_rfl) rfl (by rfl) (fun KK hK => ?_)
            go_wp2_with fail
            refine (rFollow_any _ one ((q : Nat) : Int) 32 vL L2 (root, true) hvL (by have := hl2.out; omega) ⟨by omega, by omega⟩ ⟨by omega, by omega⟩ HF2).mono ?_
            rintro e x5 ⟨rfl, hb⟩
            have hC5 := hA4.trans (hb.mono hA4.size)
            have hz5 := hz4.next hb
            go_wp2_with fail
            refine hK.out _ _ hC5 (fun _ => ?_)
            clear hK KK
            try simp only [Act.put, List.setIfInBounds_toArray, List.set_cons_zero, List.set_cons_succ]
            refine held_pure 6 52 (.tuple #[nm root, .bool true]) rfl (fun W => by rfl) hC5 ?_
            try simp only [Act.put, List.setIfInBounds_toArray, List.set_cons_zero, List.set_cons_succ]
            refine held_pure 7 59 (nm root) rfl (fun W => by rfl) hC5 ?_
            try simp only [Act.put, List.setIfInBounds_toArray, List.set_cons_zero, List.set_cons_succ]
            refine held_pure 8 60 (.bool true) rfl (fun W => by rfl) hC5 ?_
            try simp only [Act.put, List.setIfInBounds_toArray, List.set_cons_zero, List.set_cons_succ]
            refine held_one (i := 10) (by kernel_rfl) rfl (by rfl) (fun KK hK => ?_)
            refine oper_store_is 30 (.tmp 12) (.tmp 59) rfl _ 30 _ (nmC root) rfl rfl hz5 (nmC_size _) name_info (nmC_one _) ?_
            intro x9 hz9 hb9 hfar9
            have hS9 := hC5.trans (hb9.mono hzle)
            refine hK.out _ _ hS9 (fun _ => ?_)
            clear hK KK
            try simp only [Act.put, List.setIfInBounds_toArray]
            refine held_pure 11 13 (.bool true) rfl (fun W => by rfl) hS9 ?_
            refine wpAnyH_done (by kernel_rfl) ?_ _
            try simp only [Act.put]
            go_wp2_with fail
            go_meet
            case rel => exact ⟨_, rfl, rfl, hz9, hS9⟩
        · rw [if_pos (by rfl)]
          go_wp2_with fail
          have hA6 := hHeld.alloc hHeld.size (.cells #[B 0, B 0, B 0, B 0, B 0, B 0, B 0, B 0] 30)
          have hz6 := Is.new w1.drew 30 #[B 0, B 0, B 0, B 0, B 0, B 0, B 0, B 0]
          have hzle := hHeld.size
          refine hK.out _ _ hA6 (fun _ => ?_)
          clear hK KK
          try simp only [Act.put, List.setIfInBounds_toArray, List.set_cons_zero, List.set_cons_succ]
          refine held_one (i := 4) (by kernel_rfl) rfl (by rfl) (fun KK hK => ?_)
          go_wp2_with fail
          refine (rlist_any _ l _ _ 146 5 _ _ HM.out rfl rfl (by have := HM.out; omega) (by have := HM.out; omega) (by omega) L2 HL2 _ ((hRB.out.keep hA6).mono hA6.size)).mono ?_
          rintro e x7 ⟨vL, rfl, hoL, hb⟩
          have hvL := hoL.vn
          clear hoL
          have hL7 := hA6.trans (hb.mono hA6.size)
          have hz7 := hz6.next hb
          go_wp2_with fail
          refine hK.out _ _ hL7 (fun _ => ?_)
          clear hK KK
          try simp only [Act.put, List.setIfInBounds_toArray, List.set_cons_zero, List.set_cons_succ]
          refine held_one (i := 5) (by kernel_rfl) rfl (by rfl) (fun KK hK => ?_)
          go_wp2_with fail
          refine (rFollow_any _ one ((q : Nat) : Int) 32 vL L2 (root, true) hvL (by have := hl2.out; omega) ⟨by omega, by omega⟩ ⟨by omega, by omega⟩ HF2).mono ?_
          rintro e x8 ⟨rfl, hb⟩
          have hC8 := hL7.trans (hb.mono hL7.size)
          have hz8 := hz7.next hb
          go_wp2_with fail
          refine hK.out _ _ hC8 (fun _ => ?_)
          clear hK KK
          try simp only [Act.put, List.setIfInBounds_toArray, List.set_cons_zero, List.set_cons_succ]
          refine held_pure 6 52 (.tuple #[nm root, .bool true]) rfl (fun W => by rfl) hC8 ?_
          try simp only [Act.put, List.setIfInBounds_toArray, List.set_cons_zero, List.set_cons_succ]
          refine held_pure 7 59 (nm root) rfl (fun W => by rfl) hC8 ?_
          try simp only [Act.put, List.setIfInBounds_toArray, List.set_cons_zero, List.set_cons_succ]
          refine held_pure 8 60 (.bool true) rfl (fun W => by rfl) hC8 ?_
          try simp only [Act.put, List.setIfInBounds_toArray, List.set_cons_zero, List.set_cons_succ]
          refine held_one (i := 10) (by kernel_rfl) rfl (by rfl) (fun KK hK => ?_)
          refine oper_store_is 30 (.tmp 12) (.tmp 59) rfl _ 30 _ (nmC root) rfl rfl hz8 (nmC_size _) name_info (nmC_one _) ?_
          intro x9 hz9 hb9 hfar9
          have hS9 := hC8.trans (hb9.mono hzle)
          refine hK.out _ _ hS9 (fun _ => ?_)
          clear hK KK
          try simp only [Act.put, List.setIfInBounds_toArray]
          refine held_pure 11 13 (.bool true) rfl (fun W => by rfl) hS9 ?_
          refine wpAnyH_done (by kernel_rfl) ?_ _
          try simp only [Act.put]
          go_wp2_with fail
          go_meet
          case rel => exact ⟨_, rfl, rfl, hz9, hS9⟩
      case rest =>
        obtain ⟨p2, rfl, rfl, hp2, hB2⟩ := hcut
        obtain ⟨w2, rfl⟩ : ∃ y, y = wc := ⟨_, rfl⟩
        have hRB := Lib.hid ((hRB.out.keep hB2).mono hB2.size)
        have hb := hb.next hB2
        have hF := hF.next hB2
        have cb := hb.cell
        have cp := hp2.cell
        clear cb cp
        go_wp2_with fail
        go_cut [14, 15] (fun s14 s15 wx => ∃ p, s14 = .pointer (some ⟨p, 0, none⟩) ∧ s15 = .bool true ∧ Is wx p 30 (nmC two) ∧ Below w2.heap.size w2 wx)
        case first =>
          refine wp_region_held_drew (S := fun w' => Below w2.heap.size w2 w') (by kernel_rfl) (Below.refl _ _).drew (fun hHeld => ?_)
          refine held_load 0 67 rfl 30 (.tmp 12) rfl p2 0 rfl (nmR root) (fun w' h => range_is (cs := nmR root) (hp2.next h)) Try.underlying30 name_info hHeld ?_
          try simp only [Act.put, List.setIfInBounds_toArray, List.set_cons_zero, List.set_cons_succ]
          refine held_pure 1 68 (.slice (some ⟨g, off, none⟩) 370 c) rfl (fun W => by rfl) hHeld ?_
          try simp only [Act.put, List.setIfInBounds_toArray, List.set_cons_zero, List.set_cons_succ]
          refine wpAnyH_ready (rs := [2, 7]) (by kernel_rfl) (by simp) (AllReadyH.cons rfl (fun KK hK => ?_) (AllReadyH.cons rfl (fun KK hK => ?_) AllReadyH.nil))
          · rw [if_pos (by rfl)]
            go_wp2_with fail
            refine (rlist_any _ l _ _ 186 18 _ _ HM.out rfl rfl (by have := HM.out; omega) (by have := HM.out; omega) (by omega) L3 HL3 _ ((hRB.out.keep hHeld).mono hHeld.size)).mono ?_
            rintro e x1 ⟨vL, rfl, hoL, hb⟩
            have hvL := hoL.vn
            clear hoL
            have hL1 := hHeld.trans (hb.mono hHeld.size)
            go_wp2_with fail
            refine hK.out _ _ hL1 (fun _ => ?_)
            clear hK KK
            try simp only [Act.put, List.setIfInBounds_toArray, List.set_cons_zero, List.set_cons_succ]
            refine wpAnyH_ready (rs := [3, 7]) (by kernel_rfl) (by simp) (AllReadyH.cons rfl (fun KK hK => ?_) (AllReadyH.cons rfl (fun KK hK => ?_) AllReadyH.nil))
            · rw [if_pos (by rfl)]
              go_wp2_with fail
              refine (refO.recover _ root vL L3 (two, true) hvL (by have := hl3.out; omega) HR3).mono ?_
              rintro e x2 ⟨rfl, hb⟩
              have hC2 := hL1.trans (hb.mono hL1.size)
              go_wp2_with fail
              refine hK.out _ _ hC2 (fun _ => ?_)
              clear hK KK
              try simp only [Act.put, List.setIfInBounds_toArray, List.set_cons_zero, List.set_cons_succ]
              refine held_pure 4 66 (.tuple #[nm two, .bool true]) rfl (fun W => by rfl) hC2 ?_
              try simp only [Act.put, List.setIfInBounds_toArray, List.set_cons_zero, List.set_cons_succ]
              refine held_pure 5 71 (nm two) rfl (fun W => by rfl) hC2 ?_
              try simp only [Act.put, List.setIfInBounds_toArray, List.set_cons_zero, List.set_cons_succ]
              refine held_pure 6 72 (.bool true) rfl (fun W => by rfl) hC2 ?_
              try simp only [Act.put, List.setIfInBounds_toArray, List.set_cons_zero, List.set_cons_succ]
              refine held_one (i := 7) (by kernel_rfl) rfl (by rfl) (fun KK hK => ?_)
              go_wp2_with fail
              have hA3 := hC2.alloc hC2.size (.cells #[B 0, B 0, B 0, B 0, B 0, B 0, B 0, B 0] 30)
              have hz3 := Is.new x2 30 #[B 0, B 0, B 0, B 0, B 0, B 0, B 0, B 0]
              have hzle := hC2.size
              refine hK.out _ _ hA3 (fun _ => ?_)
              clear hK KK
              try simp only [Act.put, List.setIfInBounds_toArray, List.set_cons_zero, List.set_cons_succ]
              refine held_one (i := 8) (by kernel_rfl) rfl (by rfl) (fun KK hK => ?_)
              refine oper_store_is 30 (.tmp 14) (.tmp 71) rfl _ 30 _ (nmC two) rfl rfl hz3 (nmC_size _) name_info (nmC_one _) ?_
              intro x9 hz9 hb9 hfar9
              have hS9 := hA3.trans (hb9.mono hzle)
              refine hK.out _ _ hS9 (fun _ => ?_)
              clear hK KK
              try simp only [Act.put, List.setIfInBounds_toArray]
              refine held_pure 9 15 (.bool true) rfl (fun W => by rfl) hS9 ?_
              refine wpAnyH_done (by kernel_rfl) ?_ _
              try simp only [Act.put]
              go_wp2_with fail
              go_meet
              case rel => exact ⟨_, rfl, rfl, hz9, hS9⟩
            · rw [if_pos (by rfl)]
              go_wp2_with fail
              have hA4 := hL1.alloc hL1.size (.cells #[B 0, B 0, B 0, B 0, B 0, B 0, B 0, B 0] 30)
              have hz4 := Is.new x1 30 #[B 0, B 0, B 0, B 0, B 0, B 0, B 0, B 0]
              have hzle := hL1.size
              have hvL := hvL.next ((Below.refl _ _).alloc (Nat.le_refl _) (.cells #[B 0, B 0, B 0, B 0, B 0, B 0, B 0, B 0] 30))
              refine hK.out _ _ hA4 (fun _ => ?_)
              clear hK KK
              try simp only [Act.put, List.setIfInBounds_toArray, List.set_cons_zero, List.set_cons_succ]
              refine held_one (i := 3) (by kernel_rfl) rfl (by rfl) (fun KK hK => ?_)
              go_wp2_with fail
              refine (refO.recover _ root vL L3 (two, true) hvL (by have := hl3.out; omega) HR3).mono ?_
              rintro e x5 ⟨rfl, hb⟩
              have hC5 := hA4.trans (hb.mono hA4.size)
              have hz5 := hz4.next hb
              go_wp2_with fail
              refine hK.out _ _ hC5 (fun _ => ?_)
              clear hK KK
              try simp only [Act.put, List.setIfInBounds_toArray, List.set_cons_zero, List.set_cons_succ]
              refine held_pure 4 66 (.tuple #[nm two, .bool true]) rfl (fun W => by rfl) hC5 ?_
              try simp only [Act.put, List.setIfInBounds_toArray, List.set_cons_zero, List.set_cons_succ]
              refine held_pure 5 71 (nm two) rfl (fun W => by rfl) hC5 ?_
              try simp only [Act.put, List.setIfInBounds_toArray, List.set_cons_zero, List.set_cons_succ]
              refine held_pure 6 72 (.bool true) rfl (fun W => by rfl) hC5 ?_
              try simp only [Act.put, List.setIfInBounds_toArray, List.set_cons_zero, List.set_cons_succ]
              refine held_one (i := 8) (by kernel_rfl) rfl (by rfl) (fun KK hK => ?_)
              refine oper_store_is 30 (.tmp 14) (.tmp 71) rfl _ 30 _ (nmC two) rfl rfl hz5 (nmC_size _) name_info (nmC_one _) ?_
              intro x9 hz9 hb9 hfar9
              have hS9 := hC5.trans (hb9.mono hzle)
              refine hK.out _ _ hS9 (fun _ => ?_)
              clear hK KK
              try simp only [Act.put, List.setIfInBounds_toArray]
              refine held_pure 9 15 (.bool true) rfl (fun W => by rfl) hS9 ?_
              refine wpAnyH_done (by kernel_rfl) ?_ _
              try simp only [Act.put]
              go_wp2_with fail
              go_meet
              case rel => exact ⟨_, rfl, rfl, hz9, hS9⟩
          · rw [if_pos (by rfl)]
            go_wp2_with fail
            have hA6 := hHeld.alloc hHeld.size (.cells #[B 0, B 0, B 0, B 0, B 0, B 0, B 0, B 0] 30)
            have hz6 := Is.new w2.drew 30 #[B 0, B 0, B 0, B 0, B 0, B 0, B 0, B 0]
            have hzle := hHeld.size
            refine hK.out _ _ hA6 (fun _ => ?_)
            clear hK KK
            try simp only [Act.put, List.setIfInBounds_toArray, List.set_cons_zero, List.set_cons_succ]
            refine held_one (i := 2) (by kernel_rfl) rfl (by rfl) (fun KK hK => ?_)
            go_wp2_with fail
            refine (rlist_any _ l _ _ 186 18 _ _ HM.out rfl rfl (by have := HM.out; omega) (by have := HM.out; omega) (by omega) L3 HL3 _ ((hRB.out.keep hA6).mono hA6.size)).mono ?_
            rintro e x7 ⟨vL, rfl, hoL, hb⟩
            have hvL := hoL.vn
            clear hoL
            have hL7 := hA6.trans (hb.mono hA6.size)
            have hz7 := hz6.next hb
            go_wp2_with fail
            refine hK.out _ _ hL7 (fun _ => ?_)
            clear hK KK
            try simp only [Act.put, List.setIfInBounds_toArray, List.set_cons_zero, List.set_cons_succ]
            refine held_one (i := 3) (by kernel_rfl) rfl (by rfl) (fun KK hK => ?_)
            go_wp2_with fail
            refine (refO.recover _ root vL L3 (two, true) hvL (by have := hl3.out; omega) HR3).mono ?_
            rintro e x8 ⟨rfl, hb⟩
            have hC8 := hL7.trans (hb.mono hL7.size)
            have hz8 := hz7.next hb
            go_wp2_with fail
            refine hK.out _ _ hC8 (fun _ => ?_)
            clear hK KK
            try simp only [Act.put, List.setIfInBounds_toArray, List.set_cons_zero, List.set_cons_succ]
            refine held_pure 4 66 (.tuple #[nm two, .bool true]) rfl (fun W => by rfl) hC8 ?_
            try simp only [Act.put, List.setIfInBounds_toArray, List.set_cons_zero, List.set_cons_succ]
            refine held_pure 5 71 (nm two) rfl (fun W => by rfl) hC8 ?_
            try simp only [Act.put, List.setIfInBounds_toArray, List.set_cons_zero, List.set_cons_succ]
            refine held_pure 6 72 (.bool true) rfl (fun W => by rfl) hC8 ?_
            try simp only [Act.put, List.setIfInBounds_toArray, List.set_cons_zero, List.set_cons_succ]
            refine held_one (i := 8) (by kernel_rfl) rfl (by rfl) (fun KK hK => ?_)
            refine oper_store_is 30 (.tmp 14) (.tmp 71) rfl _ 30 _ (nmC two) rfl rfl hz8 (nmC_size _) name_info (nmC_one _) ?_
            intro x9 hz9 hb9 hfar9
            have hS9 := hC8.trans (hb9.mono hzle)
            refine hK.out _ _ hS9 (fun _ => ?_)
            clear hK KK
            try simp only [Act.put, List.setIfInBounds_toArray]
            refine held_pure 9 15 (.bool true) rfl (fun W => by rfl) hS9 ?_
            refine wpAnyH_done (by kernel_rfl) ?_ _
            try simp only [Act.put]
            go_wp2_with fail
            go_meet
            case rel => exact ⟨_, rfl, rfl, hz9, hS9⟩
        case rest =>
          obtain ⟨p3, rfl, rfl, hp3, hB3⟩ := hcut
          obtain ⟨w3, rfl⟩ : ∃ y, y = wc := ⟨_, rfl⟩
          have hRB := Lib.hid ((hRB.out.keep hB3).mono hB3.size)
          have hb := hb.next hB3
          have hF := hF.next hB3
          have cb := hb.cell
          have cp := hp3.cell
          clear cb cp
          go_wp2_with fail
          go_cut [16, 17] (fun s16 s17 wx => ∃ p, s16 = .pointer (some ⟨p, 0, none⟩) ∧ s17 = .bool true ∧ Is wx p 30 (nmC top) ∧ Below w3.heap.size w3 wx)
          case first =>
            refine wp_region_held_drew (S := fun w' => Below w3.heap.size w3 w') (by kernel_rfl) (Below.refl _ _).drew (fun hHeld => ?_)
            refine held_load 0 74 rfl 30 (.tmp 14) rfl p3 0 rfl (nmR two) (fun w' h => range_is (cs := nmR two) (hp3.next h)) Try.underlying30 name_info hHeld ?_
            try simp only [Act.put, List.setIfInBounds_toArray, List.set_cons_zero, List.set_cons_succ]
            refine held_pure 1 75 (.int .i64 (n : Int)) rfl (fun W => by rfl) hHeld ?_
            try simp only [Act.put, List.setIfInBounds_toArray, List.set_cons_zero, List.set_cons_succ]
            refine held_pure 2 76 (.int .i64 (d : Int)) rfl (fun W => by go_simp) hHeld ?_
            try simp only [Act.put, List.setIfInBounds_toArray, List.set_cons_zero, List.set_cons_succ]
            refine held_pure 3 77 (.slice (some ⟨g, off, none⟩) 370 c) rfl (fun W => by rfl) hHeld ?_
            try simp only [Act.put, List.setIfInBounds_toArray, List.set_cons_zero, List.set_cons_succ]
            refine wpAnyH_ready (rs := [4, 9]) (by kernel_rfl) (by simp) (AllReadyH.cons rfl (fun KK hK => ?_) (AllReadyH.cons rfl (fun KK hK => ?_) AllReadyH.nil))
            · rw [if_pos (by rfl)]
              go_wp2_with fail
              refine (rlist_any _ l _ _ 330 5 _ _ HM.out rfl rfl (by have := HM.out; omega) (by have := HM.out; omega) (by omega) L4 HL4 _ ((hRB.out.keep hHeld).mono hHeld.size)).mono ?_
              rintro e x1 ⟨vL, rfl, hoL, hb⟩
              have hvL := hoL.vn
              clear hoL
              have hL1 := hHeld.trans (hb.mono hHeld.size)
              go_wp2_with fail
              refine hK.out _ _ hL1 (fun _ => ?_)
              clear hK KK
              try simp only [Act.put, List.setIfInBounds_toArray, List.set_cons_zero, List.set_cons_succ]
              refine wpAnyH_ready (rs := [5, 9]) (by kernel_rfl) (by simp) (AllReadyH.cons rfl (fun KK hK => ?_) (AllReadyH.cons rfl (fun KK hK => ?_) AllReadyH.nil))
              · rw [if_pos (by rfl)]
                go_wp2_with fail
                refine (rFollow_any _ two ((d : Nat) : Int) 32 vL L4 (top, true) hvL (by have := hl4.out; omega) ⟨by omega, by omega⟩ ⟨by omega, by omega⟩ HF4).mono ?_
                rintro e x2 ⟨rfl, hb⟩
                have hC2 := hL1.trans (hb.mono hL1.size)
                go_wp2_with fail
                refine hK.out _ _ hC2 (fun _ => ?_)
                clear hK KK
                try simp only [Act.put, List.setIfInBounds_toArray, List.set_cons_zero, List.set_cons_succ]
                refine held_pure 6 73 (.tuple #[nm top, .bool true]) rfl (fun W => by rfl) hC2 ?_
                try simp only [Act.put, List.setIfInBounds_toArray, List.set_cons_zero, List.set_cons_succ]
                refine held_pure 7 80 (nm top) rfl (fun W => by rfl) hC2 ?_
                try simp only [Act.put, List.setIfInBounds_toArray, List.set_cons_zero, List.set_cons_succ]
                refine held_pure 8 81 (.bool true) rfl (fun W => by rfl) hC2 ?_
                try simp only [Act.put, List.setIfInBounds_toArray, List.set_cons_zero, List.set_cons_succ]
                refine held_one (i := 9) (by kernel_rfl) rfl (by rfl) (fun KK hK => ?_)
                go_wp2_with fail
                have hA3 := hC2.alloc hC2.size (.cells #[B 0, B 0, B 0, B 0, B 0, B 0, B 0, B 0] 30)
                have hz3 := Is.new x2 30 #[B 0, B 0, B 0, B 0, B 0, B 0, B 0, B 0]
                have hzle := hC2.size
                refine hK.out _ _ hA3 (fun _ => ?_)
                clear hK KK
                try simp only [Act.put, List.setIfInBounds_toArray, List.set_cons_zero, List.set_cons_succ]
                refine held_one (i := 10) (by kernel_rfl) rfl (by rfl) (fun KK hK => ?_)
                refine oper_store_is 30 (.tmp 16) (.tmp 80) rfl _ 30 _ (nmC top) rfl rfl hz3 (nmC_size _) name_info (nmC_one _) ?_
                intro x9 hz9 hb9 hfar9
                have hS9 := hA3.trans (hb9.mono hzle)
                refine hK.out _ _ hS9 (fun _ => ?_)
                clear hK KK
                try simp only [Act.put, List.setIfInBounds_toArray]
                refine held_pure 11 17 (.bool true) rfl (fun W => by rfl) hS9 ?_
                refine wpAnyH_done (by kernel_rfl) ?_ _
                try simp only [Act.put]
                go_wp2_with fail
                go_meet
                case rel => exact ⟨_, rfl, rfl, hz9, hS9⟩
              · rw [if_pos (by rfl)]
                go_wp2_with fail
                have hA4 := hL1.alloc hL1.size (.cells #[B 0, B 0, B 0, B 0, B 0, B 0, B 0, B 0] 30)
                have hz4 := Is.new x1 30 #[B 0, B 0, B 0, B 0, B 0, B 0, B 0, B 0]
                have hzle := hL1.size
                have hvL := hvL.next ((Below.refl _ _).alloc (Nat.le_refl _) (.cells #[B 0, B 0, B 0, B 0, B 0, B 0, B 0, B 0] 30))
                refine hK.out _ _ hA4 (fun _ => ?_)
                clear hK KK
                try simp only [Act.put, List.setIfInBounds_toArray, List.set_cons_zero, List.set_cons_succ]
                refine held_one (i := 5) (by kernel_rfl) rfl (by rfl) (fun KK hK => ?_)
                go_wp2_with fail
                refine (rFollow_any _ two ((d : Nat) : Int) 32 vL L4 (top, true) hvL (by have := hl4.out; omega) ⟨by omega, by omega⟩ ⟨by omega, by omega⟩ HF4).mono ?_
                rintro e x5 ⟨rfl, hb⟩
                have hC5 := hA4.trans (hb.mono hA4.size)
                have hz5 := hz4.next hb
                go_wp2_with fail
                refine hK.out _ _ hC5 (fun _ => ?_)
                clear hK KK
                try simp only [Act.put, List.setIfInBounds_toArray, List.set_cons_zero, List.set_cons_succ]
                refine held_pure 6 73 (.tuple #[nm top, .bool true]) rfl (fun W => by rfl) hC5 ?_
                try simp only [Act.put, List.setIfInBounds_toArray, List.set_cons_zero, List.set_cons_succ]
                refine held_pure 7 80 (nm top) rfl (fun W => by rfl) hC5 ?_
                try simp only [Act.put, List.setIfInBounds_toArray, List.set_cons_zero, List.set_cons_succ]
                refine held_pure 8 81 (.bool true) rfl (fun W => by rfl) hC5 ?_
                try simp only [Act.put, List.setIfInBounds_toArray, List.set_cons_zero, List.set_cons_succ]
                refine held_one (i := 10) (by kernel_rfl) rfl (by rfl) (fun KK hK => ?_)
                refine oper_store_is 30 (.tmp 16) (.tmp 80) rfl _ 30 _ (nmC top) rfl rfl hz5 (nmC_size _) name_info (nmC_one _) ?_
                intro x9 hz9 hb9 hfar9
                have hS9 := hC5.trans (hb9.mono hzle)
                refine hK.out _ _ hS9 (fun _ => ?_)
                clear hK KK
                try simp only [Act.put, List.setIfInBounds_toArray]
                refine held_pure 11 17 (.bool true) rfl (fun W => by rfl) hS9 ?_
                refine wpAnyH_done (by kernel_rfl) ?_ _
                try simp only [Act.put]
                go_wp2_with fail
                go_meet
                case rel => exact ⟨_, rfl, rfl, hz9, hS9⟩
            · rw [if_pos (by rfl)]
              go_wp2_with fail
              have hA6 := hHeld.alloc hHeld.size (.cells #[B 0, B 0, B 0, B 0, B 0, B 0, B 0, B 0] 30)
              have hz6 := Is.new w3.drew 30 #[B 0, B 0, B 0, B 0, B 0, B 0, B 0, B 0]
              have hzle := hHeld.size
              refine hK.out _ _ hA6 (fun _ => ?_)
              clear hK KK
              try simp only [Act.put, List.setIfInBounds_toArray, List.set_cons_zero, List.set_cons_succ]
              refine held_one (i := 4) (by kernel_rfl) rfl (by rfl) (fun KK hK => ?_)
              go_wp2_with fail
              refine (rlist_any _ l _ _ 330 5 _ _ HM.out rfl rfl (by have := HM.out; omega) (by have := HM.out; omega) (by omega) L4 HL4 _ ((hRB.out.keep hA6).mono hA6.size)).mono ?_
              rintro e x7 ⟨vL, rfl, hoL, hb⟩
              have hvL := hoL.vn
              clear hoL
              have hL7 := hA6.trans (hb.mono hA6.size)
              have hz7 := hz6.next hb
              go_wp2_with fail
              refine hK.out _ _ hL7 (fun _ => ?_)
              clear hK KK
              try simp only [Act.put, List.setIfInBounds_toArray, List.set_cons_zero, List.set_cons_succ]
              refine held_one (i := 5) (by kernel_rfl) rfl (by rfl) (fun KK hK => ?_)
              go_wp2_with fail
              refine (rFollow_any _ two ((d : Nat) : Int) 32 vL L4 (top, true) hvL (by have := hl4.out; omega) ⟨by omega, by omega⟩ ⟨by omega, by omega⟩ HF4).mono ?_
              rintro e x8 ⟨rfl, hb⟩
              have hC8 := hL7.trans (hb.mono hL7.size)
              have hz8 := hz7.next hb
              go_wp2_with fail
              refine hK.out _ _ hC8 (fun _ => ?_)
              clear hK KK
              try simp only [Act.put, List.setIfInBounds_toArray, List.set_cons_zero, List.set_cons_succ]
              refine held_pure 6 73 (.tuple #[nm top, .bool true]) rfl (fun W => by rfl) hC8 ?_
              try simp only [Act.put, List.setIfInBounds_toArray, List.set_cons_zero, List.set_cons_succ]
              refine held_pure 7 80 (nm top) rfl (fun W => by rfl) hC8 ?_
              try simp only [Act.put, List.setIfInBounds_toArray, List.set_cons_zero, List.set_cons_succ]
              refine held_pure 8 81 (.bool true) rfl (fun W => by rfl) hC8 ?_
              try simp only [Act.put, List.setIfInBounds_toArray, List.set_cons_zero, List.set_cons_succ]
              refine held_one (i := 10) (by kernel_rfl) rfl (by rfl) (fun KK hK => ?_)
              refine oper_store_is 30 (.tmp 16) (.tmp 80) rfl _ 30 _ (nmC top) rfl rfl hz8 (nmC_size _) name_info (nmC_one _) ?_
              intro x9 hz9 hb9 hfar9
              have hS9 := hC8.trans (hb9.mono hzle)
              refine hK.out _ _ hS9 (fun _ => ?_)
              clear hK KK
              try simp only [Act.put, List.setIfInBounds_toArray]
              refine held_pure 11 17 (.bool true) rfl (fun W => by rfl) hS9 ?_
              refine wpAnyH_done (by kernel_rfl) ?_ _
              try simp only [Act.put]
              go_wp2_with fail
              go_meet
              case rel => exact ⟨_, rfl, rfl, hz9, hS9⟩
          case rest =>
            obtain ⟨p4, rfl, rfl, hp4, hB4⟩ := hcut
            obtain ⟨w4, rfl⟩ : ∃ y, y = wc := ⟨_, rfl⟩
            have hRB := Lib.hid ((hRB.out.keep hB4).mono hB4.size)
            have hb := hb.next hB4
            have hF := hF.next hB4
            have cb := hb.cell
            have cp := hp4.cell
            go_wp2_with fail
            go_ret
            exact ⟨by rw [← HVER.out]; rfl, hF.1⟩
  · have s1 : ¬ (n : Int) < 1024 := by omega
    have er : r = false := by
      rw [← hver.out]
      unfold verM
      rw [HN.out, if_neg (fun h => s1 h.2.2)]
    subst er
    go_wp2_with (go_at_call 11; refine (rcap_any _ 2).mono ?_; rintro e w1 ⟨rfl, rfl⟩; rw [cap_two])
    go_ret
    exact ⟨rfl, hF.drew.1⟩

end Go.Proofs.Ytjghengkpbokaaa
