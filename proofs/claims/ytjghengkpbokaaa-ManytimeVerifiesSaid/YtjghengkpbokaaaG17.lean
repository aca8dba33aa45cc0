/-
  3 texts in one file: R5Kew, R5Sig, R5Lst.
-/
import Derived.Deep.DeepCutAuto
import Derived.Test.YtjghengkpbokaaaG11
import Derived.Test.YtjghengkpbokaaaG13
import Derived.Test.YtjghengkpbokaaaG14

/-
  forkledgerref1's many-time signatures: Key.Sign.
-/
namespace Go.Proofs.Ytjghengkpbokaaa
open Go.ChangeShapes Go.WideShapes Go.ChangeAt Go.RowKit Go.Fl

theorem conv_low (n : Nat) (_hn : n < 65536) (b : UInt8) (hb : UInt8.ofNat n = b) (W : World) : (convert 3 5 (.int .i64 (n : Int))).run Try.prog W = .ok (B b) W := by
  have h : ub b = (n : Int) % 256 := by
    rw [← hb]
    unfold ub
    simp
  have hw : IntKind.u8.wrap (n : Int) = (n : Int) % 256 := by rw [IntKind.wrap_u8]
  rw [show B b = Value.int .u8 ((n : Int) % 256) by rw [← h]]
  go_simp

set_option maxRecDepth 10000 in
set_option maxHeartbeats 1000000 in
theorem rkeysign (s m : BitVec 64) (n : Nat) (hn : n < 1024) (TL : List (BitVec 64)) (hTL : Hid (leavesF s 2 0 = TL)) (gk : Nat) (A : Option Addr) (c : Nat) (w : World) (hk : Is w gk 73 (keyC s (.slice A 32 c) noBot).toArray) (hA : Hid (RN w gk A TL)) (hc : 32 ≤ c) (hc63 : c ≤ 9223372036854775807) (Rs : List UInt8) (hR : Hid (sign2F s n m = Rs)) :
    Calls Try.prog 26 #[.pointer (some ⟨gk, 0, none⟩), .int .i64 (n : Int), nm m] w fun e w' => ∃ v, e = .returned (.tuple #[v, .bool true]) ∧ OB w' gk 5 v Rs ∧ Below gk w w' := by
  have hgk := hk.lt
  have hm0 := Is.new w 30 (nmC m)
  have hk0 := hk.old (.cells (nmC m) 30)
  have hB0 : Below gk w (w.alloc (.cells (nmC m) 30)) := (Below.refl _ _).alloc (Nat.le_of_lt hgk) _
  have hsz0 : (w.alloc (.cells (nmC m) 30)).heap.size = w.heap.size + 1 := by simp
  obtain ⟨q, hq⟩ : ∃ q, n % 32 = q := ⟨_, rfl⟩
  obtain ⟨d, hd⟩ : ∃ d, n / 32 = d := ⟨_, rfl⟩
  have hq1 : (n : Int) % 32 = (q : Int) := by omega
  have hq2 : Int.tmod (n : Int) 32 = (q : Int) := by rw [Int.tmod_eq_emod_of_nonneg (by omega)]; exact hq1
  have hd1 : (n : Int) / 32 = (d : Int) := by omega
  have hd2 : Int.tdiv (n : Int) 32 = (d : Int) := by rw [Int.tdiv_eq_ediv_of_nonneg (by omega)]; exact hd1
  have hq32 : q < 32 := by omega
  have hd32 : d < 32 := by omega
  have hwd : IntKind.i64.wrap (d : Int) = (d : Int) := by rw [IntKind.wrap_i64]; omega
  have hwq : IntKind.i64.wrap (q : Int) = (q : Int) := by rw [IntKind.wrap_i64]; omega
  obtain ⟨BL, hBL⟩ : ∃ L, leavesF s 1 d = L := ⟨_, rfl⟩
  have hBLL := leavesF_len s 1 d
  have hTLL := leavesF_len s 2 0
  rw [hBL] at hBLL
  rw [hTL.out] at hTLL
  obtain ⟨P, hP⟩ : ∃ P, pathF BL q = P := ⟨_, rfl⟩
  have hPL := path32 s 1 d q hq32
  rw [hBL, hP] at hPL
  obtain ⟨Q, hQ⟩ : ∃ Q, pathF TL d = Q := ⟨_, rfl⟩
  have hQL := path32 s 2 0 d hd32
  rw [hTL.out, hQ] at hQL
  obtain ⟨tr, htr⟩ : ∃ x, rootF BL = x := ⟨_, rfl⟩
  obtain ⟨k1, hk1⟩ : ∃ x, keyF s 1 d q = x := ⟨_, rfl⟩
  obtain ⟨k2, hk2⟩ : ∃ x, keyF s 2 0 d = x := ⟨_, rfl⟩
  obtain ⟨SL, hSL⟩ : ∃ x, valsF k1 (digF m) = x := ⟨_, rfl⟩
  obtain ⟨SL2, hSL2⟩ : ∃ x, valsF k2 (digF tr) = x := ⟨_, rfl⟩
  have hSLL := vals_len k1 (digF m)
  have hSLL2 := vals_len k2 (digF tr)
  rw [hSL] at hSLL
  rw [hSL2] at hSLL2
  obtain ⟨ba, hba⟩ : ∃ b, UInt8.ofNat (n / 256) = b := ⟨_, rfl⟩
  obtain ⟨bb, hbb⟩ : ∃ b, UInt8.ofNat n = b := ⟨_, rfl⟩
  have HRs : Hid (((([ba, bb] ++ nsB SL) ++ nsB P) ++ nsB SL2) ++ nsB Q = Rs) := Lib.hid (by
    rw [← hR.out]
    have e : treeF s 1 d = tr := by rw [← htr, ← hBL]; rfl
    unfold sign2F lvlF
    rw [hq, hd, e, hk1, hk2, hSL, hSL2, hBL, hTL.out, hP, hQ, hba, hbb]
    simp only [List.append_assoc])
  have HBL := Lib.hid hBL
  have HP := Lib.hid hP
  have HQ := Lib.hid hQ
  have HTR := Lib.hid htr
  have HK1 := Lib.hid hk1
  have HK2 := Lib.hid hk2
  have HSL := Lib.hid hSL
  have HSL2 := Lib.hid hSL2
  have HBLL := Lib.hid hBLL
  have HTLL := Lib.hid hTLL
  have HPL := Lib.hid hPL
  have HQL := Lib.hid hQL
  have HSLL := Lib.hid hSLL
  have HSLL2 := Lib.hid hSLL2
  have cva : ∀ W : World, (convert 3 5 (.int .i64 ((n : Int) / 256))).run Try.prog W = .ok (B ba) W := fun W => conv_byte (n / 256) ((n : Int) / 256) (by omega) (by omega) ba hba W
  have cvb : ∀ W : World, (convert 3 5 (.int .i64 (n : Int))).run Try.prog W = .ok (B bb) W := fun W => conv_low n (by omega) bb hbb W
  have n0 : (0 : Int) ≤ (n : Int) := by omega
  have n9 : (n : Int) < 1024 := by omega
  have b1 : decide ((n : Int) < 0) = false := by rw [decide_eq_false_iff_not]; omega
  have b2 : decide ((1024 : Int) ≤ (n : Int)) = false := by rw [decide_eq_false_iff_not]; omega
  have d0 : (0 : Int) ≤ (d : Int) := by omega
  have d9 : (d : Int) < 32 := by omega
  have hcb := keyC_bot s _ _ hk0 d _ (noBot_at d hd32)
  clear hBL hBLL hTLL hP hPL hQ hQL htr hk1 hk2 hSL hSL2 hSLL hSLL2 hba hbb hR hq hd
  go_enter Try.func26, Try.ntmps26
  go_wp2_with fail
  change Code.wp _ _ _ _ (w.alloc (.cells (nmC m) 30))
  generalize w.alloc (.cells (nmC m) 30) = W at *
  refine wp_region_held_drew (S := fun w' => (∃ bot, Is w' gk 73 (keyC s (.slice A 32 c) bot).toArray) ∧ Is w' w.heap.size 30 (nmC m) ∧ Below gk W w') (by kernel_rfl) ⟨⟨_, hk0.drew⟩, hm0.drew, (Below.refl _ _).drew⟩ (fun hHeld => ?_)
  refine held_pure 0 30 (.pointer (some ⟨gk, 0, none⟩)) rfl (fun W => by rfl) hHeld ?_
  try simp only [Act.put, List.setIfInBounds_toArray, List.set_cons_zero, List.set_cons_succ]
  refine held_pure 1 31 (.int .i64 (d : Int)) rfl (fun W => by rfl) hHeld ?_
  try simp only [Act.put, List.setIfInBounds_toArray, List.set_cons_zero, List.set_cons_succ]
  refine held_pure 2 32 (.pointer (some ⟨gk, 0, none⟩)) rfl (fun W => by rfl) hHeld ?_
  try simp only [Act.put, List.setIfInBounds_toArray, List.set_cons_zero, List.set_cons_succ]
  refine held_pure 3 33 (.pointer (some ⟨gk, 0, none⟩)) rfl (fun W => by go_simp) hHeld ?_
  try simp only [Act.put, List.setIfInBounds_toArray, List.set_cons_zero, List.set_cons_succ]
  refine held_pure 4 34 (.pointer (some ⟨gk, 0, none⟩)) rfl (fun W => by go_simp) hHeld ?_
  try simp only [Act.put, List.setIfInBounds_toArray, List.set_cons_zero, List.set_cons_succ]
  refine held_load 5 35 rfl 30 (.tmp 34) rfl gk 0 rfl (nmR s) (fun w' h => by obtain ⟨⟨bot, hb⟩, _⟩ := h; exact keyC_seed s _ bot hb) Try.underlying30 name_info hHeld ?_
  try simp only [Act.put, List.setIfInBounds_toArray, List.set_cons_zero, List.set_cons_succ]
  refine held_pure 6 36 (.int .i64 (d : Int)) rfl (fun W => by rfl) hHeld ?_
  try simp only [Act.put, List.setIfInBounds_toArray, List.set_cons_zero, List.set_cons_succ]
  refine held_pure 8 38 (.pointer (some ⟨gk, 0, none⟩)) rfl (fun W => by go_simp) hHeld ?_
  try simp only [Act.put, List.setIfInBounds_toArray, List.set_cons_zero, List.set_cons_succ]
  refine held_pure 9 39 (.pointer (some ⟨gk, 9, none⟩)) rfl (fun W => by go_simp) hHeld ?_
  try simp only [Act.put, List.setIfInBounds_toArray, List.set_cons_zero, List.set_cons_succ]
  refine held_one (i := 7) (by kernel_rfl) rfl (by rfl) (fun KK hK => ?_)
  go_wp2_with fail
  refine (rleaves_any s 1 d _ _ rfl rfl (by omega) (by omega) BL HBL _).mono ?_
  rintro e w1 ⟨v1, rfl, ho1, hb1⟩
  obtain ⟨A1, n1, c1, rfl, hn1, hc1, hm1, hr1⟩ := ON.form_n ho1
  have hn1 := hn1.out
  rw [HBLL.out] at hn1 hc1
  subst hn1
  have hk1 := hk0.drew.next hb1
  have hmm1 := hm0.drew.next hb1
  have hB1 : Below gk W w1 := hHeld.2.2.trans (hb1.mono (by have := hk0.drew.lt; omega))
  go_wp2_with fail
  refine hK.out _ _ ⟨⟨_, hk1⟩, hmm1, hB1⟩ (fun hHeld1 => ?_)
  clear hK KK
  try simp only [Act.put, List.setIfInBounds_toArray, List.set_cons_zero, List.set_cons_succ]
  refine held_pure 10 40 (.pointer (some ⟨gk, 9 + d, none⟩)) rfl (fun W => by go_simp) hHeld1 ?_
  try simp only [Act.put, List.setIfInBounds_toArray, List.set_cons_zero, List.set_cons_succ]
  refine held_one (i := 11) (by kernel_rfl) rfl (by rfl) (fun KK hK => ?_)
  refine oper_store_slice 48 (.tmp 40) (.tmp 37) rfl gk (9 + d) 73 _ A1 32 c1 rfl rfl hk1 (by rw [keyC_len, noBot_len]; omega) (by kernel_rfl) ?_
  intro w2 hk2 hb2 hfar2
  rw [keyC_set] at hk2
  have hmm2 : Is w2 w.heap.size 30 (nmC m) := (hfar2 w.heap.size (by omega)).trans hmm1
  have hB2 := hB1.trans hb2
  have hr2 := Lib.hid (rn_far (_gp := 0) hr1.out (Nat.le_refl _) (fun g off e _ => hfar2 g (by have h1 := on_own ho1 g off e; have h2 := hk0.lt; simp at h1; omega)))
  refine hK.out _ _ ⟨⟨_, hk2⟩, hmm2, hB2⟩ (fun hHeld2 => ?_)
  clear hK KK
  try simp only [Act.put, List.setIfInBounds_toArray]
  refine wpAnyH_done (by kernel_rfl) ?_ _
  try simp only [Act.put, List.setIfInBounds_toArray, List.set_cons_zero, List.set_cons_succ]
  have hcb := keyC_bot s _ _ hk2 d _ (bot_set_at noBot d _ (by rw [noBot_len]; exact hd32))
  have hsz2 : W.heap.size ≤ w2.heap.size := hB2.size
  have hbot := bot_set_at noBot d (Value.slice A1 32 c1) (by rw [noBot_len]; exact hd32)
  generalize noBot.take d ++ [Value.slice A1 32 c1] ++ noBot.drop (d + 1) = bot at hk2 hcb hbot
  have hgk2 := hk2.lt
  clear ho1
  go_wp2_with fail
  refine (rpath_any 32 A1 BL c1 q _ P rfl HBLL.out hq32 HP (by have := HBLL.out; omega) hm1 w2 (hr2.out.mono (by have := hb2.size; omega))).mono ?_
  rintro e w3 ⟨v3, rfl, ho3, hb3⟩
  obtain ⟨A3, n3, c3, rfl, hn3, hc3, hm3, hr3⟩ := ON.form_n ho3
  have hk3 := hk2.next hb3
  have hmm3 := hmm2.next hb3
  have hB3 := hB2.trans (hb3.mono (by omega))
  have hct := keyC_top s _ _ hk3
  have hT3 := Lib.hid (((hA.out.keep hB0).keep hB3).mono (Nat.le_trans (Nat.le_of_lt hgk2) hb3.size))
  go_wp2_with fail
  refine (rpath_any 32 A TL c d _ Q rfl HTLL.out hd32 HQ (by have := HTLL.out; omega) hc63 w3 hT3.out).mono ?_
  rintro e w4 ⟨v4, rfl, ho4, hb4⟩
  obtain ⟨A4, n4, c4, rfl, hn4, hc4, hm4, hr4⟩ := ON.form_n ho4
  have hk4 := hk3.next hb4
  have hmm4 := hmm3.next hb4
  have hB4 := hB3.trans (hb4.mono (Nat.le_trans (Nat.le_of_lt hgk2) hb3.size))
  have hP4 := RN.next hr3 hb4
  have hBL4 := RN.next (RN.next (Lib.hid (hr2.out.mono (by have := hb2.size; omega))) hb3) hb4
  go_wp2_with fail
  clear ho3 ho4 b1 b2 hcb hct
  have hcb4 := Lib.hid (keyC_bot s _ _ hk4 d _ hbot)
  have hgk4 := hk4.lt
  have hPg := rn_lt hr3.out (by have := HPL.out; omega)
  have hQg := rn_lt hr4.out (by have := HQL.out; omega)
  go_cut [13] (fun s13 wx => ∃ v, v = s13 ∧ OB wx w4.heap.size 5 v (([ba, bb] ++ nsB SL) ++ nsB P) ∧ Below w4.heap.size w4 wx)
  case first =>
    refine wp_region_held_drew (S := fun w' => Below w4.heap.size w4 w') (by kernel_rfl) (Below.refl _ _).drew (fun hHeld => ?_)
    refine held_pure 0 62 (.int .i64 (n : Int)) rfl (fun W => by rfl) hHeld ?_
    try simp only [Act.put, List.setIfInBounds_toArray, List.set_cons_zero, List.set_cons_succ]
    refine held_pure 1 63 (.int .i64 ((n : Int) / 256)) rfl (fun W => by go_simp) hHeld ?_
    try simp only [Act.put, List.setIfInBounds_toArray, List.set_cons_zero, List.set_cons_succ]
    refine held_pure 2 64 (B ba) rfl (fun W => by go_simp) hHeld ?_
    try simp only [Act.put, List.setIfInBounds_toArray, List.set_cons_zero, List.set_cons_succ]
    refine held_pure 3 65 (.int .i64 (n : Int)) rfl (fun W => by rfl) hHeld ?_
    try simp only [Act.put, List.setIfInBounds_toArray, List.set_cons_zero, List.set_cons_succ]
    refine held_pure 4 66 (B bb) rfl (fun W => by go_simp) hHeld ?_
    try simp only [Act.put, List.setIfInBounds_toArray, List.set_cons_zero, List.set_cons_succ]
    refine held_pure 6 68 (.pointer (some ⟨gk, 0, none⟩)) rfl (fun W => by rfl) hHeld ?_
    try simp only [Act.put, List.setIfInBounds_toArray, List.set_cons_zero, List.set_cons_succ]
    refine held_pure 7 69 (.pointer (some ⟨gk, 0, none⟩)) rfl (fun W => by go_simp) hHeld ?_
    try simp only [Act.put, List.setIfInBounds_toArray, List.set_cons_zero, List.set_cons_succ]
    refine held_pure 8 70 (.pointer (some ⟨gk, 0, none⟩)) rfl (fun W => by go_simp) hHeld ?_
    try simp only [Act.put, List.setIfInBounds_toArray, List.set_cons_zero, List.set_cons_succ]
    refine held_load 9 71 rfl 30 (.tmp 70) rfl gk 0 rfl (nmR s) (fun w' h => keyC_seed s _ bot (hk4.next h)) Try.underlying30 name_info hHeld ?_
    try simp only [Act.put, List.setIfInBounds_toArray, List.set_cons_zero, List.set_cons_succ]
    refine held_pure 10 72 (.int .i64 (d : Int)) rfl (fun W => by rfl) hHeld ?_
    try simp only [Act.put, List.setIfInBounds_toArray, List.set_cons_zero, List.set_cons_succ]
    refine held_pure 11 73 (.int .i64 (n : Int)) rfl (fun W => by rfl) hHeld ?_
    try simp only [Act.put, List.setIfInBounds_toArray, List.set_cons_zero, List.set_cons_succ]
    refine held_pure 12 74 (.int .i64 (q : Int)) rfl (fun W => by go_simp) hHeld ?_
    try simp only [Act.put, List.setIfInBounds_toArray, List.set_cons_zero, List.set_cons_succ]
    refine held_load 14 76 rfl 30 (.tmp 5) rfl w.heap.size 0 rfl (nmR m) (fun w' h => range_is (cs := nmR m) (hmm4.next h)) Try.underlying30 name_info hHeld ?_
    try simp only [Act.put, List.setIfInBounds_toArray, List.set_cons_zero, List.set_cons_succ]
    refine held_pure 17 79 (.slice A3 n3 c3) rfl (fun W => by rfl) hHeld ?_
    try simp only [Act.put, List.setIfInBounds_toArray, List.set_cons_zero, List.set_cons_succ]
    refine wpAnyH_ready (rs := [5, 13]) (by kernel_rfl) (by simp) (AllReadyH.cons rfl (fun KK hK => ?_) (AllReadyH.cons rfl (fun KK hK => ?_) AllReadyH.nil))
    · rw [if_pos (by rfl)]
      go_wp2_with fail
      have hA1 := hHeld.alloc hHeld.size (.cells #[B ba, B bb] 5)
      have hlt : w4.drew.heap.size < (w4.drew.alloc (.cells #[B ba, B bb] 5)).heap.size := by simp
      have hob := (ob_two w4.drew 5 ba bb).base_le hHeld.size
      refine hK.out _ _ hA1 (fun _ => ?_)
      clear hK KK
      try simp only [Act.put, List.setIfInBounds_toArray, List.set_cons_zero, List.set_cons_succ]
      refine held_one (i := 13) (by kernel_rfl) rfl (by rfl) (fun KK hK => ?_)
      go_wp2_with fail
      refine (rkey_i s 1 d q _ _ _ rfl rfl rfl (by omega) (by omega) (by omega) k1 HK1 _).mono ?_
      rintro e x2 ⟨rfl, hb⟩
      have hK2 := hA1.trans (hb.mono hA1.size)
      have hlt := Nat.lt_of_lt_of_le hlt hb.size
      have hob := hob.keep hb
      go_wp2_with fail
      refine hK.out _ _ hK2 (fun _ => ?_)
      clear hK KK
      try simp only [Act.put, List.setIfInBounds_toArray, List.set_cons_zero, List.set_cons_succ]
      refine held_one (i := 15) (by kernel_rfl) rfl (by rfl) (fun KK hK => ?_)
      go_wp2_with fail
      refine (refO.sign _ k1 m).mono ?_
      rintro e x3 ⟨vS, rfl, hoS, hb⟩
      rw [HSL.out] at hoS
      have hS3 := hK2.trans (hb.mono hK2.size)
      obtain ⟨A5, n5, c5, rfl, HN5, hc5, hm5, HR5⟩ := ON.form_n hoS
      have hon := on_own hoS
      have hne : ∀ g off, A5 = some ⟨g, off, none⟩ → (Value.slice (some ⟨w4.drew.heap.size, 0, none⟩) 2 2).ownBlock ≠ some g := fun g off e h => by
        have h1 := hon g off e
        injection h with h
        simp only at h
        omega
      have hob := hob.keep hb
      clear hoS hon
      go_wp2_with fail
      refine hK.out _ _ hS3 (fun _ => ?_)
      clear hK KK
      try simp only [Act.put, List.setIfInBounds_toArray, List.set_cons_zero, List.set_cons_succ]
      refine held_one (i := 16) (by kernel_rfl) rfl (by rfl) (fun KK hK => ?_)
      go_wp2_with fail
      refine (rnames_any _ [ba, bb] A5 SL n5 c5 w4.heap.size HN5.out.symm (by have := HSLL.out; omega) (by simp) _ hS3.size hob HR5.out hne).mono ?_
      rintro e y1 ⟨vb, rfl, hob1, hB1, hold1, hown1⟩
      have hH1 := hS3.trans hB1
      have hno : ∀ g off, A3 = some ⟨g, off, none⟩ → vb.ownBlock ≠ some g := fun g off e h => by
        have h1 := hPg g off e
        have h2 := hob1.own g h
        have h3 := hb4.size
        omega
      go_wp2_with fail
      refine hK.out _ _ hH1 (fun _ => ?_)
      clear hK KK
      try simp only [Act.put, List.setIfInBounds_toArray, List.set_cons_zero, List.set_cons_succ]
      refine held_one (i := 18) (by kernel_rfl) rfl (by rfl) (fun KK hK => ?_)
      go_wp2_with fail
      refine (rnames_any vb ([ba, bb] ++ nsB SL) A3 P n3 c3 w4.heap.size hn3.out.symm (by have := HPL.out; omega) (by have := HSLL.out; have := nsB_len SL; simp; omega) y1 hH1.size hob1 ((hP4.out.keep hH1).mono hH1.size) hno).mono ?_
      rintro e y2 ⟨vc, rfl, hob2, hB2, hold2, hown2⟩
      have hH2 := hH1.trans hB2
      go_wp2_with fail
      refine hK.out _ _ hH2 (fun _ => ?_)
      clear hK KK
      try simp only [Act.put, List.setIfInBounds_toArray, List.set_cons_zero, List.set_cons_succ]
      refine held_pure 19 13 vc rfl (fun W => by rfl) hH2 ?_
      refine wpAnyH_done (by kernel_rfl) ?_ _
      try simp only [Act.put, List.setIfInBounds_toArray, List.set_cons_zero, List.set_cons_succ]
      go_wp2_with fail
      go_meet
      case rel => exact ⟨_, rfl, hob2, hH2⟩
    · rw [if_pos (by rfl)]
      go_wp2_with fail
      refine (rkey_i s 1 d q _ _ _ rfl rfl rfl (by omega) (by omega) (by omega) k1 HK1 _).mono ?_
      rintro e x4 ⟨rfl, hb⟩
      have hK4 := hHeld.trans (hb.mono hHeld.size)
      go_wp2_with fail
      refine hK.out _ _ hK4 (fun _ => ?_)
      clear hK KK
      try simp only [Act.put, List.setIfInBounds_toArray, List.set_cons_zero, List.set_cons_succ]
      refine wpAnyH_ready (rs := [5, 15]) (by kernel_rfl) (by simp) (AllReadyH.cons rfl (fun KK hK => ?_) (AllReadyH.cons rfl (fun KK hK => ?_) AllReadyH.nil))
      · rw [if_pos (by rfl)]
        go_wp2_with fail
        have hA5 := hK4.alloc hK4.size (.cells #[B ba, B bb] 5)
        have hlt : x4.heap.size < (x4.alloc (.cells #[B ba, B bb] 5)).heap.size := by simp
        have hob := (ob_two x4 5 ba bb).base_le hK4.size
        refine hK.out _ _ hA5 (fun _ => ?_)
        clear hK KK
        try simp only [Act.put, List.setIfInBounds_toArray, List.set_cons_zero, List.set_cons_succ]
        refine held_one (i := 15) (by kernel_rfl) rfl (by rfl) (fun KK hK => ?_)
        go_wp2_with fail
        refine (refO.sign _ k1 m).mono ?_
        rintro e x6 ⟨vS, rfl, hoS, hb⟩
        rw [HSL.out] at hoS
        have hS6 := hA5.trans (hb.mono hA5.size)
        obtain ⟨A5, n5, c5, rfl, HN5, hc5, hm5, HR5⟩ := ON.form_n hoS
        have hon := on_own hoS
        have hne : ∀ g off, A5 = some ⟨g, off, none⟩ → (Value.slice (some ⟨x4.heap.size, 0, none⟩) 2 2).ownBlock ≠ some g := fun g off e h => by
          have h1 := hon g off e
          injection h with h
          simp only at h
          omega
        have hob := hob.keep hb
        clear hoS hon
        go_wp2_with fail
        refine hK.out _ _ hS6 (fun _ => ?_)
        clear hK KK
        try simp only [Act.put, List.setIfInBounds_toArray, List.set_cons_zero, List.set_cons_succ]
        refine held_one (i := 16) (by kernel_rfl) rfl (by rfl) (fun KK hK => ?_)
        go_wp2_with fail
        refine (rnames_any _ [ba, bb] A5 SL n5 c5 w4.heap.size HN5.out.symm (by have := HSLL.out; omega) (by simp) _ hS6.size hob HR5.out hne).mono ?_
        rintro e y1 ⟨vb, rfl, hob1, hB1, hold1, hown1⟩
        have hH1 := hS6.trans hB1
        have hno : ∀ g off, A3 = some ⟨g, off, none⟩ → vb.ownBlock ≠ some g := fun g off e h => by
          have h1 := hPg g off e
          have h2 := hob1.own g h
          have h3 := hb4.size
          omega
        go_wp2_with fail
        refine hK.out _ _ hH1 (fun _ => ?_)
        clear hK KK
        try simp only [Act.put, List.setIfInBounds_toArray, List.set_cons_zero, List.set_cons_succ]
        refine held_one (i := 18) (by kernel_rfl) rfl (by rfl) (fun KK hK => ?_)
        go_wp2_with fail
        refine (rnames_any vb ([ba, bb] ++ nsB SL) A3 P n3 c3 w4.heap.size hn3.out.symm (by have := HPL.out; omega) (by have := HSLL.out; have := nsB_len SL; simp; omega) y1 hH1.size hob1 ((hP4.out.keep hH1).mono hH1.size) hno).mono ?_
        rintro e y2 ⟨vc, rfl, hob2, hB2, hold2, hown2⟩
        have hH2 := hH1.trans hB2
        go_wp2_with fail
        refine hK.out _ _ hH2 (fun _ => ?_)
        clear hK KK
        try simp only [Act.put, List.setIfInBounds_toArray, List.set_cons_zero, List.set_cons_succ]
        refine held_pure 19 13 vc rfl (fun W => by rfl) hH2 ?_
        refine wpAnyH_done (by kernel_rfl) ?_ _
        try simp only [Act.put, List.setIfInBounds_toArray, List.set_cons_zero, List.set_cons_succ]
        go_wp2_with fail
        go_meet
        case rel => exact ⟨_, rfl, hob2, hH2⟩
      · rw [if_pos (by rfl)]
        go_wp2_with fail
        refine (refO.sign _ k1 m).mono ?_
        rintro e x7 ⟨vS, rfl, hoS, hb⟩
        rw [HSL.out] at hoS
        have hS7 := hK4.trans (hb.mono hK4.size)
        obtain ⟨A5, n5, c5, rfl, HN5, hc5, hm5, HR5⟩ := ON.form_n hoS
        have hon := on_own hoS
        clear hoS hon
        go_wp2_with fail
        refine hK.out _ _ hS7 (fun _ => ?_)
        clear hK KK
        try simp only [Act.put, List.setIfInBounds_toArray, List.set_cons_zero, List.set_cons_succ]
        refine held_one (i := 5) (by kernel_rfl) rfl (by rfl) (fun KK hK => ?_)
        go_wp2_with fail
        have hA8 := hS7.alloc hS7.size (.cells #[B ba, B bb] 5)
        have hlt : x7.heap.size < (x7.alloc (.cells #[B ba, B bb] 5)).heap.size := by simp
        have hob := (ob_two x7 5 ba bb).base_le hS7.size
        have hne : ∀ g off, A5 = some ⟨g, off, none⟩ → (Value.slice (some ⟨x7.heap.size, 0, none⟩) 2 2).ownBlock ≠ some g := fun g off e h => by
          have h1 := rn_lt HR5.out (by have := HSLL.out; omega) g off e
          injection h with h
          simp only at h
          omega
        have HR5 := RN.next HR5 ((Below.refl _ _).alloc (Nat.le_refl _) (.cells #[B ba, B bb] 5))
        refine hK.out _ _ hA8 (fun _ => ?_)
        clear hK KK
        try simp only [Act.put, List.setIfInBounds_toArray, List.set_cons_zero, List.set_cons_succ]
        refine held_one (i := 16) (by kernel_rfl) rfl (by rfl) (fun KK hK => ?_)
        go_wp2_with fail
        refine (rnames_any _ [ba, bb] A5 SL n5 c5 w4.heap.size HN5.out.symm (by have := HSLL.out; omega) (by simp) _ hA8.size hob HR5.out hne).mono ?_
        rintro e y1 ⟨vb, rfl, hob1, hB1, hold1, hown1⟩
        have hH1 := hA8.trans hB1
        have hno : ∀ g off, A3 = some ⟨g, off, none⟩ → vb.ownBlock ≠ some g := fun g off e h => by
          have h1 := hPg g off e
          have h2 := hob1.own g h
          have h3 := hb4.size
          omega
        go_wp2_with fail
        refine hK.out _ _ hH1 (fun _ => ?_)
        clear hK KK
        try simp only [Act.put, List.setIfInBounds_toArray, List.set_cons_zero, List.set_cons_succ]
        refine held_one (i := 18) (by kernel_rfl) rfl (by rfl) (fun KK hK => ?_)
        go_wp2_with fail
        refine (rnames_any vb ([ba, bb] ++ nsB SL) A3 P n3 c3 w4.heap.size hn3.out.symm (by have := HPL.out; omega) (by have := HSLL.out; have := nsB_len SL; simp; omega) y1 hH1.size hob1 ((hP4.out.keep hH1).mono hH1.size) hno).mono ?_
        rintro e y2 ⟨vc, rfl, hob2, hB2, hold2, hown2⟩
        have hH2 := hH1.trans hB2
        go_wp2_with fail
        refine hK.out _ _ hH2 (fun _ => ?_)
        clear hK KK
        try simp only [Act.put, List.setIfInBounds_toArray, List.set_cons_zero, List.set_cons_succ]
        refine held_pure 19 13 vc rfl (fun W => by rfl) hH2 ?_
        refine wpAnyH_done (by kernel_rfl) ?_ _
        try simp only [Act.put, List.setIfInBounds_toArray, List.set_cons_zero, List.set_cons_succ]
        go_wp2_with fail
        go_meet
        case rel => exact ⟨_, rfl, hob2, hH2⟩
  case rest =>
    obtain ⟨vb, rfl, hob1, hH1⟩ := hcut
    obtain ⟨w5, rfl⟩ : ∃ y, y = wc := ⟨_, rfl⟩
    go_wp2_with fail
    refine wp_region_held_drew (S := fun w' => Below w4.heap.size w4 w') (by kernel_rfl) hH1.drew (fun hHeld => ?_)
    refine held_pure 0 81 (vb) rfl (fun W => by rfl) hHeld ?_
    try simp only [Act.put, List.setIfInBounds_toArray, List.set_cons_zero, List.set_cons_succ]
    refine held_pure 1 82 (.pointer (some ⟨gk, 0, none⟩)) rfl (fun W => by rfl) hHeld ?_
    try simp only [Act.put, List.setIfInBounds_toArray, List.set_cons_zero, List.set_cons_succ]
    refine held_pure 2 83 (.pointer (some ⟨gk, 0, none⟩)) rfl (fun W => by go_simp) hHeld ?_
    try simp only [Act.put, List.setIfInBounds_toArray, List.set_cons_zero, List.set_cons_succ]
    refine held_pure 3 84 (.pointer (some ⟨gk, 0, none⟩)) rfl (fun W => by go_simp) hHeld ?_
    try simp only [Act.put, List.setIfInBounds_toArray, List.set_cons_zero, List.set_cons_succ]
    refine held_load 4 85 rfl 30 (.tmp 84) rfl gk 0 rfl (nmR s) (fun w' h => keyC_seed s _ bot (hk4.next h)) Try.underlying30 name_info hHeld ?_
    try simp only [Act.put, List.setIfInBounds_toArray, List.set_cons_zero, List.set_cons_succ]
    refine held_pure 5 86 (.int .i64 (d : Int)) rfl (fun W => by rfl) hHeld ?_
    try simp only [Act.put, List.setIfInBounds_toArray, List.set_cons_zero, List.set_cons_succ]
    refine held_pure 7 88 (.pointer (some ⟨gk, 0, none⟩)) rfl (fun W => by rfl) hHeld ?_
    try simp only [Act.put, List.setIfInBounds_toArray, List.set_cons_zero, List.set_cons_succ]
    refine held_pure 8 89 (.int .i64 (d : Int)) rfl (fun W => by rfl) hHeld ?_
    try simp only [Act.put, List.setIfInBounds_toArray, List.set_cons_zero, List.set_cons_succ]
    refine held_pure 9 90 (.pointer (some ⟨gk, 0, none⟩)) rfl (fun W => by go_simp) hHeld ?_
    try simp only [Act.put, List.setIfInBounds_toArray, List.set_cons_zero, List.set_cons_succ]
    refine held_pure 10 91 (.pointer (some ⟨gk, 9, none⟩)) rfl (fun W => by go_simp) hHeld ?_
    try simp only [Act.put, List.setIfInBounds_toArray, List.set_cons_zero, List.set_cons_succ]
    refine held_pure 11 92 (.pointer (some ⟨gk, 9 + d, none⟩)) rfl (fun W => by go_simp) hHeld ?_
    try simp only [Act.put, List.setIfInBounds_toArray, List.set_cons_zero, List.set_cons_succ]
    refine held_if 12 93 (.slice A1 32 c1) rfl (fun w' h => by (have hc := (h.cell (p := ⟨gk, 9 + d, none⟩) hgk4).trans hcb4.out; go_simp)) hHeld ?_
    try simp only [Act.put, List.setIfInBounds_toArray, List.set_cons_zero, List.set_cons_succ]
    refine held_pure 16 97 (.slice A4 n4 c4) rfl (fun W => by rfl) hHeld ?_
    try simp only [Act.put, List.setIfInBounds_toArray, List.set_cons_zero, List.set_cons_succ]
    have hob0 : OB w5.drew w4.heap.size 5 vb (([ba, bb] ++ nsB SL) ++ nsB P) := hob1
    refine held_one (i := 6) (by kernel_rfl) rfl (by rfl) (fun KK hK => ?_)
    go_wp2_with fail
    refine (rkey_i s 2 0 d _ _ _ rfl rfl rfl (by omega) (by omega) (by omega) k2 HK2 _).mono ?_
    rintro e x1 ⟨rfl, hb⟩
    have hG1 : Below w4.heap.size w4 x1 := hH1.drew.trans (hb.mono hH1.drew.size)
    have hob2 := hob0.keep hb
    go_wp2_with fail
    refine hK.out _ _ hG1 (fun hHeld1 => ?_)
    clear hK KK
    try simp only [Act.put, List.setIfInBounds_toArray, List.set_cons_zero, List.set_cons_succ]
    refine held_one (i := 13) (by kernel_rfl) rfl (by rfl) (fun KK hK => ?_)
    go_wp2_with fail
    refine (rroot_any 32 A1 BL c1 tr HBLL.out HTR (by have := HBLL.out; omega) hm1 x1 ((hBL4.out.keep hG1).mono hG1.size)).mono ?_
    rintro e x2 ⟨rfl, hb⟩
    have hG2 : Below w4.heap.size w4 x2 := hG1.trans (hb.mono hG1.size)
    have hob3 := hob2.keep hb
    have hlt3 := ob_lt hob3
    go_wp2_with fail
    refine hK.out _ _ hG2 (fun hHeld2 => ?_)
    clear hK KK
    try simp only [Act.put, List.setIfInBounds_toArray, List.set_cons_zero, List.set_cons_succ]
    refine held_one (i := 14) (by kernel_rfl) rfl (by rfl) (fun KK hK => ?_)
    go_wp2_with fail
    refine (refO.sign _ k2 tr).mono ?_
    rintro e x3 ⟨vS, rfl, hoS, hb⟩
    have hG3 : Below w4.heap.size w4 x3 := hG2.trans (hb.mono hG2.size)
    rw [HSL2.out] at hoS
    obtain ⟨A5, n5, c5, rfl, HN5, hc5, hm5, HR5⟩ := ON.form_n hoS
    have hon := on_own hoS
    have hob4 := hob3.keep hb
    have hne : ∀ g off, A5 = some ⟨g, off, none⟩ → vb.ownBlock ≠ some g := fun g off e h => by (have h1 := hon g off e; have h2 := hlt3 g h; omega)
    clear hoS hon
    go_wp2_with fail
    refine hK.out _ _ hG3 (fun hHeld3 => ?_)
    clear hK KK
    try simp only [Act.put, List.setIfInBounds_toArray, List.set_cons_zero, List.set_cons_succ]
    refine held_one (i := 15) (by kernel_rfl) rfl (by rfl) (fun KK hK => ?_)
    go_wp2_with fail
    refine (rnames_any vb (([ba, bb] ++ nsB SL) ++ nsB P) A5 SL2 n5 c5 w4.heap.size HN5.out.symm (by have := HSLL2.out; omega) (by have := HSLL.out; have := HPL.out; have := nsB_len SL; have := nsB_len P; simp; omega) x3 hG3.size hob4 HR5.out hne).mono ?_
    rintro e x4 ⟨vc, rfl, hob5, hB5, hold5, hown5⟩
    have hG4 : Below w4.heap.size w4 x4 := hG3.trans hB5
    have hno : ∀ g off, A4 = some ⟨g, off, none⟩ → vc.ownBlock ≠ some g := fun g off e h => by (have h1 := hQg g off e; have h2 := hob5.own g h; omega)
    go_wp2_with fail
    refine hK.out _ _ hG4 (fun hHeld4 => ?_)
    clear hK KK
    try simp only [Act.put, List.setIfInBounds_toArray, List.set_cons_zero, List.set_cons_succ]
    refine held_one (i := 17) (by kernel_rfl) rfl (by rfl) (fun KK hK => ?_)
    go_wp2_with fail
    refine (rnames_any vc ((([ba, bb] ++ nsB SL) ++ nsB P) ++ nsB SL2) A4 Q n4 c4 w4.heap.size hn4.out.symm (by have := HQL.out; omega) (by have := HSLL.out; have := HPL.out; have := HSLL2.out; have := nsB_len SL; have := nsB_len P; have := nsB_len SL2; simp; omega) x4 hG4.size hob5 ((hr4.out.keep hG4).mono hG4.size) hno).mono ?_
    rintro e x5 ⟨vd, rfl, hob6, hB6, hold6, hown6⟩
    have hG5 : Below w4.heap.size w4 x5 := hG4.trans hB6
    rw [HRs.out] at hob6
    go_wp2_with fail
    refine hK.out _ _ hG5 (fun hHeld5 => ?_)
    clear hK KK
    try simp only [Act.put, List.setIfInBounds_toArray, List.set_cons_zero, List.set_cons_succ]
    refine held_pure 18 6 (vd) rfl (fun W => by rfl) hHeld5 ?_
    try simp only [Act.put, List.setIfInBounds_toArray, List.set_cons_zero, List.set_cons_succ]
    refine held_pure 19 7 (.bool true) rfl (fun W => by rfl) hHeld5 ?_
    try simp only [Act.put, List.setIfInBounds_toArray, List.set_cons_zero, List.set_cons_succ]
    refine wpAnyH_done (by kernel_rfl) ?_ _
    try simp only [Act.put, List.setIfInBounds_toArray, List.set_cons_zero, List.set_cons_succ]
    go_wp2_with fail
    go_ret2
    exact ⟨_, rfl, hob6.base_le (by omega), (hB0.trans hB4).trans (hG5.mono (by omega))⟩
end Go.Proofs.Ytjghengkpbokaaa

/-
  forkledgerref1's many-time signatures: Sign.
-/
namespace Go.Fl
open Go.ChangeShapes Go.WideShapes Go.ChangeAt Go.RowKit
theorem OB.none (w : World) (base : Nat) (tb : TypeId) : OB w base tb (.slice none 0 0) [] := ⟨rfl, .inl ⟨rfl, rfl⟩⟩
end Go.Fl
namespace Go.Proofs.Ytjghengkpbokaaa
open Go.ChangeShapes Go.WideShapes Go.ChangeAt Go.RowKit Go.Fl

theorem rkeysign_no (p : Value) (m : BitVec 64) (n : Int) (hn : n < 0 ∨ 1024 ≤ n) (w : World) :
    Calls Try.prog 26 #[p, .int .i64 n, nm m] w fun e w' => e = .returned (.tuple #[.slice none 0 0, .bool false]) ∧ Below w.heap.size w w' := by
  have hB : Below w.heap.size w (w.alloc (.cells (nmC m) 30)) := (Below.refl _ _).alloc (Nat.le_refl _) _
  by_cases h1 : n < 0
  · go_enter Try.func26, Try.ntmps26
    go_wp2_with fail
    go_ret2
    exact ⟨rfl, hB⟩
  · have h2 : 1024 ≤ n := by omega
    clear hn
    go_enter Try.func26, Try.ntmps26
    go_wp2_with fail
    go_ret2
    exact ⟨rfl, hB⟩

theorem rsign_lv (s m : BitVec 64) (lv leaf : Int) (h1 : lv ≠ 1) (h2 : lv ≠ 2) (w : World) :
    Calls Try.prog 16 #[nm s, .int .i64 lv, .int .i64 leaf, nm m] w (RetBy w 5 ([], false)) := by
  obtain ⟨hs, hm, hF⟩ := signW_facts w s m
  have b1 : (lv == 1) = false := by rw [beq_eq_false_iff_ne]; exact h1
  have b2 : (lv == 2) = false := by rw [beq_eq_false_iff_ne]; exact h2
  have b3 : (lv != 1) = true := by rw [bne, b1]; rfl
  have b4 : decide (lv = 1) = false := by rw [decide_eq_false_iff_not]; exact h1
  go_enter Try.func16, Try.ntmps16
  go_wp2_with fail
  go_ret2
  exact ⟨_, rfl, OB.none _ _ _, hF.1⟩

theorem rsign_leaf (s m : BitVec 64) (leaf : Int) (h : leaf < 0 ∨ 32 ≤ leaf) (w : World) :
    Calls Try.prog 16 #[nm s, .int .i64 1, .int .i64 leaf, nm m] w (RetBy w 5 ([], false)) := by
  obtain ⟨hs, hm, hF⟩ := signW_facts w s m
  by_cases h1 : leaf < 0
  · go_enter Try.func16, Try.ntmps16
    go_wp2_with fail
    go_ret2
    exact ⟨_, rfl, OB.none _ _ _, hF.1⟩
  · have h2 : 32 ≤ leaf := by omega
    clear h
    go_enter Try.func16, Try.ntmps16
    go_wp2_with fail
    go_ret2
    exact ⟨_, rfl, OB.none _ _ _, hF.1⟩

/-- The two ways of a key's Sign, as one. -/
theorem rkeysign_any (s m : BitVec 64) (n : Int) (TL : List (BitVec 64)) (hTL : Hid (leavesF s 2 0 = TL)) (gk : Nat) (A : Option Addr) (c : Nat) (w : World) (hk : Is w gk 73 (keyC s (.slice A 32 c) noBot).toArray) (hA : Hid (RN w gk A TL)) (hc : 32 ≤ c) (hc63 : c ≤ 9223372036854775807) (r : List UInt8 × Bool) (hR : Hid (signP s 2 n m = r)) :
    Calls Try.prog 26 #[.pointer (some ⟨gk, 0, none⟩), .int .i64 n, nm m] w fun e w' => ∃ v, e = .returned (.tuple #[v, .bool r.2]) ∧ OB w' gk 5 v r.1 ∧ Below gk w w' := by
  have h := hR.out
  unfold signP at h
  rw [if_neg (by simp)] at h
  split at h
  · rename_i h3
    subst h
    obtain ⟨q, rfl⟩ : ∃ q : Nat, n = (q : Int) := ⟨n.toNat, by omega⟩
    exact rkeysign s m q (by omega) TL hTL gk A c w hk hA hc hc63 _ (Lib.hid rfl)
  · rename_i h3
    subst h
    refine (rkeysign_no _ m n (by omega) w).mono ?_
    rintro e w' ⟨rfl, hb⟩
    exact ⟨_, rfl, OB.none _ _ _, hb.mono (Nat.le_of_lt hk.lt)⟩

set_option maxRecDepth 10000 in
set_option maxHeartbeats 1000000 in
theorem rsign_two (s m : BitVec 64) (leaf : Int) (r : List UInt8 × Bool) (hR : Hid (signP s 2 leaf m = r)) (w : World) :
    Calls Try.prog 16 #[nm s, .int .i64 2, .int .i64 leaf, nm m] w (RetBy w 5 r) := by
  obtain ⟨hs, hm, hF⟩ := signW_facts w s m
  obtain ⟨TL, hTL⟩ : ∃ L, leavesF s 2 0 = L := ⟨_, rfl⟩
  have HTL := Lib.hid hTL
  clear hTL
  go_enter Try.func16, Try.ntmps16
  go_wp2_with fail
  change Code.wp _ _ _ _ (signW w s m)
  generalize signW w s m = W at *
  refine wp_region_held_drew (S := fun w' => Is w' w.heap.size 30 (nmC s) ∧ Is w' (w.heap.size + 1) 30 (nmC m) ∧ Fr w 2 w') (by kernel_rfl) ⟨hs.drew, hm.drew, hF.drew⟩ (fun hHeld => ?_)
  refine held_load 0 14 rfl 30 (.tmp 4) rfl w.heap.size 0 rfl (nmR s) (fun w' h => range_is (cs := nmR s) h.1) Try.underlying30 name_info hHeld ?_
  try simp only [Act.put, List.setIfInBounds_toArray, List.set_cons_zero, List.set_cons_succ]
  refine held_pure 2 16 (.int .i64 leaf) rfl (fun W => by rfl) hHeld ?_
  try simp only [Act.put, List.setIfInBounds_toArray, List.set_cons_zero, List.set_cons_succ]
  refine held_load 3 17 rfl 30 (.tmp 7) rfl (w.heap.size + 1) 0 rfl (nmR m) (fun w' h => range_is (cs := nmR m) h.2.1) Try.underlying30 name_info hHeld ?_
  try simp only [Act.put, List.setIfInBounds_toArray, List.set_cons_zero, List.set_cons_succ]
  refine held_one (i := 1) (by kernel_rfl) rfl (by rfl) (fun KK hK => ?_)
  go_wp2_with fail
  refine (rnewkey s TL HTL _).mono ?_
  rintro e w1 ⟨gk, A, c, rfl, hgk, hgk1, hk, hA, hc, hc63, hb⟩
  have h1 := hHeld.1.next hb
  have h2 := hHeld.2.1.next hb
  have h3 := hHeld.2.2.next hb
  have hgw : w.heap.size + 2 ≤ gk := by have := hHeld.2.2.2; omega
  go_wp2_with fail
  refine hK.out _ _ ⟨h1, h2, h3⟩ (fun hHeld1 => ?_)
  clear hK KK
  try simp only [Act.put, List.setIfInBounds_toArray, List.set_cons_zero, List.set_cons_succ]
  refine held_one (i := 4) (by kernel_rfl) rfl (by rfl) (fun KK hK => ?_)
  go_wp2_with fail
  refine (rkeysign_any s m leaf TL HTL gk A c w1 hk hA hc hc63 r hR).mono ?_
  rintro e w2 ⟨v, rfl, ho, hb2⟩
  have h5 := h1.keep hb2 (by omega)
  have h6 := h2.keep hb2 (by omega)
  have h7 := h3.step hb2 (by omega)
  go_wp2_with fail
  refine hK.out _ _ ⟨h5, h6, h7⟩ (fun hHeld2 => ?_)
  clear hK KK
  try simp only [Act.put, List.setIfInBounds_toArray, List.set_cons_zero, List.set_cons_succ]
  refine held_pure 5 19 (v) rfl (fun W => by rfl) hHeld2 ?_
  try simp only [Act.put, List.setIfInBounds_toArray, List.set_cons_zero, List.set_cons_succ]
  refine held_pure 6 20 (.bool r.2) rfl (fun W => by rfl) hHeld2 ?_
  try simp only [Act.put, List.setIfInBounds_toArray, List.set_cons_zero, List.set_cons_succ]
  refine held_pure 7 8 (v) rfl (fun W => by rfl) hHeld2 ?_
  try simp only [Act.put, List.setIfInBounds_toArray, List.set_cons_zero, List.set_cons_succ]
  refine held_pure 8 9 (.bool r.2) rfl (fun W => by rfl) hHeld2 ?_
  try simp only [Act.put, List.setIfInBounds_toArray, List.set_cons_zero, List.set_cons_succ]
  refine wpAnyH_done (by kernel_rfl) ?_ _
  try simp only [Act.put, List.setIfInBounds_toArray, List.set_cons_zero, List.set_cons_succ]
  go_wp2_with fail
  go_ret2
  exact ⟨_, rfl, ho.base_le (by omega), h7.1⟩

theorem rmsign_any (w : World) (s : BitVec 64) (lv leaf : Int) (m : BitVec 64) (r : List UInt8 × Bool) (hR : Hid (signP s lv leaf m = r)) :
    Calls Try.prog 16 #[nm s, .int .i64 lv, .int .i64 leaf, nm m] w (RetBy w 5 r) := by
  by_cases h2 : lv = 2
  · subst h2
    exact rsign_two s m leaf r hR w
  · by_cases h1 : lv = 1
    · subst h1
      have h := hR.out
      unfold signP at h
      split at h
      · rename_i h3
        subst h
        obtain ⟨q, rfl⟩ : ∃ q : Nat, leaf = (q : Int) := ⟨leaf.toNat, by omega⟩
        exact rsign_one s m q (by omega) w _ (Lib.hid rfl)
      · rename_i h3
        rw [if_neg (by simp)] at h
        subst h
        exact rsign_leaf s m leaf (by omega) w
    · have h := hR.out
      unfold signP at h
      rw [if_neg (fun hh => h1 hh.1), if_neg (fun hh => h2 hh.1)] at h
      subst h
      exact rsign_lv s m lv leaf h1 h2 w
end Go.Proofs.Ytjghengkpbokaaa

/-
  forkledgerref1's many-time signatures: Capacity, Size, list.
-/
namespace Go.Proofs.Ytjghengkpbokaaa
open Go.ChangeShapes Go.WideShapes Go.ChangeAt Go.RowKit Go.Fl

theorem rcap_any (w : World) (n : Int) : Calls Try.prog 11 #[.int .i64 n] w fun e w' => e = .returned (.int .i64 (capF n)) ∧ w = w' := by
  by_cases h1 : n = 1
  · subst h1
    go_enter Try.func11, Try.ntmps11
    go_wp2
    go_ret
    exact ⟨rfl, rfl⟩
  · by_cases h2 : n = 2
    · subst h2
      go_enter Try.func11, Try.ntmps11
      go_wp2
      go_ret
      exact ⟨rfl, rfl⟩
    · have e : capF n = 0 := by unfold capF; rw [if_neg h1, if_neg h2]
      rw [e]
      have b1 : (n == 1) = false := by rw [beq_eq_false_iff_ne]; exact h1
      have b2 : (n == 2) = false := by rw [beq_eq_false_iff_ne]; exact h2
      go_enter Try.func11, Try.ntmps11
      go_wp2
      go_ret
      exact ⟨rfl, rfl⟩

theorem rsize_any (w : World) (n : Int) : Calls Try.prog 13 #[.int .i64 n] w fun e w' => e = .returned (.int .i64 (sizeF n)) ∧ w = w' := by
  by_cases h1 : n < 1
  · have e : sizeF n = 0 := by unfold sizeF; rw [if_neg (by omega), if_neg (by omega)]
    rw [e]
    go_enter Try.func13, Try.ntmps13
    go_wp2
    go_ret
    exact ⟨rfl, rfl⟩
  · by_cases h2 : 2 < n
    · have e : sizeF n = 0 := by unfold sizeF; rw [if_neg (by omega), if_neg (by omega)]
      rw [e]
      go_enter Try.func13, Try.ntmps13
      go_wp2
      go_ret
      exact ⟨rfl, rfl⟩
    · have h3 : n = 1 ∨ n = 2 := by omega
      rcases h3 with rfl | rfl <;>
      · go_enter Try.func13, Try.ntmps13
        go_wp2
        go_ret
        exact ⟨rfl, rfl⟩

theorem ruint_i (A : Option Addr) (l : List UInt8) (m c : Nat) (hm0 : m = l.length) (P : Int) (p n : Nat) (hP : P = (p : Int)) (h1 : 1 ≤ n) (h8 : n ≤ 8) (hp : p + n ≤ l.length) (hm : l.length ≤ 281474976710656) (w : World) (hr : RB w w.heap.size A l) :
    Calls Try.prog 55 #[.slice A m c, .int .i64 P, .int .i64 n] w fun e w' => e = .returned (.tuple #[U (uintV ((l.drop p).take n)), .bool true]) ∧ w = w' := by
  subst hP hm0
  exact ruint_yes A l c p n h1 h8 hp hm w hr

set_option maxRecDepth 10000 in
set_option maxHeartbeats 600000 in
/-- list: n names from p on. -/
theorem rlist_any (A : Option Addr) (l : List UInt8) (m c p n : Nat) (P N : Int) (hm : m = l.length) (hP : P = (p : Int)) (hN : N = (n : Int)) (hp : p + 8 * n ≤ l.length) (hl : l.length ≤ 100000) (hn : n ≤ 100) (L : List (BitVec 64)) (hL : Hid (listF l p n = L)) (w : World) (hr : RB w w.heap.size A l) :
    Calls Try.prog 35 #[.slice A m c, .int .i64 P, .int .i64 N] w fun e w' => ∃ v, e = .returned v ∧ ON w' w.heap.size 30 v L ∧ Below w.heap.size w w' := by
  subst hP hN
  obtain ⟨i8, hi8, hz0, hz8, hz9⟩ := info_parts info_name
  have HI := Lib.hid hi8
  have HZ0 := Lib.hid hz0
  have HZ1 := Lib.hid hz8
  have HZ2 := Lib.hid hz9
  have hLL := listF_len l p n
  rw [hL.out] at hLL
  have HR := Lib.hid hr
  have HM := Lib.hid hm
  have n1 : (n : Int) ≤ 100 := by omega
  have p1 : (p : Int) ≤ 100000 := by omega
  have p0 : (0 : Int) ≤ (p : Int) := by omega
  clear hi8 hz0 hz8 hz9 hr hm
  go_enter Try.func35, Try.ntmps35
  go_wp2
  go_loopw [7, 8] (fun v i wr => ∃ k : Nat, k ≤ n ∧ i = .int .i64 (k : Int) ∧ ON wr w.heap.size 30 v (L.take k) ∧ Below w.heap.size w wr) (fun _ i _ => n - (intOf i).toNat)
  case atStart => exact ⟨0, Nat.zero_le _, rfl, ON.nil _ _ _, Below.refl _ _⟩
  case round =>
    obtain ⟨k, hk, rfl, hob, hB⟩ := hrel
    by_cases hlt : k < n
    · obtain ⟨x, hx⟩ : ∃ x, uintV ((l.drop (p + 8 * k)).take 8) = x := ⟨_, rfl⟩
      have hsn := listF_snoc l p n k hlt
      rw [hL.out, hx] at hsn
      have HX := Lib.hid hx
      have HSN := Lib.hid hsn
      have k1 : (k : Int) < (n : Int) := by omega
      have k0 : (0 : Int) ≤ (k : Int) := by omega
      clear hx hsn
      go_wp2_with (first
        | (go_at_call 55; refine (ruint_i A l m c HM.out _ (p + 8 * k) 8 (by omega) (by omega) (by omega) (by omega) (by omega) wr ((HR.out.keep hB).mono hB.size)).mono ?_; rintro e w1 ⟨rfl, rfl⟩; rw [HX.out])
        | (go_at_call 56; refine (rof_any x wr).mono ?_; rintro e w2 ⟨rfl, hb2⟩; have hB2 := hB.trans (hb2.mono hB.size); have hob2 := hob.keep hb2)
        | (at_builtin; refine wpList_append_on rfl (.tmp 25) (.tmp 28) 48 rfl w.heap.size 30 i8 _ Try.underlying48 HI.out HZ0.out rfl HZ1.out HZ2.out _ (L.take k) rfl (hob2.keep ((Below.refl _ _).alloc (Nat.le_refl _) _)) _ ⟨w2.heap.size, 0, none⟩ 1 1 x rfl rfl (rn_build w2 30 x) (by simp; omega) (by (have := hB2.size; simp; omega)) ?_; intro v3 w3 ho3 hg3 hat3; have hB3 := (hB2.alloc hB2.size _).grown hg3 (by (have := hB2.size; simp; omega)) (fun k hk => by (have := hob2.own k hk; omega)))
        | fail)
      go_roundw
      case rel => exact ⟨k + 1, by omega, by go_num, by rw [HSN.out] at ho3; exact ho3, hB3⟩
      case measure => simp [intOf]; omega
    · obtain rfl : k = n := by omega
      have hob3 := hob
      rw [List.take_of_length_le (by omega)] at hob3
      clear hob
      go_wp2
      go_ret
      exact ⟨_, rfl, hob3, hB⟩
end Go.Proofs.Ytjghengkpbokaaa
