/-
  2 texts in one file: R5Sgn, R5Ke1.
-/
import Derived.Test.YtjghengkpbokaaaG6
import Derived.Test.YtjghengkpbokaaaG9
import Derived.Test.YtjghengkpbokaaaG13

/-
  forkledgerref1's many-time signatures: Sign of one level.
-/
namespace Go.Fl
open Go.ChangeShapes Go.WideShapes Go.ChangeAt Go.RowKit
theorem ob_two (w : World) (tb : TypeId) (x y : UInt8) : OB (w.alloc (.cells #[B x, B y] tb)) w.heap.size tb (.slice (some ⟨w.heap.size, 0, none⟩) 2 2) [x, y] :=
  ⟨rfl, .inr ⟨w.heap.size, 2, #[B x, B y], rfl, Nat.le_refl _, heap_alloc_new w _, by simp, by simp [maxLen], rfl, rfl⟩⟩
theorem rn_lt {w : World} {n : Nat} {A : Option Addr} {l : List (BitVec 64)} (h : RN w n A l) (hl : 0 < l.length) : ∀ g off, A = some ⟨g, off, none⟩ → g < n := fun g off e => by
  obtain ⟨g', off', e', hg, _⟩ := h hl
  rw [e] at e'
  injection e' with e'
  injection e' with e1 e2
  omega
theorem on_own {w : World} {base : Nat} {tn : TypeId} {A : Option Addr} {n c : Nat} {l : List (BitVec 64)} (h : ON w base tn (.slice A n c) l) : ∀ g off, A = some ⟨g, off, none⟩ → base ≤ g := fun g off e => by
  subst e
  exact h.own g rfl
end Go.Fl
namespace Go.Proofs.Ytjghengkpbokaaa
open Go.ChangeShapes Go.WideShapes Go.ChangeAt Go.RowKit Go.Fl

set_option maxRecDepth 10000 in
set_option maxHeartbeats 2000000 in
theorem rsign_one (s m : BitVec 64) (j : Nat) (hj : j < 32) (w : World) (Rs : List UInt8) (hR : Hid (sign1F s j m = Rs)) :
    Calls Try.prog 16 #[nm s, .int .i64 1, .int .i64 (j : Int), nm m] w fun e w' => ∃ v, e = .returned (.tuple #[v, .bool true]) ∧ OB w' w.heap.size 5 v Rs ∧ Below w.heap.size w w' := by
  obtain ⟨hb0, hm0, hF⟩ := signW_facts w s m
  obtain ⟨L, hL⟩ : ∃ L, leavesF s 1 0 = L := ⟨_, rfl⟩
  have hLL := leavesF_len s 1 0
  rw [hL] at hLL
  obtain ⟨P, hP⟩ : ∃ P, pathF L j = P := ⟨_, rfl⟩
  have hPL := path32 s 1 0 j hj
  rw [hL, hP] at hPL
  obtain ⟨kf, hkf⟩ : ∃ x, keyF s 1 0 j = x := ⟨_, rfl⟩
  obtain ⟨SL, hSL⟩ : ∃ x, valsF kf (digF m) = x := ⟨_, rfl⟩
  have hSLL := vals_len kf (digF m)
  rw [hSL] at hSLL
  obtain ⟨bj, hbj⟩ : ∃ b, UInt8.ofNat j = b := ⟨_, rfl⟩
  have HRs : Hid (([0, bj] ++ nsB SL) ++ nsB P = Rs) := Lib.hid (by
    rw [← hR.out]
    unfold sign1F lvlF
    rw [hkf, hSL, hL, hP, hbj, List.append_assoc])
  have HL := Lib.hid hL
  have HP := Lib.hid hP
  have HKF := Lib.hid hkf
  have HSL := Lib.hid hSL
  have HLL := Lib.hid hLL
  have HPL := Lib.hid hPL
  have HSLL := Lib.hid hSLL
  have cv := fun W : World => conv_byte j (j : Int) rfl (by omega) bj hbj W
  have s1 : (j : Int) < 32 := by omega
  have s0 : (0 : Int) ≤ (j : Int) := by omega
  have b1 : decide ((j : Int) < 0) = false := by rw [decide_eq_false_iff_not]; omega
  have b2 : decide ((32 : Int) ≤ (j : Int)) = false := by rw [decide_eq_false_iff_not]; omega
  have hbc := hb0.cell
  clear hL hLL hP hPL hkf hSL hSLL hbj hR
  go_enter Try.func16, Try.ntmps16
  go_wp2_with (first
    | (go_at_call 28; refine (rleaves_any s 1 0 _ _ rfl rfl (by omega) (by omega) L HL (signW w s m)).mono ?_; rintro e w1 ⟨v1, rfl, ho1, hb1⟩; obtain ⟨A1, n1, c1, rfl, hn1, hc1, hm1, hr1⟩ := ON.form_n ho1; have hn1 := hn1.out; rw [HLL.out] at hn1; subst hn1; have hs1 := hb0.next hb1; have hmm1 := hm0.next hb1; have hF1 := hF.next hb1)
    | (go_at_call 27; refine (rpath_any 32 A1 L c1 j _ P rfl HLL.out hj HP hc1 hm1 w1 hr1.out).mono ?_; rintro e w2 ⟨v2, rfl, ho2, hb2⟩; obtain ⟨A2, n2, c2, rfl, hn2, hc2, hm2, hr2⟩ := ON.form_n ho2; have hs2 := hs1.next hb2; have hmm2 := hmm1.next hb2; have hF2 := hF1.next hb2)
    | fail)
  clear hbc b1 b2 ho1 ho2
  have hPg := rn_lt hr2.out (by have := HPL.out; omega)
  refine wp_region_held_drew (S := fun w' => Below w2.heap.size w2 w') (by kernel_rfl) (Below.refl _ _).drew (fun hHeld => ?_)
  refine held_pure 0 38 (.int .i64 (j : Int)) rfl (fun W => by rfl) hHeld ?_
  try simp only [Act.put, List.setIfInBounds_toArray, List.set_cons_zero, List.set_cons_succ]
  refine held_pure 1 39 (B bj) rfl (fun W => by go_simp) hHeld ?_
  try simp only [Act.put, List.setIfInBounds_toArray, List.set_cons_zero, List.set_cons_succ]
  refine held_load 3 41 rfl 30 (.tmp 4) rfl w.heap.size 0 rfl (nmR s) (fun w' h => range_is (cs := nmR s) (hs2.next h)) Try.underlying30 name_info hHeld ?_
  try simp only [Act.put, List.setIfInBounds_toArray, List.set_cons_zero, List.set_cons_succ]
  refine held_pure 4 42 (.int .i64 (j : Int)) rfl (fun W => by rfl) hHeld ?_
  try simp only [Act.put, List.setIfInBounds_toArray, List.set_cons_zero, List.set_cons_succ]
  refine held_load 6 44 rfl 30 (.tmp 7) rfl (w.heap.size + 1) 0 rfl (nmR m) (fun w' h => range_is (cs := nmR m) (hmm2.next h)) Try.underlying30 name_info hHeld ?_
  try simp only [Act.put, List.setIfInBounds_toArray, List.set_cons_zero, List.set_cons_succ]
  refine held_pure 9 47 (.slice A2 n2 c2) rfl (fun W => by rfl) hHeld ?_
  try simp only [Act.put, List.setIfInBounds_toArray, List.set_cons_zero, List.set_cons_succ]
  refine wpAnyH_ready (rs := [2, 5]) (by kernel_rfl) (by simp) (AllReadyH.cons rfl (fun KK hK => ?_) (AllReadyH.cons rfl (fun KK hK => ?_) AllReadyH.nil))
  · rw [if_pos (by rfl)]
    go_wp2_with fail
    have hA1 := hHeld.alloc hHeld.size (.cells #[.int .u8 0, B bj] 5)
    have hlt : w2.drew.heap.size < (w2.drew.alloc (.cells #[.int .u8 0, B bj] 5)).heap.size := by simp
    have hob := (ob_two w2.drew 5 0 bj).base_le hHeld.size
    refine hK.out _ _ hA1 (fun _ => ?_)
    clear hK KK
    try simp only [Act.put, List.setIfInBounds_toArray, List.set_cons_zero, List.set_cons_succ]
    refine held_one (i := 5) (by kernel_rfl) rfl (by rfl) (fun KK hK => ?_)
    go_wp2_with fail
    refine (rkey_i s 1 0 j _ _ _ rfl rfl rfl (by omega) (by omega) (by omega) kf HKF _).mono ?_
    rintro e x2 ⟨rfl, hb⟩
    have hK2 := hA1.trans (hb.mono hA1.size)
    have hlt := Nat.lt_of_lt_of_le hlt hb.size
    have hob := hob.keep hb
    go_wp2_with fail
    refine hK.out _ _ hK2 (fun _ => ?_)
    clear hK KK
    try simp only [Act.put, List.setIfInBounds_toArray, List.set_cons_zero, List.set_cons_succ]
    refine held_one (i := 7) (by kernel_rfl) rfl (by rfl) (fun KK hK => ?_)
    go_wp2_with fail
    refine (refO.sign _ kf m).mono ?_
    rintro e x3 ⟨vS, rfl, hoS, hb⟩
    rw [HSL.out] at hoS
    have hS3 := hK2.trans (hb.mono hK2.size)
    obtain ⟨A5, n5, c5, rfl, HN5, hc5, hm5, HR5⟩ := ON.form_n hoS
    have hon := on_own hoS
    have hne : ∀ g off, A5 = some ⟨g, off, none⟩ → (Value.slice (some ⟨w2.drew.heap.size, 0, none⟩) 2 2).ownBlock ≠ some g := fun g off e h => by
      have h1 := hon g off e
      injection h with h
      simp only at h
      omega
    have hob := hob.keep hb
    clear hoS hon
    go_wp2_with fail
    refine hK.out _ _ hS3 (fun _ => ?_)
    clear hK KK
    try simp only [Act.put, List.setIfInBounds_toArray, List.set_cons_zero, List.set_cons_succ]
    refine held_one (i := 8) (by kernel_rfl) rfl (by rfl) (fun KK hK => ?_)
    go_wp2_with fail
    refine (rnames_any _ [0, bj] A5 SL n5 c5 w2.heap.size HN5.out.symm (by have := HSLL.out; omega) (by simp) _ hS3.size hob HR5.out hne).mono ?_
    rintro e y1 ⟨vb, rfl, hob1, hB1, hold1, hown1⟩
    have hH1 := hS3.trans hB1
    have hno : ∀ g off, A2 = some ⟨g, off, none⟩ → vb.ownBlock ≠ some g := fun g off e h => by
      have h1 := hPg g off e
      have h2 := hob1.own g h
      omega
    go_wp2_with fail
    refine hK.out _ _ hH1 (fun _ => ?_)
    clear hK KK
    try simp only [Act.put, List.setIfInBounds_toArray, List.set_cons_zero, List.set_cons_succ]
    refine held_one (i := 10) (by kernel_rfl) rfl (by rfl) (fun KK hK => ?_)
    go_wp2_with fail
    refine (rnames_any vb ([0, bj] ++ nsB SL) A2 P n2 c2 w2.heap.size hn2.out.symm (by have := HPL.out; omega) (by have := HSLL.out; have := nsB_len SL; simp; omega) y1 hH1.size hob1 ((hr2.out.keep hH1).mono hH1.size) hno).mono ?_
    rintro e y2 ⟨vc, rfl, hob2, hB2, hold2, hown2⟩
    have hH2 := hH1.trans hB2
    rw [HRs.out] at hob2
    go_wp2_with fail
    refine hK.out _ _ hH2 (fun _ => ?_)
    clear hK KK
    try simp only [Act.put, List.setIfInBounds_toArray, List.set_cons_zero, List.set_cons_succ]
    refine held_pure 11 8 vc rfl (fun W => by rfl) hH2 ?_
    try simp only [Act.put, List.setIfInBounds_toArray, List.set_cons_zero, List.set_cons_succ]
    refine held_pure 12 9 (.bool true) rfl (fun W => by rfl) hH2 ?_
    refine wpAnyH_done (by kernel_rfl) ?_ _
    try simp only [Act.put, List.setIfInBounds_toArray, List.set_cons_zero, List.set_cons_succ]
    go_wp2_with fail
    go_ret2
    exact ⟨_, rfl, hob2.base_le (by have := hF2.2; omega), hF2.1.trans (hH2.mono (by have := hF2.2; omega))⟩
  · rw [if_pos (by rfl)]
    go_wp2_with fail
    refine (rkey_i s 1 0 j _ _ _ rfl rfl rfl (by omega) (by omega) (by omega) kf HKF _).mono ?_
    rintro e x4 ⟨rfl, hb⟩
    have hK4 := hHeld.trans (hb.mono hHeld.size)
    go_wp2_with fail
    refine hK.out _ _ hK4 (fun _ => ?_)
    clear hK KK
    try simp only [Act.put, List.setIfInBounds_toArray, List.set_cons_zero, List.set_cons_succ]
    refine wpAnyH_ready (rs := [2, 7]) (by kernel_rfl) (by simp) (AllReadyH.cons rfl (fun KK hK => ?_) (AllReadyH.cons rfl (fun KK hK => ?_) AllReadyH.nil))
    · rw [if_pos (by rfl)]
      go_wp2_with fail
      have hA5 := hK4.alloc hK4.size (.cells #[.int .u8 0, B bj] 5)
      have hlt : x4.heap.size < (x4.alloc (.cells #[.int .u8 0, B bj] 5)).heap.size := by simp
      have hob := (ob_two x4 5 0 bj).base_le hK4.size
      refine hK.out _ _ hA5 (fun _ => ?_)
      clear hK KK
      try simp only [Act.put, List.setIfInBounds_toArray, List.set_cons_zero, List.set_cons_succ]
      refine held_one (i := 7) (by kernel_rfl) rfl (by rfl) (fun KK hK => ?_)
      go_wp2_with fail
      refine (refO.sign _ kf m).mono ?_
      rintro e x6 ⟨vS, rfl, hoS, hb⟩
      rw [HSL.out] at hoS
      have hS6 := hA5.trans (hb.mono hA5.size)
      obtain ⟨A5, n5, c5, rfl, HN5, hc5, hm5, HR5⟩ := ON.form_n hoS
      have hon := on_own hoS
      have hne : ∀ g off, A5 = some ⟨g, off, none⟩ → (Value.slice (some ⟨x4.heap.size, 0, none⟩) 2 2).ownBlock ≠ some g := fun g off e h => by
        have h1 := hon g off e
        injection h with h
        simp only at h
        omega
      have hob := hob.keep hb
      clear hoS hon
      go_wp2_with fail
      refine hK.out _ _ hS6 (fun _ => ?_)
      clear hK KK
      try simp only [Act.put, List.setIfInBounds_toArray, List.set_cons_zero, List.set_cons_succ]
      refine held_one (i := 8) (by kernel_rfl) rfl (by rfl) (fun KK hK => ?_)
      go_wp2_with fail
      refine (rnames_any _ [0, bj] A5 SL n5 c5 w2.heap.size HN5.out.symm (by have := HSLL.out; omega) (by simp) _ hS6.size hob HR5.out hne).mono ?_
      rintro e y1 ⟨vb, rfl, hob1, hB1, hold1, hown1⟩
      have hH1 := hS6.trans hB1
      have hno : ∀ g off, A2 = some ⟨g, off, none⟩ → vb.ownBlock ≠ some g := fun g off e h => by
        have h1 := hPg g off e
        have h2 := hob1.own g h
        omega
      go_wp2_with fail
      refine hK.out _ _ hH1 (fun _ => ?_)
      clear hK KK
      try simp only [Act.put, List.setIfInBounds_toArray, List.set_cons_zero, List.set_cons_succ]
      refine held_one (i := 10) (by kernel_rfl) rfl (by rfl) (fun KK hK => ?_)
      go_wp2_with fail
      refine (rnames_any vb ([0, bj] ++ nsB SL) A2 P n2 c2 w2.heap.size hn2.out.symm (by have := HPL.out; omega) (by have := HSLL.out; have := nsB_len SL; simp; omega) y1 hH1.size hob1 ((hr2.out.keep hH1).mono hH1.size) hno).mono ?_
      rintro e y2 ⟨vc, rfl, hob2, hB2, hold2, hown2⟩
      have hH2 := hH1.trans hB2
      rw [HRs.out] at hob2
      go_wp2_with fail
      refine hK.out _ _ hH2 (fun _ => ?_)
      clear hK KK
      try simp only [Act.put, List.setIfInBounds_toArray, List.set_cons_zero, List.set_cons_succ]
      refine held_pure 11 8 vc rfl (fun W => by rfl) hH2 ?_
      try simp only [Act.put, List.setIfInBounds_toArray, List.set_cons_zero, List.set_cons_succ]
      refine held_pure 12 9 (.bool true) rfl (fun W => by rfl) hH2 ?_
      refine wpAnyH_done (by kernel_rfl) ?_ _
      try simp only [Act.put, List.setIfInBounds_toArray, List.set_cons_zero, List.set_cons_succ]
      go_wp2_with fail
      go_ret2
      exact ⟨_, rfl, hob2.base_le (by have := hF2.2; omega), hF2.1.trans (hH2.mono (by have := hF2.2; omega))⟩
    · rw [if_pos (by rfl)]
      go_wp2_with fail
      refine (refO.sign _ kf m).mono ?_
      rintro e x7 ⟨vS, rfl, hoS, hb⟩
      rw [HSL.out] at hoS
      have hS7 := hK4.trans (hb.mono hK4.size)
      obtain ⟨A5, n5, c5, rfl, HN5, hc5, hm5, HR5⟩ := ON.form_n hoS
      have hon := on_own hoS
      clear hoS hon
      go_wp2_with fail
      refine hK.out _ _ hS7 (fun _ => ?_)
      clear hK KK
      try simp only [Act.put, List.setIfInBounds_toArray, List.set_cons_zero, List.set_cons_succ]
      refine held_one (i := 2) (by kernel_rfl) rfl (by rfl) (fun KK hK => ?_)
      go_wp2_with fail
      have hA8 := hS7.alloc hS7.size (.cells #[.int .u8 0, B bj] 5)
      have hlt : x7.heap.size < (x7.alloc (.cells #[.int .u8 0, B bj] 5)).heap.size := by simp
      have hob := (ob_two x7 5 0 bj).base_le hS7.size
      have hne : ∀ g off, A5 = some ⟨g, off, none⟩ → (Value.slice (some ⟨x7.heap.size, 0, none⟩) 2 2).ownBlock ≠ some g := fun g off e h => by
        have h1 := rn_lt HR5.out (by have := HSLL.out; omega) g off e
        injection h with h
        simp only at h
        omega
      have HR5 := RN.next HR5 ((Below.refl _ _).alloc (Nat.le_refl _) (.cells #[.int .u8 0, B bj] 5))
      refine hK.out _ _ hA8 (fun _ => ?_)
      clear hK KK
      try simp only [Act.put, List.setIfInBounds_toArray, List.set_cons_zero, List.set_cons_succ]
      refine held_one (i := 8) (by kernel_rfl) rfl (by rfl) (fun KK hK => ?_)
      go_wp2_with fail
      refine (rnames_any _ [0, bj] A5 SL n5 c5 w2.heap.size HN5.out.symm (by have := HSLL.out; omega) (by simp) _ hA8.size hob HR5.out hne).mono ?_
      rintro e y1 ⟨vb, rfl, hob1, hB1, hold1, hown1⟩
      have hH1 := hA8.trans hB1
      have hno : ∀ g off, A2 = some ⟨g, off, none⟩ → vb.ownBlock ≠ some g := fun g off e h => by
        have h1 := hPg g off e
        have h2 := hob1.own g h
        omega
      go_wp2_with fail
      refine hK.out _ _ hH1 (fun _ => ?_)
      clear hK KK
      try simp only [Act.put, List.setIfInBounds_toArray, List.set_cons_zero, List.set_cons_succ]
      refine held_one (i := 10) (by kernel_rfl) rfl (by rfl) (fun KK hK => ?_)
      go_wp2_with fail
      refine (rnames_any vb ([0, bj] ++ nsB SL) A2 P n2 c2 w2.heap.size hn2.out.symm (by have := HPL.out; omega) (by have := HSLL.out; have := nsB_len SL; simp; omega) y1 hH1.size hob1 ((hr2.out.keep hH1).mono hH1.size) hno).mono ?_
      rintro e y2 ⟨vc, rfl, hob2, hB2, hold2, hown2⟩
      have hH2 := hH1.trans hB2
      rw [HRs.out] at hob2
      go_wp2_with fail
      refine hK.out _ _ hH2 (fun _ => ?_)
      clear hK KK
      try simp only [Act.put, List.setIfInBounds_toArray, List.set_cons_zero, List.set_cons_succ]
      refine held_pure 11 8 vc rfl (fun W => by rfl) hH2 ?_
      try simp only [Act.put, List.setIfInBounds_toArray, List.set_cons_zero, List.set_cons_succ]
      refine held_pure 12 9 (.bool true) rfl (fun W => by rfl) hH2 ?_
      refine wpAnyH_done (by kernel_rfl) ?_ _
      try simp only [Act.put, List.setIfInBounds_toArray, List.set_cons_zero, List.set_cons_succ]
      go_wp2_with fail
      go_ret2
      exact ⟨_, rfl, hob2.base_le (by have := hF2.2; omega), hF2.1.trans (hH2.mono (by have := hF2.2; omega))⟩
end Go.Proofs.Ytjghengkpbokaaa

/-
  forkledgerref1's many-time signatures: NewKey.
-/
namespace Go.Fl
open Go.ChangeShapes Go.WideShapes Go.ChangeAt Go.RowKit
/-- The cells of a key: the seed, the names of its top tree, those of its bottom trees. -/
def keyC (s : BitVec 64) (v : Value) (bot : List Value) : List Value := (nmC s).toList ++ v :: bot
def noBot : List Value := List.replicate 32 (.slice none 0 0)
theorem noBot_at (i : Nat) (h : i < 32) : noBot[i]? = some (.slice none 0 0) := by
  unfold noBot
  rw [List.getElem?_replicate, if_pos h]
theorem noBot_len : noBot.length = 32 := List.length_replicate
theorem keyC_seed (s : BitVec 64) (v : Value) (bot : List Value) {w : World} {g : Nat} {t : TypeId} (h : Is w g t (keyC s v bot).toArray) : w.rangeAt g 0 (nmR s) := fun i u hi => by
  rw [Nat.zero_add, h.cell i]
  have hi8 : i < 8 := (List.getElem?_eq_some_iff.1 hi).1
  have e : (keyC s v bot).toArray[i]? = ((nmR s) ++ v :: bot)[i]? := by simp [keyC]
  rw [e, List.getElem?_append_left (by simpa using hi8)]
  exact hi
theorem keyC_top (s : BitVec 64) (v : Value) (bot : List Value) {w : World} {g : Nat} {t : TypeId} (h : Is w g t (keyC s v bot).toArray) : w.cell? ⟨g, 8, none⟩ = some v := by
  rw [h.cell 8]
  have e : (keyC s v bot).toArray[8]? = ((nmR s) ++ v :: bot)[8]? := by simp [keyC]
  rw [e]
  rfl
theorem keyC_bot (s : BitVec 64) (v : Value) (bot : List Value) {w : World} {g : Nat} {t : TypeId} (h : Is w g t (keyC s v bot).toArray) (i : Nat) (b : Value) (hi : bot[i]? = some b) : w.cell? ⟨g, 9 + i, none⟩ = some b := by
  rw [h.cell (9 + i)]
  have e : (keyC s v bot).toArray[9 + i]? = ((nmR s) ++ v :: bot)[9 + i]? := by simp [keyC]
  rw [e, show (nmR s) ++ v :: bot = ((nmR s) ++ [v]) ++ bot by simp, List.getElem?_append_right (by simp)]
  have : 9 + i - ((nmR s) ++ [v]).length = i := by simp
  rw [this]
  exact hi
theorem keyC_len (s : BitVec 64) (v : Value) (bot : List Value) : (keyC s v bot).length = 9 + bot.length := by simp [keyC]; omega
theorem keyC_set (s : BitVec 64) (v : Value) (bot : List Value) (d : Nat) (x : Value) : (keyC s v bot).take (9 + d) ++ [x] ++ (keyC s v bot).drop (9 + d + 1) = keyC s v (bot.take d ++ [x] ++ bot.drop (d + 1)) := by
  have e : ∀ b, keyC s v b = ((nmC s).toList ++ [v]) ++ b := fun b => by simp [keyC]
  have h9 : ((nmC s).toList ++ [v]).length = 9 := by simp
  rw [e, e]
  generalize (nmC s).toList ++ [v] = a at h9
  rw [show 9 + d = a.length + d by omega, show a.length + d + 1 = a.length + (d + 1) by omega, List.take_length_add_append, List.drop_length_add_append]
  simp only [List.append_assoc]
theorem bot_set_at (bot : List Value) (d : Nat) (x : Value) (h : d < bot.length) : (bot.take d ++ [x] ++ bot.drop (d + 1))[d]? = some x := by
  rw [List.append_assoc, List.getElem?_append_right (by simp; omega)]
  simp
  have : d - min d bot.length = 0 := by omega
  rw [this]
  rfl
theorem ob_lt {w : World} {base : Nat} {tb : TypeId} {v : Value} {l : List UInt8} (h : OB w base tb v l) : ∀ k, v.ownBlock = some k → k < w.heap.size := fun k hk => by
  rcases h.2 with ⟨rfl, _⟩ | ⟨g, cap, cur, rfl, _, hh, _⟩
  · simp [Value.ownBlock] at hk
  · simp [Value.ownBlock] at hk
    subst hk
    exact (Array.getElem?_eq_some_iff.1 hh).1
/-- A slice stored over one cell of a block that is known whole. -/
theorem oper_store_slice {P : Program} {w : World} {a : Act} {Q : Exit → Act → World → Prop} {o : Oper} {K : Act → World → Prop} (ty : TypeId) (x y : Operand) (ho : o.op = .store ty x y)
    (g off : Nat) (t : TypeId) (olds : List Value) (A : Option Addr) (n c : Nat) (hx : a.eval x = .pointer (some ⟨g, off, none⟩)) (hy : a.eval y = .slice A n c) (hz : Is w g t olds.toArray) (hfit : off < olds.length) (hi : (P.info? ty).map (·.size) = some 1)
    (h : ∀ w', Is w' g t (olds.take off ++ [Value.slice A n c] ++ olds.drop (off + 1)).toArray → Below g w w' → (∀ b, b ≠ g → w'.heap[b]? = w.heap[b]?) → K (a.put o.dst undef) w') : Oper.wp P o a w K Q := by
  have hst := run_storeCells_at (P := P) g off t [Value.slice A n c] 0 olds.toArray w hz (by simp; omega) (fun v hv => by simp at hv; subst hv; rfl)
  have hrun : (storeVar ty ⟨g, off, none⟩ (.slice A n c)).run P w = .ok () (w.setRow g (olds.take off ++ [Value.slice A n c] ++ olds.drop (off + 1)).toArray) := by
    cases hq : P.info? ty with
    | none => simp [hq] at hi
    | some i =>
      have hs' : i.size = 1 := by simp [hq] at hi; omega
      simp [Nat.add_zero] at hst
      simp [storeVar, sizeOf, typeInfo, hq, Value.cells, hs', hst]
  unfold Oper.wp execOp
  simp only [ho, hx, hy, Instr.storeAt, Instr.sureAddr, Sem.run_bind, Sem.run_pure, Result.andThen_ok, hrun]
  exact h _ (setRow_heap w g _ _ t _ hz) (below_setRow (Below.refl _ _) (Nat.le_refl _) _) (fun b hb => setRow_other w g b _ hb)
end Go.Fl
namespace Go.Proofs.Ytjghengkpbokaaa
open Go.ChangeShapes Go.WideShapes Go.ChangeAt Go.RowKit Go.Fl

set_option maxRecDepth 10000 in
set_option maxHeartbeats 600000 in
theorem rnewkey (s : BitVec 64) (L : List (BitVec 64)) (hL : Hid (leavesF s 2 0 = L)) (w : World) :
    Calls Try.prog 25 #[nm s] w fun e w' => ∃ gk A c, e = .returned (.pointer (some ⟨gk, 0, none⟩)) ∧ w.heap.size ≤ gk ∧ gk < w'.heap.size ∧ Is w' gk 73 (keyC s (.slice A 32 c) noBot).toArray ∧ Hid (RN w' gk A L) ∧ 32 ≤ c ∧ c ≤ 9223372036854775807 ∧ Below w.heap.size w w' := by
  have hb := Is.new w 30 (nmC s)
  have hF := (Fr.refl w).alloc (.cells (nmC s) 30)
  have hLL := leavesF_len s 2 0
  rw [hL.out] at hLL
  have HLL := Lib.hid hLL
  clear hLL
  go_enter Try.func25, Try.ntmps25
  go_wp2_with fail
  refine wp_region_held_drew (S := fun w' => Is w' w.heap.size 30 (nmC s) ∧ Fr w 1 w') (by kernel_rfl) ⟨hb.drew, hF.drew⟩ (fun hHeld => ?_)
  refine held_load 0 3 rfl 30 (.tmp 1) rfl w.heap.size 0 rfl (nmR s) (fun w' h => range_is (cs := nmR s) h.1) Try.underlying30 name_info hHeld ?_
  try simp only [Act.put, List.setIfInBounds_toArray, List.set_cons_zero, List.set_cons_succ]
  refine held_load 1 4 rfl 30 (.tmp 1) rfl w.heap.size 0 rfl (nmR s) (fun w' h => range_is (cs := nmR s) h.1) Try.underlying30 name_info hHeld ?_
  try simp only [Act.put, List.setIfInBounds_toArray, List.set_cons_zero, List.set_cons_succ]
  refine held_one (i := 2) (by kernel_rfl) rfl (by rfl) (fun KK hK => ?_)
  go_wp2_with fail
  refine (rleaves_any s 2 0 _ _ rfl rfl (by omega) (by omega) L hL _).mono ?_
  rintro e w1 ⟨v1, rfl, ho1, hb1⟩
  obtain ⟨A1, n1, c1, rfl, hn1, hc1, hm1, hr1⟩ := ON.form_n ho1
  have hn1 := hn1.out
  rw [HLL.out] at hn1
  subst hn1
  have hF1 := hF.drew.next hb1
  go_wp2_with fail
  refine hK.out _ _ ⟨hHeld.1.next hb1, hHeld.2.next hb1⟩ (fun hHeld1 => ?_)
  clear hK KK
  try simp only [Act.put, List.setIfInBounds_toArray, List.set_cons_zero, List.set_cons_succ]
  refine held_pure 3 6 (.agg (keyC s (.slice A1 32 c1) noBot).toArray) rfl (fun W => by first | rfl | (go_simp; rfl)) hHeld1 ?_
  try simp only [Act.put, List.setIfInBounds_toArray, List.set_cons_zero, List.set_cons_succ]
  have hk := Is.new w1 73 (keyC s (.slice A1 32 c1) noBot).toArray
  have hF2 := hF1.alloc (.cells (keyC s (.slice A1 32 c1) noBot).toArray 73)
  refine held_one (i := 4) (by kernel_rfl) rfl (by rfl) (fun KK hK => ?_)
  go_wp2_with fail
  refine hK.out _ _ ⟨hHeld1.1.old _, hF2.le (by omega)⟩ (fun hHeld2 => ?_)
  clear hK KK
  try simp only [Act.put, List.setIfInBounds_toArray, List.set_cons_zero, List.set_cons_succ]
  refine held_pure 5 2 (.pointer (some ⟨w1.heap.size, 0, none⟩)) rfl (fun W => by rfl) hHeld2 ?_
  refine wpAnyH_done (by kernel_rfl) ?_ _
  try simp only [Act.put, List.setIfInBounds_toArray, List.set_cons_zero, List.set_cons_succ]
  go_wp2_with fail
  go_ret
  exact ⟨w1.heap.size, A1, c1, rfl, by have := hF1.2; omega, by simp, hk, Lib.hid (hr1.out.keep ((Below.refl _ _).alloc (Nat.le_refl _) _)), by have := HLL.out; omega, hm1, hF2.1⟩
end Go.Proofs.Ytjghengkpbokaaa
