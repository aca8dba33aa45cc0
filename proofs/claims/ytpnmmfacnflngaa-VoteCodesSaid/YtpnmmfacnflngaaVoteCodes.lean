/-
  The statement VoteCodes, proved for every vote, all bytes, every number and byte, with no condition: Encode, Decode and Name are as documented, also for an encoding of which one byte is changed.
-/
import Derived.Test.YtpnmmfacnflngaaLaw7A
import Derived.Test.YtpnmmfacnflngaaSetB
namespace Go.Proofs.Ytpnmmfacnflngaa.voteCodes
open Go.ChangeShapes Go.WideShapes Go.ChangeAt Go.RowKit Go.Fl

attribute [local go_sem] equal_nm eqGuard_nm eqGuard_vote
attribute [local go_sem high] equal_voteL

set_option maxRecDepth 10000 in
set_option maxHeartbeats 1000000 in
theorem walk_t (w : World) (a : VoteV) (vb : Value) (lb : List UInt8) (at_ : Int) (by_ : UInt8) (ha : a.I) (h : VB w vb lb) (hat : I64 at_) (hva : Hid (validF a = true)) (la : List UInt8) (HLA : Hid (encF a = la)) (HLLA : Hid (la.length = 23)) (na : BitVec 64) (HNA : Hid (vnameF a = na)) (hnn : nmEq na na = true) (u2 : VoteV) (k2 : Int) (hd2 : Hid (decF lb = (u2, k2))) (hE2 : vtEq u2 u2 = true) (hdec : ∀ l : List UInt8, ∃ u k, Hid (decF l = (u, k)) ∧ vtEq u u = true) :
    Calls Try.prog 4 #[vV a, vb, .int .i64 at_, B by_] w fun e w' => e = .returned (.bool true) ∧ Below w.heap.size w w' := by
  obtain ⟨hIa, hF⟩ := oneW_facts w a
  have HA := vote_later hIa
  have hB0 := Below.refl (oneW w a).heap.size (oneW w a)
  clear hIa
  have hW := h.next hF.1
  clear h
  obtain ⟨i0, hi, hz0, hz1, hz2⟩ := info_parts info_byte
  have HI := Lib.hid hi
  have HZ0 := Lib.hid hz0
  have HZ1 := Lib.hid hz1
  have HZ2 := Lib.hid hz2
  obtain ⟨hat1, hat2⟩ := hat
  obtain ⟨N, hN⟩ : ∃ n : Nat, IntKind.u64.wrap at_ = (n : Int) := ⟨(IntKind.u64.wrap at_).toNat, by rw [IntKind.wrap_u64]; omega⟩
  obtain ⟨j, hj⟩ : ∃ n : Nat, N % 23 = n := ⟨_, rfl⟩
  have hj1 : (N : Int) % 23 = (j : Int) := by omega
  have hj2 : Int.tmod (N : Int) 23 = (j : Int) := by rw [Int.tmod_eq_emod_of_nonneg (by omega)]; exact hj1
  have hj3 : j < 23 := by omega
  have hj4 : IntKind.i64.wrap (j : Int) = (j : Int) := by rw [IntKind.wrap_i64]; omega
  have hj5 : IntKind.u64.wrap (j : Int) = (j : Int) := by rw [IntKind.wrap_u64]; omega
  have hj0 : (0 : Int) ≤ (j : Int) := by omega
  have hj6 : (j : Int) < 23 := by omega
  clear hj hi hz0 hz1 hz2
  go_enter Try.func4, Try.ntmps4
  go_wp2_with (first | (refine wpList_load_w (by rfl) 26 (.tmp 4) rfl w.heap.size 0 (by rfl) (voteL a) _ (HA _ hB0) Try.underlying26 rfl vote_size ?_) | fail)
  refine (coEncYes a ha hva la HLA _).mono ?_
  rintro e w1 ⟨u1, rfl, ho1, hb1⟩
  have hv1 := ho1.vb
  obtain ⟨A1, n1, c1, rfl, HN1, hc1, hm1, HR1⟩ := ho1.form_n
  have hn1 := HN1.out
  rw [HLLA.out] at hn1
  subst hn1
  clear ho1
  have hB1 := Below.trans hB0 (hb1.mono (Below.size hB0))
  go_wp2_with (first | (refine wpList_load_w (by rfl) 26 (.tmp 4) rfl w.heap.size 0 (by rfl) (voteL a) _ (HA _ hB1) Try.underlying26 rfl vote_size ?_) | fail)
  refine (rfEncYes a ha hva la HLA _).mono ?_
  rintro e w2 ⟨u2, rfl, ho2, hb2⟩
  have hv2 := ho2.vb
  obtain ⟨A2, n2, c2, rfl, HN2, hc2, hm2, HR2⟩ := ho2.form_n
  have hn2 := HN2.out
  rw [HLLA.out] at hn2
  subst hn2
  clear ho2
  have hB2 := Below.trans hB1 (hb2.mono (Below.size hB1))
  go_wp2_with (first | (refine wpList_load_w (by rfl) 26 (.tmp 4) rfl w.heap.size 0 (by rfl) (voteL a) _ (HA _ hB2) Try.underlying26 rfl vote_size ?_) | fail)
  have HA2 : ∀ w' : World, Below w2.heap.size w2 w' → w'.rangeAt w.heap.size 0 (voteL a) := fun w' h => HA w' (hB2.trans (h.mono hB2.size))
  have hW2 := hW.next hB2
  have HR1 := Lib.hid ((HR1.out.keep hb2).mono hb2.size)
  clear hv1 hv2
  clear HA hW
  refine wp_region_held_drew (S := fun w' => Below w2.heap.size w2 w') (by kernel_rfl) (Below.refl _ _).drew (fun hHeld => ?_)
  refine held_pure 0 32 (.slice A1 23 c1) rfl (fun W => by rfl) hHeld ?_
  try simp only [Act.put, List.setIfInBounds_toArray, List.set_cons_zero, List.set_cons_succ]
  refine held_if 1 33 (.string (bsOf la)) rfl (fun w' h => by (have hc := run_convert_rb 23 c1 HN1.out w' (HR1.out.keep h); go_simp)) hHeld ?_
  try simp only [Act.put, List.setIfInBounds_toArray, List.set_cons_zero, List.set_cons_succ]
  refine held_pure 2 34 (.slice A2 23 c2) rfl (fun W => by rfl) hHeld ?_
  try simp only [Act.put, List.setIfInBounds_toArray, List.set_cons_zero, List.set_cons_succ]
  refine held_if 3 35 (.string (bsOf la)) rfl (fun w' h => by (have hc := run_convert_rb 23 c2 HN2.out w' (HR2.out.keep h); go_simp)) hHeld ?_
  try simp only [Act.put, List.setIfInBounds_toArray, List.set_cons_zero, List.set_cons_succ]
  refine held_pure 4 36 (.bool false) rfl (fun W => by go_simp) hHeld ?_
  try simp only [Act.put, List.setIfInBounds_toArray, List.set_cons_zero, List.set_cons_succ]
  refine held_pure 5 37 (.bool false) rfl (fun W => by rfl) hHeld ?_
  try simp only [Act.put, List.setIfInBounds_toArray, List.set_cons_zero, List.set_cons_succ]
  refine held_pure 6 38 (.bool true) rfl (fun W => by rfl) hHeld ?_
  try simp only [Act.put, List.setIfInBounds_toArray, List.set_cons_zero, List.set_cons_succ]
  refine held_pure 7 39 (.bool true) rfl (fun W => by rfl) hHeld ?_
  try simp only [Act.put, List.setIfInBounds_toArray, List.set_cons_zero, List.set_cons_succ]
  refine held_pure 8 40 (.bool false) rfl (fun W => by go_simp) hHeld ?_
  try simp only [Act.put, List.setIfInBounds_toArray, List.set_cons_zero, List.set_cons_succ]
  refine held_pure 9 41 (.bool false) rfl (fun W => by rfl) hHeld ?_
  try simp only [Act.put, List.setIfInBounds_toArray, List.set_cons_zero, List.set_cons_succ]
  refine held_pure 10 42 (.bool false) rfl (fun W => by rfl) hHeld ?_
  try simp only [Act.put, List.setIfInBounds_toArray, List.set_cons_zero, List.set_cons_succ]
  refine held_load 11 43 rfl 26 (.tmp 4) rfl w.heap.size 0 rfl (voteL a) (fun w' h => HA2 _ h) Try.underlying26 vote_size hHeld ?_
  try simp only [Act.put, List.setIfInBounds_toArray, List.set_cons_zero, List.set_cons_succ]
  refine held_load 13 45 rfl 26 (.tmp 4) rfl w.heap.size 0 rfl (voteL a) (fun w' h => HA2 _ h) Try.underlying26 vote_size hHeld ?_
  try simp only [Act.put, List.setIfInBounds_toArray, List.set_cons_zero, List.set_cons_succ]
  refine held_one (i := 12) (by kernel_rfl) rfl (by rfl) (fun KK hK => ?_)
  go_wp2_with fail
  refine (coName a ha na HNA _).mono ?_
  rintro e w3 ⟨rfl, hb⟩
  go_wp2_with fail
  refine hK.out _ _ (hHeld.trans (hb.mono hHeld.size)) (fun hHeld1 => ?_)
  clear hK KK
  try simp only [Act.put, List.setIfInBounds_toArray, List.set_cons_zero, List.set_cons_succ]
  refine held_one (i := 14) (by kernel_rfl) rfl (by rfl) (fun KK hK => ?_)
  go_wp2_with fail
  refine (rfName a ha na HNA _).mono ?_
  rintro e w4 ⟨rfl, hb⟩
  go_wp2_with fail
  refine hK.out _ _ (hHeld1.trans (hb.mono hHeld1.size)) (fun hHeld2 => ?_)
  clear hK KK
  try simp only [Act.put, List.setIfInBounds_toArray, List.set_cons_zero, List.set_cons_succ]
  refine held_pure 15 47 (.bool false) rfl (fun W => by go_simp) hHeld2 ?_
  try simp only [Act.put, List.setIfInBounds_toArray, List.set_cons_zero, List.set_cons_succ]
  refine held_pure 16 48 (.bool false) rfl (fun W => by rfl) hHeld2 ?_
  try simp only [Act.put, List.setIfInBounds_toArray, List.set_cons_zero, List.set_cons_succ]
  refine wpAnyH_done (by kernel_rfl) ?_ _
  try simp only [Act.put, List.setIfInBounds_toArray, List.set_cons_zero, List.set_cons_succ]
  have hB4 := hB2.trans (Below.mono hHeld2 hB2.size)
  have hW4 := hW2.next hHeld2
  have hr4 : RB w4 w4.heap.size A2 la := (HR2.out.keep hHeld2).mono (Below.size hHeld2)
  have hF6 := (Fr.refl w4).alloc (.cells #[] 5)
  have hr6 := (hr4.keep hF6.1).mono hF6.1.size
  clear HA2 hW2 HR1 HR2 hr4
  go_wp2_with (first | (at_builtin; refine wpList_append_ob rfl (.tmp 50) (.tmp 51) 29 rfl w4.heap.size 5 i0 Try.underlying29 HI.out HZ0.out HZ1.out HZ2.out (.slice (some ⟨w4.heap.size, 0, none⟩) 0 0) [] rfl (ob_empty w4 5 rfl) _ A2 la 23 c2 rfl HLLA.out hr6 (by (have := HLLA.out; simp; omega)) hF6.1.size ?_; intro v7 w7 hob7 hg7 _; have hF7 := hF6.grown hg7 (fun k hk => by (have := (ob_empty w4 5 rfl).own k hk; omega)); rw [List.nil_append] at hob7; obtain ⟨g, cap, b, e7, hg7', hgl, hbj, hc7, hf7, hset⟩ := ob_set hob7 j (by (have := HLLA.out; omega)); rw [HLLA.out] at e7; subst e7; obtain ⟨z, hz⟩ := xor_u8 b by_; clear hg7 hob7 hr6) | fail)
  have hc8' := hset z
  have hF8 := hF7.setCell (p := ⟨g, j, none⟩) hg7' (B z)
  change Calls _ _ _ (w7.setCell ⟨g, j, none⟩ (B z)) _
  generalize w7.setCell ⟨g, j, none⟩ (B z) = w8 at *
  obtain ⟨C, hC⟩ : ∃ C, la.set j z = C := ⟨_, rfl⟩
  rw [hC] at hc8'
  have hc8 := hc8'.vb
  obtain ⟨u, k, hd1, hE1⟩ := hdec C
  have hB8 := hB4.trans (hF8.1.mono hB4.size)
  have hW8 := hW4.next hF8.1
  clear hset hc8' hC hc7 hf7 hbj hz hF7 hF6 hdec hW4
  refine (coDec _ C u k hd1 _ hc8).mono ?_
  rintro e w9 ⟨rfl, hb9⟩
  have hB9 := Below.trans hB8 (hb9.mono (Below.size hB8))
  have hI10 : Is (w9.alloc (.cells #[.int .i64 0, .int .i64 0, .int .i64 0, .int .i64 0, .int .i64 0, .int .i64 0, .int .u8 0, .int .u8 0, .int .u8 0, .int .u8 0, .int .u8 0, .int .u8 0, .int .u8 0, .int .u8 0, .int .u8 0, .int .u8 0, .int .u8 0, .int .u8 0, .int .u8 0, .int .u8 0, .int .u8 0, .int .u8 0] 26)) w9.heap.size 26 (voteC ⟨0, 0, 0, 0, 0, 0, 0, 0⟩) := Is.new w9 26 (voteC ⟨0, 0, 0, 0, 0, 0, 0, 0⟩)
  go_wp2_with (first | (refine wpList_store_is rfl 26 (.tmp 14) (.tmp 69) rfl w9.heap.size 26 _ (voteL u).toArray rfl rfl hI10 rfl vote_size (voteC_one u) ?_; intro w10 hs10 hb10; have hbb10 := ((Below.refl w9.heap.size w9).alloc (Nat.le_refl _) (.cells #[.int .i64 0, .int .i64 0, .int .i64 0, .int .i64 0, .int .i64 0, .int .i64 0, .int .u8 0, .int .u8 0, .int .u8 0, .int .u8 0, .int .u8 0, .int .u8 0, .int .u8 0, .int .u8 0, .int .u8 0, .int .u8 0, .int .u8 0, .int .u8 0, .int .u8 0, .int .u8 0, .int .u8 0, .int .u8 0] 26)).trans hb10; have hB10 := Below.trans hB9 (hbb10.mono (Below.size hB9)); have HU1 := vote_later (a := u) hs10; have hc10 := (hc8.next hb9).next hbb10; have hW10 := (hW8.next hb9).next hbb10) | fail)
  clear hI10 hb10
  refine (rfDec _ C u k hd1 _ hc10).mono ?_
  rintro e w11 ⟨rfl, hb11⟩
  have hB11 := Below.trans hB10 (hb11.mono (Below.size hB10))
  have hI12 : Is (w11.alloc (.cells #[.int .i64 0, .int .i64 0, .int .i64 0, .int .i64 0, .int .i64 0, .int .i64 0, .int .u8 0, .int .u8 0, .int .u8 0, .int .u8 0, .int .u8 0, .int .u8 0, .int .u8 0, .int .u8 0, .int .u8 0, .int .u8 0, .int .u8 0, .int .u8 0, .int .u8 0, .int .u8 0, .int .u8 0, .int .u8 0] 26)) w11.heap.size 26 (voteC ⟨0, 0, 0, 0, 0, 0, 0, 0⟩) := Is.new w11 26 (voteC ⟨0, 0, 0, 0, 0, 0, 0, 0⟩)
  go_wp2_with (first | (refine wpList_store_is rfl 26 (.tmp 16) (.tmp 74) rfl w11.heap.size 26 _ (voteL u).toArray rfl rfl hI12 rfl vote_size (voteC_one u) ?_; intro w12 hs12 hb12; have hbb12 := ((Below.refl w11.heap.size w11).alloc (Nat.le_refl _) (.cells #[.int .i64 0, .int .i64 0, .int .i64 0, .int .i64 0, .int .i64 0, .int .i64 0, .int .u8 0, .int .u8 0, .int .u8 0, .int .u8 0, .int .u8 0, .int .u8 0, .int .u8 0, .int .u8 0, .int .u8 0, .int .u8 0, .int .u8 0, .int .u8 0, .int .u8 0, .int .u8 0, .int .u8 0, .int .u8 0] 26)).trans hb12; have hB12 := Below.trans hB11 (hbb12.mono (Below.size hB11)); have HU2 := vote_later (a := u) hs12; have HU3 := hb11.trans (hbb12.mono hb11.size); have hW12 := (hW10.next hb11).next hbb12) | (refine wpList_load_w (by rfl) 26 (.tmp 14) rfl w9.heap.size 0 (by rfl) (voteL u) _ (HU1 _ HU3) Try.underlying26 rfl vote_size ?_) | (refine wpList_load_w (by rfl) 26 (.tmp 16) rfl w11.heap.size 0 (by rfl) (voteL u) _ (HU2 _ (Below.refl _ _)) Try.underlying26 rfl vote_size ?_) | fail)
  clear hI12 hb12
  refine (coDec _ lb u2 k2 hd2 _ hW12).mono ?_
  rintro e w13 ⟨rfl, hb13⟩
  have hB13 := Below.trans hB12 (hb13.mono (Below.size hB12))
  have hI14 : Is (w13.alloc (.cells #[.int .i64 0, .int .i64 0, .int .i64 0, .int .i64 0, .int .i64 0, .int .i64 0, .int .u8 0, .int .u8 0, .int .u8 0, .int .u8 0, .int .u8 0, .int .u8 0, .int .u8 0, .int .u8 0, .int .u8 0, .int .u8 0, .int .u8 0, .int .u8 0, .int .u8 0, .int .u8 0, .int .u8 0, .int .u8 0] 26)) w13.heap.size 26 (voteC ⟨0, 0, 0, 0, 0, 0, 0, 0⟩) := Is.new w13 26 (voteC ⟨0, 0, 0, 0, 0, 0, 0, 0⟩)
  go_wp2_with (first | (refine wpList_store_is rfl 26 (.tmp 18) (.tmp 87) rfl w13.heap.size 26 _ (voteL u2).toArray rfl rfl hI14 rfl vote_size (voteC_one u2) ?_; intro w14 hs14 hb14; have hbb14 := ((Below.refl w13.heap.size w13).alloc (Nat.le_refl _) (.cells #[.int .i64 0, .int .i64 0, .int .i64 0, .int .i64 0, .int .i64 0, .int .i64 0, .int .u8 0, .int .u8 0, .int .u8 0, .int .u8 0, .int .u8 0, .int .u8 0, .int .u8 0, .int .u8 0, .int .u8 0, .int .u8 0, .int .u8 0, .int .u8 0, .int .u8 0, .int .u8 0, .int .u8 0, .int .u8 0] 26)).trans hb14; have hB14 := Below.trans hB13 (hbb14.mono (Below.size hB13)); have HX1 := vote_later (a := u2) hs14; have hWX := (hW12.next hb13).next hbb14) | fail)
  clear hI14 hb14
  refine (rfDec _ lb u2 k2 hd2 _ hWX).mono ?_
  rintro e w15 ⟨rfl, hb15⟩
  have hB15 := Below.trans hB14 (hb15.mono (Below.size hB14))
  have hI16 : Is (w15.alloc (.cells #[.int .i64 0, .int .i64 0, .int .i64 0, .int .i64 0, .int .i64 0, .int .i64 0, .int .u8 0, .int .u8 0, .int .u8 0, .int .u8 0, .int .u8 0, .int .u8 0, .int .u8 0, .int .u8 0, .int .u8 0, .int .u8 0, .int .u8 0, .int .u8 0, .int .u8 0, .int .u8 0, .int .u8 0, .int .u8 0] 26)) w15.heap.size 26 (voteC ⟨0, 0, 0, 0, 0, 0, 0, 0⟩) := Is.new w15 26 (voteC ⟨0, 0, 0, 0, 0, 0, 0, 0⟩)
  go_wp2_with (first | (refine wpList_store_is rfl 26 (.tmp 20) (.tmp 92) rfl w15.heap.size 26 _ (voteL u2).toArray rfl rfl hI16 rfl vote_size (voteC_one u2) ?_; intro w16 hs16 hb16; have hbb16 := ((Below.refl w15.heap.size w15).alloc (Nat.le_refl _) (.cells #[.int .i64 0, .int .i64 0, .int .i64 0, .int .i64 0, .int .i64 0, .int .i64 0, .int .u8 0, .int .u8 0, .int .u8 0, .int .u8 0, .int .u8 0, .int .u8 0, .int .u8 0, .int .u8 0, .int .u8 0, .int .u8 0, .int .u8 0, .int .u8 0, .int .u8 0, .int .u8 0, .int .u8 0, .int .u8 0] 26)).trans hb16; have hB16 := Below.trans hB15 (hbb16.mono (Below.size hB15)); have HX2 := vote_later (a := u2) hs16; have HX3 := hb15.trans (hbb16.mono hb15.size)) | (refine wpList_load_w (by rfl) 26 (.tmp 18) rfl w13.heap.size 0 (by rfl) (voteL u2) _ (HX1 _ HX3) Try.underlying26 rfl vote_size ?_) | (refine wpList_load_w (by rfl) 26 (.tmp 20) rfl w15.heap.size 0 (by rfl) (voteL u2) _ (HX2 _ (Below.refl _ _)) Try.underlying26 rfl vote_size ?_) | fail)
  clear hI16 hb16
  refine (awake_any _).mono ?_
  rintro e w17 ⟨rfl, hb17⟩
  have hB17 := Below.trans hB16 (hb17.mono (Below.size hB16))
  go_wp2_with fail
  go_ret
  exact ⟨rfl, hF.1.trans (Below.mono hB17 (by have := hF.2; omega))⟩

set_option maxRecDepth 10000 in
set_option maxHeartbeats 1000000 in
theorem walk_f (w : World) (a : VoteV) (vb : Value) (lb : List UInt8) (at_ : Int) (by_ : UInt8) (ha : a.I) (h : VB w vb lb) (_hat : I64 at_) (hva : Hid (validF a = false)) (na : BitVec 64) (HNA : Hid (vnameF a = na)) (hnn : nmEq na na = true) (u2 : VoteV) (k2 : Int) (hd2 : Hid (decF lb = (u2, k2))) (hE2 : vtEq u2 u2 = true) :
    Calls Try.prog 4 #[vV a, vb, .int .i64 at_, B by_] w fun e w' => e = .returned (.bool true) ∧ Below w.heap.size w w' := by
  obtain ⟨hIa, hF⟩ := oneW_facts w a
  have HA := vote_later hIa
  have hB0 := Below.refl (oneW w a).heap.size (oneW w a)
  clear hIa
  have hW := h.next hF.1
  clear h
  go_enter Try.func4, Try.ntmps4
  go_wp2_with (first | (refine wpList_load_w (by rfl) 26 (.tmp 4) rfl w.heap.size 0 (by rfl) (voteL a) _ (HA _ hB0) Try.underlying26 rfl vote_size ?_) | fail)
  refine (coEncNo a ha hva _).mono ?_
  rintro e w1 ⟨rfl, hb1⟩
  have hB1 := Below.trans hB0 (hb1.mono (Below.size hB0))
  go_wp2_with (first | (refine wpList_load_w (by rfl) 26 (.tmp 4) rfl w.heap.size 0 (by rfl) (voteL a) _ (HA _ hB1) Try.underlying26 rfl vote_size ?_) | fail)
  refine (rfEncNo a ha hva _).mono ?_
  rintro e w2 ⟨rfl, hb2⟩
  have hB2 := Below.trans hB1 (hb2.mono (Below.size hB1))
  go_wp2_with (first | (refine wpList_load_w (by rfl) 26 (.tmp 4) rfl w.heap.size 0 (by rfl) (voteL a) _ (HA _ hB2) Try.underlying26 rfl vote_size ?_) | fail)
  have HA2 : ∀ w' : World, Below w2.heap.size w2 w' → w'.rangeAt w.heap.size 0 (voteL a) := fun w' h => HA w' (hB2.trans (h.mono hB2.size))
  have hW2 := hW.next hB2
  clear HA hW
  refine wp_region_held_drew (S := fun w' => Below w2.heap.size w2 w') (by kernel_rfl) (Below.refl _ _).drew (fun hHeld => ?_)
  refine held_pure 0 32 (.slice none 0 0) rfl (fun W => by rfl) hHeld ?_
  try simp only [Act.put, List.setIfInBounds_toArray, List.set_cons_zero, List.set_cons_succ]
  refine held_if 1 33 (.string (bsOf [])) rfl (fun w' h => by (have hc := run_convert_rb (l := []) 0 0 rfl w' (RB.nil w' 0 none); go_simp)) hHeld ?_
  try simp only [Act.put, List.setIfInBounds_toArray, List.set_cons_zero, List.set_cons_succ]
  refine held_pure 2 34 (.slice none 0 0) rfl (fun W => by rfl) hHeld ?_
  try simp only [Act.put, List.setIfInBounds_toArray, List.set_cons_zero, List.set_cons_succ]
  refine held_if 3 35 (.string (bsOf [])) rfl (fun w' h => by (have hc := run_convert_rb (l := []) 0 0 rfl w' (RB.nil w' 0 none); go_simp)) hHeld ?_
  try simp only [Act.put, List.setIfInBounds_toArray, List.set_cons_zero, List.set_cons_succ]
  refine held_pure 4 36 (.bool false) rfl (fun W => by go_simp) hHeld ?_
  try simp only [Act.put, List.setIfInBounds_toArray, List.set_cons_zero, List.set_cons_succ]
  refine held_pure 5 37 (.bool false) rfl (fun W => by rfl) hHeld ?_
  try simp only [Act.put, List.setIfInBounds_toArray, List.set_cons_zero, List.set_cons_succ]
  refine held_pure 6 38 (.bool false) rfl (fun W => by rfl) hHeld ?_
  try simp only [Act.put, List.setIfInBounds_toArray, List.set_cons_zero, List.set_cons_succ]
  refine held_pure 7 39 (.bool false) rfl (fun W => by rfl) hHeld ?_
  try simp only [Act.put, List.setIfInBounds_toArray, List.set_cons_zero, List.set_cons_succ]
  refine held_pure 8 40 (.bool false) rfl (fun W => by go_simp) hHeld ?_
  try simp only [Act.put, List.setIfInBounds_toArray, List.set_cons_zero, List.set_cons_succ]
  refine held_pure 9 41 (.bool false) rfl (fun W => by rfl) hHeld ?_
  try simp only [Act.put, List.setIfInBounds_toArray, List.set_cons_zero, List.set_cons_succ]
  refine held_pure 10 42 (.bool false) rfl (fun W => by rfl) hHeld ?_
  try simp only [Act.put, List.setIfInBounds_toArray, List.set_cons_zero, List.set_cons_succ]
  refine held_load 11 43 rfl 26 (.tmp 4) rfl w.heap.size 0 rfl (voteL a) (fun w' h => HA2 _ h) Try.underlying26 vote_size hHeld ?_
  try simp only [Act.put, List.setIfInBounds_toArray, List.set_cons_zero, List.set_cons_succ]
  refine held_load 13 45 rfl 26 (.tmp 4) rfl w.heap.size 0 rfl (voteL a) (fun w' h => HA2 _ h) Try.underlying26 vote_size hHeld ?_
  try simp only [Act.put, List.setIfInBounds_toArray, List.set_cons_zero, List.set_cons_succ]
  refine held_one (i := 12) (by kernel_rfl) rfl (by rfl) (fun KK hK => ?_)
  go_wp2_with fail
  refine (coName a ha na HNA _).mono ?_
  rintro e w3 ⟨rfl, hb⟩
  go_wp2_with fail
  refine hK.out _ _ (hHeld.trans (hb.mono hHeld.size)) (fun hHeld1 => ?_)
  clear hK KK
  try simp only [Act.put, List.setIfInBounds_toArray, List.set_cons_zero, List.set_cons_succ]
  refine held_one (i := 14) (by kernel_rfl) rfl (by rfl) (fun KK hK => ?_)
  go_wp2_with fail
  refine (rfName a ha na HNA _).mono ?_
  rintro e w4 ⟨rfl, hb⟩
  go_wp2_with fail
  refine hK.out _ _ (hHeld1.trans (hb.mono hHeld1.size)) (fun hHeld2 => ?_)
  clear hK KK
  try simp only [Act.put, List.setIfInBounds_toArray, List.set_cons_zero, List.set_cons_succ]
  refine held_pure 15 47 (.bool false) rfl (fun W => by go_simp) hHeld2 ?_
  try simp only [Act.put, List.setIfInBounds_toArray, List.set_cons_zero, List.set_cons_succ]
  refine held_pure 16 48 (.bool false) rfl (fun W => by rfl) hHeld2 ?_
  try simp only [Act.put, List.setIfInBounds_toArray, List.set_cons_zero, List.set_cons_succ]
  refine wpAnyH_done (by kernel_rfl) ?_ _
  try simp only [Act.put, List.setIfInBounds_toArray, List.set_cons_zero, List.set_cons_succ]
  have hB4 := hB2.trans (Below.mono hHeld2 hB2.size)
  have hW4 := hW2.next hHeld2
  go_wp2_with fail
  refine (coDec _ lb u2 k2 hd2 _ hW4).mono ?_
  rintro e w5 ⟨rfl, hb5⟩
  have hB5 := Below.trans hB4 (hb5.mono (Below.size hB4))
  have hI6 : Is (w5.alloc (.cells #[.int .i64 0, .int .i64 0, .int .i64 0, .int .i64 0, .int .i64 0, .int .i64 0, .int .u8 0, .int .u8 0, .int .u8 0, .int .u8 0, .int .u8 0, .int .u8 0, .int .u8 0, .int .u8 0, .int .u8 0, .int .u8 0, .int .u8 0, .int .u8 0, .int .u8 0, .int .u8 0, .int .u8 0, .int .u8 0] 26)) w5.heap.size 26 (voteC ⟨0, 0, 0, 0, 0, 0, 0, 0⟩) := Is.new w5 26 (voteC ⟨0, 0, 0, 0, 0, 0, 0, 0⟩)
  go_wp2_with (first | (refine wpList_store_is rfl 26 (.tmp 18) (.tmp 87) rfl w5.heap.size 26 _ (voteL u2).toArray rfl rfl hI6 rfl vote_size (voteC_one u2) ?_; intro w6 hs6 hb6; have hbb6 := ((Below.refl w5.heap.size w5).alloc (Nat.le_refl _) (.cells #[.int .i64 0, .int .i64 0, .int .i64 0, .int .i64 0, .int .i64 0, .int .i64 0, .int .u8 0, .int .u8 0, .int .u8 0, .int .u8 0, .int .u8 0, .int .u8 0, .int .u8 0, .int .u8 0, .int .u8 0, .int .u8 0, .int .u8 0, .int .u8 0, .int .u8 0, .int .u8 0, .int .u8 0, .int .u8 0] 26)).trans hb6; have hB6 := Below.trans hB5 (hbb6.mono (Below.size hB5)); have HX1 := vote_later (a := u2) hs6; have hWX := (hW4.next hb5).next hbb6) | fail)
  clear hI6 hb6
  refine (rfDec _ lb u2 k2 hd2 _ hWX).mono ?_
  rintro e w7 ⟨rfl, hb7⟩
  have hB7 := Below.trans hB6 (hb7.mono (Below.size hB6))
  have hI8 : Is (w7.alloc (.cells #[.int .i64 0, .int .i64 0, .int .i64 0, .int .i64 0, .int .i64 0, .int .i64 0, .int .u8 0, .int .u8 0, .int .u8 0, .int .u8 0, .int .u8 0, .int .u8 0, .int .u8 0, .int .u8 0, .int .u8 0, .int .u8 0, .int .u8 0, .int .u8 0, .int .u8 0, .int .u8 0, .int .u8 0, .int .u8 0] 26)) w7.heap.size 26 (voteC ⟨0, 0, 0, 0, 0, 0, 0, 0⟩) := Is.new w7 26 (voteC ⟨0, 0, 0, 0, 0, 0, 0, 0⟩)
  go_wp2_with (first | (refine wpList_store_is rfl 26 (.tmp 20) (.tmp 92) rfl w7.heap.size 26 _ (voteL u2).toArray rfl rfl hI8 rfl vote_size (voteC_one u2) ?_; intro w8 hs8 hb8; have hbb8 := ((Below.refl w7.heap.size w7).alloc (Nat.le_refl _) (.cells #[.int .i64 0, .int .i64 0, .int .i64 0, .int .i64 0, .int .i64 0, .int .i64 0, .int .u8 0, .int .u8 0, .int .u8 0, .int .u8 0, .int .u8 0, .int .u8 0, .int .u8 0, .int .u8 0, .int .u8 0, .int .u8 0, .int .u8 0, .int .u8 0, .int .u8 0, .int .u8 0, .int .u8 0, .int .u8 0] 26)).trans hb8; have hB8 := Below.trans hB7 (hbb8.mono (Below.size hB7)); have HX2 := vote_later (a := u2) hs8; have HX3 := hb7.trans (hbb8.mono hb7.size)) | (refine wpList_load_w (by rfl) 26 (.tmp 18) rfl w5.heap.size 0 (by rfl) (voteL u2) _ (HX1 _ HX3) Try.underlying26 rfl vote_size ?_) | (refine wpList_load_w (by rfl) 26 (.tmp 20) rfl w7.heap.size 0 (by rfl) (voteL u2) _ (HX2 _ (Below.refl _ _)) Try.underlying26 rfl vote_size ?_) | fail)
  clear hI8 hb8
  refine (awake_any _).mono ?_
  rintro e w9 ⟨rfl, hb9⟩
  have hB9 := Below.trans hB8 (hb9.mono (Below.size hB8))
  go_wp2_with fail
  go_ret
  exact ⟨rfl, hF.1.trans (Below.mono hB9 (by have := hF.2; omega))⟩

theorem walk (w : World) (a : VoteV) (vb : Value) (lb : List UInt8) (at_ : Int) (by_ : UInt8) (ha : a.I) (h : VB w vb lb) (_hl : lb.length ≤ 140737488351232) (hat : I64 at_) : Calls Try.prog 4 #[vV a, vb, .int .i64 at_, B by_] w fun e w' => e = .returned (.bool true) ∧ Below w.heap.size w w' := by
  have hE : ∀ u : VoteV, vtEq u u = true := fun u => decide_eq_true rfl
  cases h1 : validF a
  · exact walk_f w a vb lb at_ by_ ha h hat (Lib.hid h1) _ (Lib.hid rfl) (nmEq_self _) _ _ (Lib.hid rfl) (hE _)
  · exact walk_t w a vb lb at_ by_ ha h hat (Lib.hid h1) _ (Lib.hid rfl) (Lib.hid (encF_len a)) _ (Lib.hid rfl) (nmEq_self _) _ _ (Lib.hid rfl) (hE _) (fun l => ⟨_, _, Lib.hid rfl, hE _⟩)

set_option maxRecDepth 100000 in
/-- The law's step, at every reading. -/
theorem lifted (os : Os) (started : os.Started) (H : Type) (enc : TypeId × Value → H) :
    ReturnsInHanded {} Try.checked os 4 .any (Rows.voteCodesSpec.pre6 enc Try.prog Try.f4 Rows.voteCodesRow.domain false) (Rows.voteCodesSpec.post enc Try.prog Try.f4 false true false false) := by
  refine law_lifted (C := Try.checked) (n := 4) (tb := 4) own started (by kernel_rfl) Try.func4 rfl (by kernel_rfl)
    (of_decide_eq_true (by kernel_rfl)) (by kernel_rfl) (by kernel_rfl) Try.underlying4
    (fun ds hd => by match ds, hd with | [_, _, _, _], _ => rfl)
    (ChangeSpec.witness6 (enc := enc) (C := Try.checked) false ⟨#[], #[.agg #[.int .i64 0, .int .i64 0, .int .i64 0, .int .i64 0, .int .i64 0, .int .i64 0, .int .u8 0, .int .u8 0, .int .u8 0, .int .u8 0, .int .u8 0, .int .u8 0, .int .u8 0, .int .u8 0, .int .u8 0, .int .u8 0, .int .u8 0, .int .u8 0, .int .u8 0, .int .u8 0, .int .u8 0, .int .u8 0], .slice none 0 0, .int .i64 0, .int .u8 0], []⟩ 8 (by kernel_rfl) (by kernel_rfl) (by kernel_rfl) (by kernel_rfl)) ?_
  intro W base args ds ps hval hA hlt hsz
  rw [Try.params4] at hA hval
  obtain ⟨v0, vs0, d0, ds0, p0, q0, hargs, rfl, rfl, h0, r0⟩ := trodAll_cons hA
  obtain ⟨v1, vs1, d1, ds1, p1, q1, rfl, rfl, rfl, h1, r1⟩ := trodAll_cons r0
  obtain ⟨v2, vs2, d2, ds2, p2, q2, rfl, rfl, rfl, h2, r2⟩ := trodAll_cons r1
  obtain ⟨v3, vs3, d3, ds3, p3, q3, rfl, rfl, rfl, h3, r3⟩ := trodAll_cons r2
  obtain ⟨rfl, rfl, rfl⟩ := trodAll_nil r3
  obtain rfl : args = #[v0, v1, v2, v3] := by cases args; simp_all
  obtain ⟨x0, rfl, hx0⟩ := open_vote (hval 0 _ v0 rfl rfl) h0 (fun x hx => hlt x (by simp [hx])) hsz (j := 0) (by rw [Try.params4]; rfl) rfl
  obtain ⟨A1, l1, c1, rfl, hc1, hm1, hr1⟩ := open_bytes Try.underlying29 Try.underlying5 cells1 bytes1 (hval 1 _ v1 rfl rfl) h1 (fun x hx => hlt x (by simp [hx])) hsz (j := 1) (by rw [Try.params4]; rfl) rfl
  obtain ⟨x2, rfl, rfl, rfl, wn2⟩ := open_int Try.underlying3 (hval 2 _ v2 rfl rfl) h2
  obtain ⟨x3, rfl, rfl, rfl⟩ := open_byte Try.underlying5 (hval 3 _ v3 rfl rfl) h3
  exact walk W x0 _ l1 x2 x3 hx0 (VB.mk hr1 hc1 hm1) (by omega) (bounds_i64 wn2)

theorem proved : Rows.VoteCodesSaid :=
  OpenClaim.holds_of_wide 4 Try.f4 rfl rfl rfl rfl rfl rfl rfl ⟨rfl, rfl, rfl, rfl, rfl⟩ rfl rfl rfl rfl rfl (by kernel_rfl) Try.func4 (by kernel_rfl)
    (of_decide_eq_true (by kernel_rfl)) (by unfold Func.isWrapper; first | (rw [if_pos (by decide +kernel)]; kernel_rfl) | (rw [if_neg (by decide +kernel)]; exact ⟨rfl, rfl⟩))
    (fun os started H enc _ => lifted os started H enc)
#print axioms proved
end Go.Proofs.Ytpnmmfacnflngaa.voteCodes
