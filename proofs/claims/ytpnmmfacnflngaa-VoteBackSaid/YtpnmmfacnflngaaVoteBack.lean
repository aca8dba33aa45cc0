/-
  The statement VoteBack, proved for every vote and all bytes, with no condition: a valid vote is decoded as it was encoded, and bytes that are decoded are the encoding of the vote.
-/
import Derived.Test.YtpnmmfacnflngaaLaw7A
import Derived.Test.YtpnmmfacnflngaaHTag
namespace Go.Proofs.Ytpnmmfacnflngaa.voteBack
open Go.ChangeShapes Go.WideShapes Go.ChangeAt Go.RowKit Go.Fl

attribute [local go_sem] equal_nm eqGuard_nm eqGuard_vote
attribute [local go_sem high] equal_voteL

set_option maxRecDepth 10000 in
set_option maxHeartbeats 1000000 in
theorem walk_tz (w : World) (a : VoteV) (vb : Value) (lb : List UInt8) (ha : a.I) (h : VB w vb lb) (hva : Hid (validF a = true)) (la : List UInt8) (HLA : Hid (encF a = la)) (HLLA : Hid (la.length = 23)) (na : BitVec 64) (HNA : Hid (vnameF a = na)) (HTA : Hid (sumF (64 :: la) = na)) (hd1 : Hid (decF la = (a, 0))) (hE : vtEq a a = true) (hnn : nmEq na na = true) (u : VoteV) (hu : u.I) (k : Int) (hd2 : Hid (decF lb = (u, k))) (hk : k = 0) (hvu : Hid (validF u = true)) (HLB : Hid (encF u = lb)) :
    Calls Try.prog 5 #[vV a, vb] w fun e w' => e = .returned (.bool true) ∧ Below w.heap.size w w' := by
  obtain ⟨hIa, hF⟩ := oneW_facts w a
  have HA := vote_later hIa
  have hB0 := Below.refl (oneW w a).heap.size (oneW w a)
  clear hIa
  subst hk
  obtain ⟨Ab, nbb, cb, rfl, HNb, hcb, hmb, HRb0⟩ := h.form_n
  have hW := h.next hF.1
  clear h HRb0
  go_enter Try.func5, Try.ntmps5
  go_wp2_with (first | (refine wpList_load_w (by rfl) 26 (.tmp 2) rfl w.heap.size 0 (by rfl) (voteL a) _ (HA _ hB0) Try.underlying26 rfl vote_size ?_) | fail)
  refine (coEncYes a ha hva la HLA _).mono ?_
  rintro e w1 ⟨u1, rfl, ho1, hb1⟩
  have hv1 := ho1.vb
  obtain ⟨A1, n1, c1, rfl, HN1, hc1, hm1, HR1⟩ := ho1.form_n
  have hn1 := HN1.out
  rw [HLLA.out] at hn1
  subst hn1
  clear ho1
  have hB1 := Below.trans hB0 (hb1.mono (Below.size hB0))
  go_wp2_with (first | (refine wpList_load_w (by rfl) 26 (.tmp 2) rfl w.heap.size 0 (by rfl) (voteL a) _ (HA _ hB1) Try.underlying26 rfl vote_size ?_) | fail)
  refine (coValid a ha true hva _).mono ?_
  rintro e w2 ⟨rfl, hb2⟩
  have hB2 := Below.trans hB1 (hb2.mono (Below.size hB1))
  go_wp2_with (first | (refine wpList_load_w (by rfl) 26 (.tmp 2) rfl w.heap.size 0 (by rfl) (voteL a) _ (HA _ hB2) Try.underlying26 rfl vote_size ?_) | fail)
  refine (coDec (.slice A1 23 c1) la a 0 hd1 _ (hv1.next hb2)).mono ?_
  rintro e w3 ⟨rfl, hb3⟩
  have hB3 := Below.trans hB2 (hb3.mono (Below.size hB2))
  have HR4 : Hid (RB w3 w3.heap.size A1 la) := Lib.hid ((HR1.out.keep (hb2.trans (hb3.mono hb2.size))).mono (by have := hb2.size; have := hb3.size; omega))
  have hI4 : Is (w3.alloc (.cells #[.int .i64 0, .int .i64 0, .int .i64 0, .int .i64 0, .int .i64 0, .int .i64 0, .int .u8 0, .int .u8 0, .int .u8 0, .int .u8 0, .int .u8 0, .int .u8 0, .int .u8 0, .int .u8 0, .int .u8 0, .int .u8 0, .int .u8 0, .int .u8 0, .int .u8 0, .int .u8 0, .int .u8 0, .int .u8 0] 26)) w3.heap.size 26 (voteC ⟨0, 0, 0, 0, 0, 0, 0, 0⟩) := Is.new w3 26 (voteC ⟨0, 0, 0, 0, 0, 0, 0, 0⟩)
  go_wp2_with (first | (refine wpList_store_is rfl 26 (.tmp 7) (.tmp 26) rfl w3.heap.size 26 _ (voteL a).toArray rfl rfl hI4 rfl vote_size (voteC_one a) ?_; intro w4 hs4 hb4; have hbb4 := ((Below.refl w3.heap.size w3).alloc (Nat.le_refl _) (.cells #[.int .i64 0, .int .i64 0, .int .i64 0, .int .i64 0, .int .i64 0, .int .i64 0, .int .u8 0, .int .u8 0, .int .u8 0, .int .u8 0, .int .u8 0, .int .u8 0, .int .u8 0, .int .u8 0, .int .u8 0, .int .u8 0, .int .u8 0, .int .u8 0, .int .u8 0, .int .u8 0, .int .u8 0, .int .u8 0] 26)).trans hb4; have hB4 := Below.trans hB3 (hbb4.mono (Below.size hB3)); have HD := vote_later (a := a) hs4; have HR5 := Lib.hid ((HR4.out.keep hbb4).mono hbb4.size)) | (refine wpList_load_w (by rfl) 26 (.tmp 7) rfl w3.heap.size 0 (by rfl) (voteL a) _ (HD _ (Below.refl _ _)) Try.underlying26 rfl vote_size ?_) | (refine wpList_load_w (by rfl) 26 (.tmp 2) rfl w.heap.size 0 (by rfl) (voteL a) _ (HA _ hB4) Try.underlying26 rfl vote_size ?_) | fail)
  clear hI4 hb4
  refine (coName a ha na HNA _).mono ?_
  rintro e w5 ⟨rfl, hb5⟩
  have hB5 := Below.trans hB4 (hb5.mono (Below.size hB4))
  go_wp2_with (first | (refine wpList_load_w (by rfl) 26 (.tmp 2) rfl w.heap.size 0 (by rfl) (voteL a) _ (HA _ hB5) Try.underlying26 rfl vote_size ?_) | fail)
  refine (tagged_nw 64 A1 la 23 c1 HN1.out HTA hc1 (by have := HLLA.out; omega) hm1 _ ((HR5.out.keep hb5).mono (Below.size hb5))).mono ?_
  rintro e w6 ⟨rfl, hb6⟩
  have hB6 := Below.trans hB5 (hb6.mono (Below.size hB5))
  go_wp2_with (first | (refine wpList_load_w (by rfl) 26 (.tmp 2) rfl w.heap.size 0 (by rfl) (voteL a) _ (HA _ hB6) Try.underlying26 rfl vote_size ?_) | fail)
  refine (coDec _ lb u 0 hd2 _ (hW.next hB6)).mono ?_
  rintro e w7 ⟨rfl, hb7⟩
  have hB7 := Below.trans hB6 (hb7.mono (Below.size hB6))
  have hI8 : Is (w7.alloc (.cells #[.int .i64 0, .int .i64 0, .int .i64 0, .int .i64 0, .int .i64 0, .int .i64 0, .int .u8 0, .int .u8 0, .int .u8 0, .int .u8 0, .int .u8 0, .int .u8 0, .int .u8 0, .int .u8 0, .int .u8 0, .int .u8 0, .int .u8 0, .int .u8 0, .int .u8 0, .int .u8 0, .int .u8 0, .int .u8 0] 26)) w7.heap.size 26 (voteC ⟨0, 0, 0, 0, 0, 0, 0, 0⟩) := Is.new w7 26 (voteC ⟨0, 0, 0, 0, 0, 0, 0, 0⟩)
  go_wp2_with (first | (refine wpList_store_is rfl 26 (.tmp 9) (.tmp 50) rfl w7.heap.size 26 _ (voteL u).toArray rfl rfl hI8 rfl vote_size (voteC_one u) ?_; intro w8 hs8 hb8; have hbb8 := ((Below.refl w7.heap.size w7).alloc (Nat.le_refl _) (.cells #[.int .i64 0, .int .i64 0, .int .i64 0, .int .i64 0, .int .i64 0, .int .i64 0, .int .u8 0, .int .u8 0, .int .u8 0, .int .u8 0, .int .u8 0, .int .u8 0, .int .u8 0, .int .u8 0, .int .u8 0, .int .u8 0, .int .u8 0, .int .u8 0, .int .u8 0, .int .u8 0, .int .u8 0, .int .u8 0] 26)).trans hb8; have hB8 := Below.trans hB7 (hbb8.mono (Below.size hB7)); have HU := vote_later (a := u) hs8) | (refine wpList_load_w (by rfl) 26 (.tmp 9) rfl w7.heap.size 0 (by rfl) (voteL u) _ (HU _ (Below.refl _ _)) Try.underlying26 rfl vote_size ?_) | fail)
  clear hI8 hb8
  refine (coEncYes u hu hvu lb HLB _).mono ?_
  rintro e w9 ⟨ud, rfl, hod, hb9⟩
  have hB9 := Below.trans hB8 (hb9.mono (Below.size hB8))
  obtain ⟨Ad, nd, cd, rfl, HNd, hcd, hmd, HRd⟩ := hod.form_n
  obtain ⟨Ab2, nb2, cb2, eb2, HNb2, -, -, HRb⟩ := (hW.next hB9).form_n
  cases eb2
  have hcv1 := run_convert_rb nd cd HNd.out w9 HRd.out
  have hcv2 := run_convert_rb nbb cb HNb.out w9 HRb.out
  go_wp2_with (first | fail)
  refine (awake_any _).mono ?_
  rintro e w10 ⟨rfl, hb10⟩
  have hB10 := Below.trans hB9 (hb10.mono (Below.size hB9))
  go_wp2_with (first | fail)
  go_ret
  exact ⟨rfl, hF.1.trans (Below.mono hB10 (by have := hF.2; omega))⟩

set_option maxRecDepth 10000 in
set_option maxHeartbeats 1000000 in
theorem walk_tn (w : World) (a : VoteV) (vb : Value) (lb : List UInt8) (ha : a.I) (h : VB w vb lb) (hva : Hid (validF a = true)) (la : List UInt8) (HLA : Hid (encF a = la)) (HLLA : Hid (la.length = 23)) (na : BitVec 64) (HNA : Hid (vnameF a = na)) (HTA : Hid (sumF (64 :: la) = na)) (hd1 : Hid (decF la = (a, 0))) (hE : vtEq a a = true) (hnn : nmEq na na = true) (u : VoteV) (_hu : u.I) (k : Int) (hd2 : Hid (decF lb = (u, k))) (hk0 : (k == 0) = false) (_hk1 : decide (k = 0) = false) :
    Calls Try.prog 5 #[vV a, vb] w fun e w' => e = .returned (.bool true) ∧ Below w.heap.size w w' := by
  obtain ⟨hIa, hF⟩ := oneW_facts w a
  have HA := vote_later hIa
  have hB0 := Below.refl (oneW w a).heap.size (oneW w a)
  clear hIa
  obtain ⟨Ab, nbb, cb, rfl, HNb, hcb, hmb, HRb0⟩ := h.form_n
  have hW := h.next hF.1
  clear h HRb0
  go_enter Try.func5, Try.ntmps5
  go_wp2_with (first | (refine wpList_load_w (by rfl) 26 (.tmp 2) rfl w.heap.size 0 (by rfl) (voteL a) _ (HA _ hB0) Try.underlying26 rfl vote_size ?_) | fail)
  refine (coEncYes a ha hva la HLA _).mono ?_
  rintro e w1 ⟨u1, rfl, ho1, hb1⟩
  have hv1 := ho1.vb
  obtain ⟨A1, n1, c1, rfl, HN1, hc1, hm1, HR1⟩ := ho1.form_n
  have hn1 := HN1.out
  rw [HLLA.out] at hn1
  subst hn1
  clear ho1
  have hB1 := Below.trans hB0 (hb1.mono (Below.size hB0))
  go_wp2_with (first | (refine wpList_load_w (by rfl) 26 (.tmp 2) rfl w.heap.size 0 (by rfl) (voteL a) _ (HA _ hB1) Try.underlying26 rfl vote_size ?_) | fail)
  refine (coValid a ha true hva _).mono ?_
  rintro e w2 ⟨rfl, hb2⟩
  have hB2 := Below.trans hB1 (hb2.mono (Below.size hB1))
  go_wp2_with (first | (refine wpList_load_w (by rfl) 26 (.tmp 2) rfl w.heap.size 0 (by rfl) (voteL a) _ (HA _ hB2) Try.underlying26 rfl vote_size ?_) | fail)
  refine (coDec (.slice A1 23 c1) la a 0 hd1 _ (hv1.next hb2)).mono ?_
  rintro e w3 ⟨rfl, hb3⟩
  have hB3 := Below.trans hB2 (hb3.mono (Below.size hB2))
  have HR4 : Hid (RB w3 w3.heap.size A1 la) := Lib.hid ((HR1.out.keep (hb2.trans (hb3.mono hb2.size))).mono (by have := hb2.size; have := hb3.size; omega))
  have hI4 : Is (w3.alloc (.cells #[.int .i64 0, .int .i64 0, .int .i64 0, .int .i64 0, .int .i64 0, .int .i64 0, .int .u8 0, .int .u8 0, .int .u8 0, .int .u8 0, .int .u8 0, .int .u8 0, .int .u8 0, .int .u8 0, .int .u8 0, .int .u8 0, .int .u8 0, .int .u8 0, .int .u8 0, .int .u8 0, .int .u8 0, .int .u8 0] 26)) w3.heap.size 26 (voteC ⟨0, 0, 0, 0, 0, 0, 0, 0⟩) := Is.new w3 26 (voteC ⟨0, 0, 0, 0, 0, 0, 0, 0⟩)
  go_wp2_with (first | (refine wpList_store_is rfl 26 (.tmp 7) (.tmp 26) rfl w3.heap.size 26 _ (voteL a).toArray rfl rfl hI4 rfl vote_size (voteC_one a) ?_; intro w4 hs4 hb4; have hbb4 := ((Below.refl w3.heap.size w3).alloc (Nat.le_refl _) (.cells #[.int .i64 0, .int .i64 0, .int .i64 0, .int .i64 0, .int .i64 0, .int .i64 0, .int .u8 0, .int .u8 0, .int .u8 0, .int .u8 0, .int .u8 0, .int .u8 0, .int .u8 0, .int .u8 0, .int .u8 0, .int .u8 0, .int .u8 0, .int .u8 0, .int .u8 0, .int .u8 0, .int .u8 0, .int .u8 0] 26)).trans hb4; have hB4 := Below.trans hB3 (hbb4.mono (Below.size hB3)); have HD := vote_later (a := a) hs4; have HR5 := Lib.hid ((HR4.out.keep hbb4).mono hbb4.size)) | (refine wpList_load_w (by rfl) 26 (.tmp 7) rfl w3.heap.size 0 (by rfl) (voteL a) _ (HD _ (Below.refl _ _)) Try.underlying26 rfl vote_size ?_) | (refine wpList_load_w (by rfl) 26 (.tmp 2) rfl w.heap.size 0 (by rfl) (voteL a) _ (HA _ hB4) Try.underlying26 rfl vote_size ?_) | fail)
  clear hI4 hb4
  refine (coName a ha na HNA _).mono ?_
  rintro e w5 ⟨rfl, hb5⟩
  have hB5 := Below.trans hB4 (hb5.mono (Below.size hB4))
  go_wp2_with (first | (refine wpList_load_w (by rfl) 26 (.tmp 2) rfl w.heap.size 0 (by rfl) (voteL a) _ (HA _ hB5) Try.underlying26 rfl vote_size ?_) | fail)
  refine (tagged_nw 64 A1 la 23 c1 HN1.out HTA hc1 (by have := HLLA.out; omega) hm1 _ ((HR5.out.keep hb5).mono (Below.size hb5))).mono ?_
  rintro e w6 ⟨rfl, hb6⟩
  have hB6 := Below.trans hB5 (hb6.mono (Below.size hB5))
  go_wp2_with (first | (refine wpList_load_w (by rfl) 26 (.tmp 2) rfl w.heap.size 0 (by rfl) (voteL a) _ (HA _ hB6) Try.underlying26 rfl vote_size ?_) | fail)
  refine (coDec _ lb u k hd2 _ (hW.next hB6)).mono ?_
  rintro e w7 ⟨rfl, hb7⟩
  have hB7 := Below.trans hB6 (hb7.mono (Below.size hB6))
  have hI8 : Is (w7.alloc (.cells #[.int .i64 0, .int .i64 0, .int .i64 0, .int .i64 0, .int .i64 0, .int .i64 0, .int .u8 0, .int .u8 0, .int .u8 0, .int .u8 0, .int .u8 0, .int .u8 0, .int .u8 0, .int .u8 0, .int .u8 0, .int .u8 0, .int .u8 0, .int .u8 0, .int .u8 0, .int .u8 0, .int .u8 0, .int .u8 0] 26)) w7.heap.size 26 (voteC ⟨0, 0, 0, 0, 0, 0, 0, 0⟩) := Is.new w7 26 (voteC ⟨0, 0, 0, 0, 0, 0, 0, 0⟩)
  go_wp2_with (first | (refine wpList_store_is rfl 26 (.tmp 9) (.tmp 50) rfl w7.heap.size 26 _ (voteL u).toArray rfl rfl hI8 rfl vote_size (voteC_one u) ?_; intro w8 hs8 hb8; have hbb8 := ((Below.refl w7.heap.size w7).alloc (Nat.le_refl _) (.cells #[.int .i64 0, .int .i64 0, .int .i64 0, .int .i64 0, .int .i64 0, .int .i64 0, .int .u8 0, .int .u8 0, .int .u8 0, .int .u8 0, .int .u8 0, .int .u8 0, .int .u8 0, .int .u8 0, .int .u8 0, .int .u8 0, .int .u8 0, .int .u8 0, .int .u8 0, .int .u8 0, .int .u8 0, .int .u8 0] 26)).trans hb8; have hB8 := Below.trans hB7 (hbb8.mono (Below.size hB7)); have HU := vote_later (a := u) hs8) | fail)
  clear hI8 hb8
  refine (awake_any _).mono ?_
  rintro e w9 ⟨rfl, hb9⟩
  have hB9 := Below.trans hB8 (hb9.mono (Below.size hB8))
  go_wp2_with (first | fail)
  go_ret
  exact ⟨rfl, hF.1.trans (Below.mono hB9 (by have := hF.2; omega))⟩

set_option maxRecDepth 10000 in
set_option maxHeartbeats 1000000 in
theorem walk_fz (w : World) (a : VoteV) (vb : Value) (lb : List UInt8) (ha : a.I) (h : VB w vb lb) (hva : Hid (validF a = false)) (u : VoteV) (hu : u.I) (k : Int) (hd2 : Hid (decF lb = (u, k))) (hk : k = 0) (hvu : Hid (validF u = true)) (HLB : Hid (encF u = lb)) :
    Calls Try.prog 5 #[vV a, vb] w fun e w' => e = .returned (.bool true) ∧ Below w.heap.size w w' := by
  obtain ⟨hIa, hF⟩ := oneW_facts w a
  have HA := vote_later hIa
  have hB0 := Below.refl (oneW w a).heap.size (oneW w a)
  clear hIa
  subst hk
  obtain ⟨Ab, nbb, cb, rfl, HNb, hcb, hmb, HRb0⟩ := h.form_n
  have hW := h.next hF.1
  clear h HRb0
  go_enter Try.func5, Try.ntmps5
  go_wp2_with (first | (refine wpList_load_w (by rfl) 26 (.tmp 2) rfl w.heap.size 0 (by rfl) (voteL a) _ (HA _ hB0) Try.underlying26 rfl vote_size ?_) | fail)
  refine (coEncNo a ha hva _).mono ?_
  rintro e w1 ⟨rfl, hb1⟩
  have hB1 := Below.trans hB0 (hb1.mono (Below.size hB0))
  go_wp2_with (first | (refine wpList_load_w (by rfl) 26 (.tmp 2) rfl w.heap.size 0 (by rfl) (voteL a) _ (HA _ hB1) Try.underlying26 rfl vote_size ?_) | fail)
  refine (coValid a ha false hva _).mono ?_
  rintro e w2 ⟨rfl, hb2⟩
  have hB2 := Below.trans hB1 (hb2.mono (Below.size hB1))
  go_wp2_with (first | (refine wpList_load_w (by rfl) 26 (.tmp 2) rfl w.heap.size 0 (by rfl) (voteL a) _ (HA _ hB2) Try.underlying26 rfl vote_size ?_) | fail)
  refine (coDec _ lb u 0 hd2 _ (hW.next hB2)).mono ?_
  rintro e w3 ⟨rfl, hb3⟩
  have hB3 := Below.trans hB2 (hb3.mono (Below.size hB2))
  have hI4 : Is (w3.alloc (.cells #[.int .i64 0, .int .i64 0, .int .i64 0, .int .i64 0, .int .i64 0, .int .i64 0, .int .u8 0, .int .u8 0, .int .u8 0, .int .u8 0, .int .u8 0, .int .u8 0, .int .u8 0, .int .u8 0, .int .u8 0, .int .u8 0, .int .u8 0, .int .u8 0, .int .u8 0, .int .u8 0, .int .u8 0, .int .u8 0] 26)) w3.heap.size 26 (voteC ⟨0, 0, 0, 0, 0, 0, 0, 0⟩) := Is.new w3 26 (voteC ⟨0, 0, 0, 0, 0, 0, 0, 0⟩)
  go_wp2_with (first | (refine wpList_store_is rfl 26 (.tmp 9) (.tmp 50) rfl w3.heap.size 26 _ (voteL u).toArray rfl rfl hI4 rfl vote_size (voteC_one u) ?_; intro w4 hs4 hb4; have hbb4 := ((Below.refl w3.heap.size w3).alloc (Nat.le_refl _) (.cells #[.int .i64 0, .int .i64 0, .int .i64 0, .int .i64 0, .int .i64 0, .int .i64 0, .int .u8 0, .int .u8 0, .int .u8 0, .int .u8 0, .int .u8 0, .int .u8 0, .int .u8 0, .int .u8 0, .int .u8 0, .int .u8 0, .int .u8 0, .int .u8 0, .int .u8 0, .int .u8 0, .int .u8 0, .int .u8 0] 26)).trans hb4; have hB4 := Below.trans hB3 (hbb4.mono (Below.size hB3)); have HU := vote_later (a := u) hs4) | (refine wpList_load_w (by rfl) 26 (.tmp 9) rfl w3.heap.size 0 (by rfl) (voteL u) _ (HU _ (Below.refl _ _)) Try.underlying26 rfl vote_size ?_) | fail)
  clear hI4 hb4
  refine (coEncYes u hu hvu lb HLB _).mono ?_
  rintro e w5 ⟨ud, rfl, hod, hb5⟩
  have hB5 := Below.trans hB4 (hb5.mono (Below.size hB4))
  obtain ⟨Ad, nd, cd, rfl, HNd, hcd, hmd, HRd⟩ := hod.form_n
  obtain ⟨Ab2, nb2, cb2, eb2, HNb2, -, -, HRb⟩ := (hW.next hB5).form_n
  cases eb2
  have hcv1 := run_convert_rb nd cd HNd.out w5 HRd.out
  have hcv2 := run_convert_rb nbb cb HNb.out w5 HRb.out
  go_wp2_with (first | fail)
  refine (awake_any _).mono ?_
  rintro e w6 ⟨rfl, hb6⟩
  have hB6 := Below.trans hB5 (hb6.mono (Below.size hB5))
  go_wp2_with (first | fail)
  go_ret
  exact ⟨rfl, hF.1.trans (Below.mono hB6 (by have := hF.2; omega))⟩

set_option maxRecDepth 10000 in
set_option maxHeartbeats 1000000 in
theorem walk_fn (w : World) (a : VoteV) (vb : Value) (lb : List UInt8) (ha : a.I) (h : VB w vb lb) (hva : Hid (validF a = false)) (u : VoteV) (_hu : u.I) (k : Int) (hd2 : Hid (decF lb = (u, k))) (hk0 : (k == 0) = false) (_hk1 : decide (k = 0) = false) :
    Calls Try.prog 5 #[vV a, vb] w fun e w' => e = .returned (.bool true) ∧ Below w.heap.size w w' := by
  obtain ⟨hIa, hF⟩ := oneW_facts w a
  have HA := vote_later hIa
  have hB0 := Below.refl (oneW w a).heap.size (oneW w a)
  clear hIa
  obtain ⟨Ab, nbb, cb, rfl, HNb, hcb, hmb, HRb0⟩ := h.form_n
  have hW := h.next hF.1
  clear h HRb0
  go_enter Try.func5, Try.ntmps5
  go_wp2_with (first | (refine wpList_load_w (by rfl) 26 (.tmp 2) rfl w.heap.size 0 (by rfl) (voteL a) _ (HA _ hB0) Try.underlying26 rfl vote_size ?_) | fail)
  refine (coEncNo a ha hva _).mono ?_
  rintro e w1 ⟨rfl, hb1⟩
  have hB1 := Below.trans hB0 (hb1.mono (Below.size hB0))
  go_wp2_with (first | (refine wpList_load_w (by rfl) 26 (.tmp 2) rfl w.heap.size 0 (by rfl) (voteL a) _ (HA _ hB1) Try.underlying26 rfl vote_size ?_) | fail)
  refine (coValid a ha false hva _).mono ?_
  rintro e w2 ⟨rfl, hb2⟩
  have hB2 := Below.trans hB1 (hb2.mono (Below.size hB1))
  go_wp2_with (first | (refine wpList_load_w (by rfl) 26 (.tmp 2) rfl w.heap.size 0 (by rfl) (voteL a) _ (HA _ hB2) Try.underlying26 rfl vote_size ?_) | fail)
  refine (coDec _ lb u k hd2 _ (hW.next hB2)).mono ?_
  rintro e w3 ⟨rfl, hb3⟩
  have hB3 := Below.trans hB2 (hb3.mono (Below.size hB2))
  have hI4 : Is (w3.alloc (.cells #[.int .i64 0, .int .i64 0, .int .i64 0, .int .i64 0, .int .i64 0, .int .i64 0, .int .u8 0, .int .u8 0, .int .u8 0, .int .u8 0, .int .u8 0, .int .u8 0, .int .u8 0, .int .u8 0, .int .u8 0, .int .u8 0, .int .u8 0, .int .u8 0, .int .u8 0, .int .u8 0, .int .u8 0, .int .u8 0] 26)) w3.heap.size 26 (voteC ⟨0, 0, 0, 0, 0, 0, 0, 0⟩) := Is.new w3 26 (voteC ⟨0, 0, 0, 0, 0, 0, 0, 0⟩)
  go_wp2_with (first | (refine wpList_store_is rfl 26 (.tmp 9) (.tmp 50) rfl w3.heap.size 26 _ (voteL u).toArray rfl rfl hI4 rfl vote_size (voteC_one u) ?_; intro w4 hs4 hb4; have hbb4 := ((Below.refl w3.heap.size w3).alloc (Nat.le_refl _) (.cells #[.int .i64 0, .int .i64 0, .int .i64 0, .int .i64 0, .int .i64 0, .int .i64 0, .int .u8 0, .int .u8 0, .int .u8 0, .int .u8 0, .int .u8 0, .int .u8 0, .int .u8 0, .int .u8 0, .int .u8 0, .int .u8 0, .int .u8 0, .int .u8 0, .int .u8 0, .int .u8 0, .int .u8 0, .int .u8 0] 26)).trans hb4; have hB4 := Below.trans hB3 (hbb4.mono (Below.size hB3)); have HU := vote_later (a := u) hs4) | fail)
  clear hI4 hb4
  refine (awake_any _).mono ?_
  rintro e w5 ⟨rfl, hb5⟩
  have hB5 := Below.trans hB4 (hb5.mono (Below.size hB4))
  go_wp2_with (first | fail)
  go_ret
  exact ⟨rfl, hF.1.trans (Below.mono hB5 (by have := hF.2; omega))⟩

theorem walk (w : World) (a : VoteV) (vb : Value) (lb : List UInt8) (ha : a.I) (h : VB w vb lb) (_hl : lb.length ≤ 140737488351232) : Calls Try.prog 5 #[vV a, vb] w fun e w' => e = .returned (.bool true) ∧ Below w.heap.size w w' := by
  have yes : validF a = true → vnameF a = sumF (64 :: encF a) := fun h => if_pos h
  obtain ⟨⟨u, k⟩, hd⟩ : ∃ p, decF lb = p := ⟨_, rfl⟩
  have hu : u.I := by have := decF_I lb; rw [hd] at this; exact this
  by_cases hk : k = 0
  · have hok := decF_ok (l := lb) (by rw [hd]; exact hk)
    rw [hd] at hok
    cases h1 : validF a
    · exact walk_fz w a vb lb ha h (Lib.hid h1) u hu k (Lib.hid hd) hk (Lib.hid hok.1) (Lib.hid hok.2)
    · exact walk_tz w a vb lb ha h (Lib.hid h1) _ (Lib.hid rfl) (Lib.hid (encF_len a)) _ (Lib.hid rfl) (Lib.hid (yes h1).symm) (Lib.hid (decF_enc h1)) (decide_eq_true rfl) (nmEq_self _) u hu k (Lib.hid hd) hk (Lib.hid hok.1) (Lib.hid hok.2)
  · have hk0 : (k == 0) = false := by rw [beq_eq_false_iff_ne]; exact hk
    cases h1 : validF a
    · exact walk_fn w a vb lb ha h (Lib.hid h1) u hu k (Lib.hid hd) hk0 (decide_eq_false hk)
    · exact walk_tn w a vb lb ha h (Lib.hid h1) _ (Lib.hid rfl) (Lib.hid (encF_len a)) _ (Lib.hid rfl) (Lib.hid (yes h1).symm) (Lib.hid (decF_enc h1)) (decide_eq_true rfl) (nmEq_self _) u hu k (Lib.hid hd) hk0 (decide_eq_false hk)

set_option maxRecDepth 100000 in
/-- The law's step, at every reading. -/
theorem lifted (os : Os) (started : os.Started) (H : Type) (enc : TypeId × Value → H) :
    ReturnsInHanded {} Try.checked os 5 .any (Rows.voteBackSpec.pre6 enc Try.prog Try.f5 Rows.voteBackRow.domain false) (Rows.voteBackSpec.post enc Try.prog Try.f5 false true false false) := by
  refine law_lifted (C := Try.checked) (n := 2) (tb := 4) own started (by kernel_rfl) Try.func5 rfl (by kernel_rfl)
    (of_decide_eq_true (by kernel_rfl)) (by kernel_rfl) (by kernel_rfl) Try.underlying4
    (fun ds hd => by match ds, hd with | [_, _], _ => rfl)
    (ChangeSpec.witness6 (enc := enc) (C := Try.checked) false ⟨#[], #[.agg #[.int .i64 0, .int .i64 0, .int .i64 0, .int .i64 0, .int .i64 0, .int .i64 0, .int .u8 0, .int .u8 0, .int .u8 0, .int .u8 0, .int .u8 0, .int .u8 0, .int .u8 0, .int .u8 0, .int .u8 0, .int .u8 0, .int .u8 0, .int .u8 0, .int .u8 0, .int .u8 0, .int .u8 0, .int .u8 0], .slice none 0 0], []⟩ 8 (by kernel_rfl) (by kernel_rfl) (by kernel_rfl) (by kernel_rfl)) ?_
  intro W base args ds ps hval hA hlt hsz
  rw [Try.params5] at hA hval
  obtain ⟨v0, vs0, d0, ds0, p0, q0, hargs, rfl, rfl, h0, r0⟩ := trodAll_cons hA
  obtain ⟨v1, vs1, d1, ds1, p1, q1, rfl, rfl, rfl, h1, r1⟩ := trodAll_cons r0
  obtain ⟨rfl, rfl, rfl⟩ := trodAll_nil r1
  obtain rfl : args = #[v0, v1] := by cases args; simp_all
  obtain ⟨x0, rfl, hx0⟩ := open_vote (hval 0 _ v0 rfl rfl) h0 (fun x hx => hlt x (by simp [hx])) hsz (j := 0) (by rw [Try.params5]; rfl) rfl
  obtain ⟨A1, l1, c1, rfl, hc1, hm1, hr1⟩ := open_bytes Try.underlying29 Try.underlying5 cells1 bytes1 (hval 1 _ v1 rfl rfl) h1 (fun x hx => hlt x (by simp [hx])) hsz (j := 1) (by rw [Try.params5]; rfl) rfl
  exact walk W x0 _ l1 hx0 (VB.mk hr1 hc1 hm1) (by omega)

theorem proved : Rows.VoteBackSaid :=
  OpenClaim.holds_of_wide 5 Try.f5 rfl rfl rfl rfl rfl rfl rfl ⟨rfl, rfl, rfl, rfl, rfl⟩ rfl rfl rfl rfl rfl (by kernel_rfl) Try.func5 (by kernel_rfl)
    (of_decide_eq_true (by kernel_rfl)) (by unfold Func.isWrapper; first | (rw [if_pos (by decide +kernel)]; kernel_rfl) | (rw [if_neg (by decide +kernel)]; exact ⟨rfl, rfl⟩))
    (fun os started H enc _ => lifted os started H enc)
#print axioms proved
end Go.Proofs.Ytpnmmfacnflngaa.voteBack
