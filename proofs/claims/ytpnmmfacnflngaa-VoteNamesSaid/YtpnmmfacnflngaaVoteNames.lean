/-
  The statement VoteNames, proved for all votes, with no condition: two valid votes have one name only if their encodings are equal or their encodings have one hash.
-/
import Derived.Test.YtpnmmfacnflngaaLaw7A
import Derived.Test.YtpnmmfacnflngaaHTag
namespace Go.Proofs.Ytpnmmfacnflngaa.voteNames
open Go.ChangeShapes Go.WideShapes Go.ChangeAt Go.RowKit Go.Fl

attribute [local go_sem] equal_nm eqGuard_nm eqGuard_vote
attribute [local go_sem high] equal_voteL

theorem zero_nm (x : BitVec 64) (w : World) : (Op.equalIn 10000 24 (nm x) (.agg #[.int .u8 0, .int .u8 0, .int .u8 0, .int .u8 0, .int .u8 0, .int .u8 0, .int .u8 0, .int .u8 0])).run Try.prog w = .ok (nmEq x 0) w := equal_nm x 0 w
attribute [local go_sem high] zero_nm

set_option maxRecDepth 10000 in
set_option maxHeartbeats 1000000 in
theorem walk_tt (w : World) (a b : VoteV) (ha : a.I) (hb0 : b.I) (hva : Hid (validF a = true)) (hvb : Hid (validF b = true)) (la : List UInt8) (HLA : Hid (encF a = la)) (HLLA : Hid (la.length = 23)) (na : BitVec 64) (HNA : Hid (vnameF a = na)) (HTA : Hid (sumF (64 :: la) = na)) (lb : List UInt8) (HLB : Hid (encF b = lb)) (HLLB : Hid (lb.length = 23)) (nb_ : BitVec 64) (HNB : Hid (vnameF b = nb_)) (HTB : Hid (sumF (64 :: lb) = nb_)) (E : Bool) (hE : vtEq a b = E) (hE1 : ((bsOf la).toList == (bsOf lb).toList) = E) :
    Calls Try.prog 9 #[vV a, vV b] w fun e w' => e = .returned (.bool true) ∧ Below w.heap.size w w' := by
  obtain ⟨hIa, hIb, hF⟩ := twoW_facts w a b
  have HA := vote_later hIa
  have HB := vote_later hIb
  have hB0 := Below.refl (twoW w a b).heap.size (twoW w a b)
  clear hIa hIb
  go_enter Try.func9, Try.ntmps9
  go_wp2_with (first | (refine wpList_load_w (by rfl) 26 (.tmp 2) rfl w.heap.size 0 (by rfl) (voteL a) _ (HA _ hB0) Try.underlying26 rfl vote_size ?_) | (refine wpList_load_w (by rfl) 26 (.tmp 3) rfl (w.heap.size + 1) 0 (by rfl) (voteL b) _ (HB _ hB0) Try.underlying26 rfl vote_size ?_) | fail)
  refine (coEncYes a ha hva la HLA _).mono ?_
  rintro e w1 ⟨u1, rfl, ho1, hb1⟩
  have hv1 := ho1.vb
  obtain ⟨A1, n1, c1, rfl, HN1, hc1, hm1, HR1⟩ := ho1.form_n
  have hn1 := HN1.out
  rw [HLLA.out] at hn1
  subst hn1
  clear ho1
  have hB1 := Below.trans hB0 (hb1.mono (Below.size hB0))
  go_wp2_with (first | (refine wpList_load_w (by rfl) 26 (.tmp 2) rfl w.heap.size 0 (by rfl) (voteL a) _ (HA _ hB1) Try.underlying26 rfl vote_size ?_) | (refine wpList_load_w (by rfl) 26 (.tmp 3) rfl (w.heap.size + 1) 0 (by rfl) (voteL b) _ (HB _ hB1) Try.underlying26 rfl vote_size ?_) | fail)
  refine (coEncYes b hb0 hvb lb HLB _).mono ?_
  rintro e w2 ⟨u2, rfl, ho2, hb2⟩
  have hv2 := ho2.vb
  obtain ⟨A2, n2, c2, rfl, HN2, hc2, hm2, HR2⟩ := ho2.form_n
  have hn2 := HN2.out
  rw [HLLB.out] at hn2
  subst hn2
  clear ho2
  have hB2 := Below.trans hB1 (hb2.mono (Below.size hB1))
  go_wp2_with (first | (refine wpList_load_w (by rfl) 26 (.tmp 2) rfl w.heap.size 0 (by rfl) (voteL a) _ (HA _ hB2) Try.underlying26 rfl vote_size ?_) | (refine wpList_load_w (by rfl) 26 (.tmp 3) rfl (w.heap.size + 1) 0 (by rfl) (voteL b) _ (HB _ hB2) Try.underlying26 rfl vote_size ?_) | fail)
  have HA2 : ∀ w' : World, Below w2.heap.size w2 w' → w'.rangeAt w.heap.size 0 (voteL a) := fun w' h => HA w' (hB2.trans (h.mono hB2.size))
  have HB2 : ∀ w' : World, Below w2.heap.size w2 w' → w'.rangeAt (w.heap.size + 1) 0 (voteL b) := fun w' h => HB w' (hB2.trans (h.mono hB2.size))
  have HR1 := Lib.hid ((HR1.out.keep hb2).mono hb2.size)
  clear HA HB hv1 hv2
  refine wp_region_held_drew (S := fun w' => Below w2.heap.size w2 w') (by kernel_rfl) (Below.refl _ _).drew (fun hHeld => ?_)
  refine held_load 0 44 rfl 26 (.tmp 2) rfl w.heap.size 0 rfl (voteL a) (fun w' h => HA2 _ h) Try.underlying26 vote_size hHeld ?_
  try simp only [Act.put, List.setIfInBounds_toArray, List.set_cons_zero, List.set_cons_succ]
  refine held_load 2 46 rfl 26 (.tmp 3) rfl (w.heap.size + 1) 0 rfl (voteL b) (fun w' h => HB2 _ h) Try.underlying26 vote_size hHeld ?_
  try simp only [Act.put, List.setIfInBounds_toArray, List.set_cons_zero, List.set_cons_succ]
  refine held_pure 5 49 (.slice A1 23 c1) rfl (fun W => by rfl) hHeld ?_
  try simp only [Act.put, List.setIfInBounds_toArray, List.set_cons_zero, List.set_cons_succ]
  refine held_pure 7 51 (.slice A2 23 c2) rfl (fun W => by rfl) hHeld ?_
  try simp only [Act.put, List.setIfInBounds_toArray, List.set_cons_zero, List.set_cons_succ]
  refine held_one (i := 1) (by kernel_rfl) rfl (by rfl) (fun KK hK => ?_)
  go_wp2_with fail
  refine (coName a ha na HNA _).mono ?_
  rintro e w3 ⟨rfl, hb⟩
  go_wp2_with fail
  refine hK.out _ _ (hHeld.trans (hb.mono hHeld.size)) (fun hHeld1 => ?_)
  clear hK KK
  try simp only [Act.put, List.setIfInBounds_toArray, List.set_cons_zero, List.set_cons_succ]
  refine held_one (i := 3) (by kernel_rfl) rfl (by rfl) (fun KK hK => ?_)
  go_wp2_with fail
  refine (coName b hb0 nb_ HNB _).mono ?_
  rintro e w4 ⟨rfl, hb⟩
  go_wp2_with fail
  refine hK.out _ _ (hHeld1.trans (hb.mono hHeld1.size)) (fun hHeld2 => ?_)
  clear hK KK
  try simp only [Act.put, List.setIfInBounds_toArray, List.set_cons_zero, List.set_cons_succ]
  refine held_pure 4 48 (.bool (nmEq na nb_)) rfl (fun W => by go_simp) hHeld2 ?_
  try simp only [Act.put, List.setIfInBounds_toArray, List.set_cons_zero, List.set_cons_succ]
  refine held_one (i := 6) (by kernel_rfl) rfl (by rfl) (fun KK hK => ?_)
  go_wp2_with fail
  refine (tagged_nw 64 A1 la 23 c1 HN1.out HTA hc1 (by have := HLLA.out; omega) hm1 _ ((HR1.out.keep hHeld2).mono (Below.size hHeld2))).mono ?_
  rintro e w5 ⟨rfl, hb⟩
  go_wp2_with fail
  refine hK.out _ _ (hHeld2.trans (hb.mono hHeld2.size)) (fun hHeld3 => ?_)
  clear hK KK
  try simp only [Act.put, List.setIfInBounds_toArray, List.set_cons_zero, List.set_cons_succ]
  refine held_one (i := 8) (by kernel_rfl) rfl (by rfl) (fun KK hK => ?_)
  go_wp2_with fail
  refine (tagged_nw 64 A2 lb 23 c2 HN2.out HTB hc2 (by have := HLLB.out; omega) hm2 _ ((HR2.out.keep hHeld3).mono (Below.size hHeld3))).mono ?_
  rintro e w6 ⟨rfl, hb⟩
  go_wp2_with fail
  refine hK.out _ _ (hHeld3.trans (hb.mono hHeld3.size)) (fun hHeld4 => ?_)
  clear hK KK
  try simp only [Act.put, List.setIfInBounds_toArray, List.set_cons_zero, List.set_cons_succ]
  refine held_pure 9 53 (.bool (nmEq na nb_)) rfl (fun W => by go_simp) hHeld4 ?_
  try simp only [Act.put, List.setIfInBounds_toArray, List.set_cons_zero, List.set_cons_succ]
  refine held_pure 10 54 (.bool true) rfl (fun W => by go_simp) hHeld4 ?_
  try simp only [Act.put, List.setIfInBounds_toArray, List.set_cons_zero, List.set_cons_succ]
  refine held_pure 11 55 (.bool true) rfl (fun W => by rfl) hHeld4 ?_
  try simp only [Act.put, List.setIfInBounds_toArray, List.set_cons_zero, List.set_cons_succ]
  refine held_load 12 56 rfl 26 (.tmp 2) rfl w.heap.size 0 rfl (voteL a) (fun w' h => HA2 _ h) Try.underlying26 vote_size hHeld4 ?_
  try simp only [Act.put, List.setIfInBounds_toArray, List.set_cons_zero, List.set_cons_succ]
  refine held_load 13 57 rfl 26 (.tmp 3) rfl (w.heap.size + 1) 0 rfl (voteL b) (fun w' h => HB2 _ h) Try.underlying26 vote_size hHeld4 ?_
  try simp only [Act.put, List.setIfInBounds_toArray, List.set_cons_zero, List.set_cons_succ]
  refine held_pure 14 58 (.bool E) rfl (fun W => by go_simp) hHeld4 ?_
  try simp only [Act.put, List.setIfInBounds_toArray, List.set_cons_zero, List.set_cons_succ]
  refine held_pure 15 59 (.slice A1 23 c1) rfl (fun W => by rfl) hHeld4 ?_
  try simp only [Act.put, List.setIfInBounds_toArray, List.set_cons_zero, List.set_cons_succ]
  refine held_if 16 60 (.string (bsOf la)) rfl (fun w' h => by (have hc := run_convert_rb 23 c1 HN1.out w' (HR1.out.keep h); go_simp)) hHeld4 ?_
  try simp only [Act.put, List.setIfInBounds_toArray, List.set_cons_zero, List.set_cons_succ]
  refine held_pure 17 61 (.slice A2 23 c2) rfl (fun W => by rfl) hHeld4 ?_
  try simp only [Act.put, List.setIfInBounds_toArray, List.set_cons_zero, List.set_cons_succ]
  refine held_if 18 62 (.string (bsOf lb)) rfl (fun w' h => by (have hc := run_convert_rb 23 c2 HN2.out w' (HR2.out.keep h); go_simp)) hHeld4 ?_
  try simp only [Act.put, List.setIfInBounds_toArray, List.set_cons_zero, List.set_cons_succ]
  refine held_pure 19 63 (.bool E) rfl (fun W => by go_simp) hHeld4 ?_
  try simp only [Act.put, List.setIfInBounds_toArray, List.set_cons_zero, List.set_cons_succ]
  refine held_pure 20 64 (.bool true) rfl (fun W => by go_simp) hHeld4 ?_
  try simp only [Act.put, List.setIfInBounds_toArray, List.set_cons_zero, List.set_cons_succ]
  refine held_pure 21 65 (.bool true) rfl (fun W => by rfl) hHeld4 ?_
  try simp only [Act.put, List.setIfInBounds_toArray, List.set_cons_zero, List.set_cons_succ]
  refine held_pure 22 66 (.bool true) rfl (fun W => by rfl) hHeld4 ?_
  try simp only [Act.put, List.setIfInBounds_toArray, List.set_cons_zero, List.set_cons_succ]
  refine held_one (i := 23) (by kernel_rfl) rfl (by rfl) (fun KK hK => ?_)
  go_wp2_with fail
  refine (awake_any _).mono ?_
  rintro e w7 ⟨rfl, hb⟩
  go_wp2_with fail
  refine hK.out _ _ (hHeld4.trans (hb.mono hHeld4.size)) (fun hHeld5 => ?_)
  clear hK KK
  try simp only [Act.put, List.setIfInBounds_toArray, List.set_cons_zero, List.set_cons_succ]
  refine held_pure 24 68 (.bool true) rfl (fun W => by rfl) hHeld5 ?_
  try simp only [Act.put, List.setIfInBounds_toArray, List.set_cons_zero, List.set_cons_succ]
  refine held_pure 25 4 (.bool true) rfl (fun W => by rfl) hHeld5 ?_
  try simp only [Act.put, List.setIfInBounds_toArray, List.set_cons_zero, List.set_cons_succ]
  refine wpAnyH_done (by kernel_rfl) ?_ _
  try simp only [Act.put, List.setIfInBounds_toArray, List.set_cons_zero, List.set_cons_succ]
  have hB7 := hB2.trans (Below.mono hHeld5 hB2.size)
  go_wp2_with fail
  go_ret
  exact ⟨rfl, hF.1.trans (Below.mono hB7 (by have := hF.2; omega))⟩

set_option maxRecDepth 10000 in
set_option maxHeartbeats 1000000 in
theorem walk_tf (w : World) (a b : VoteV) (ha : a.I) (hb0 : b.I) (hva : Hid (validF a = true)) (hvb : Hid (validF b = false)) (la : List UInt8) (HLA : Hid (encF a = la)) (HLLA : Hid (la.length = 23)) (na : BitVec 64) (_HNA : Hid (vnameF a = na)) (_HTA : Hid (sumF (64 :: la) = na)) (nb_ : BitVec 64) (HNB : Hid (vnameF b = nb_)) (hzb : nmEq nb_ 0 = true) :
    Calls Try.prog 9 #[vV a, vV b] w fun e w' => e = .returned (.bool true) ∧ Below w.heap.size w w' := by
  obtain ⟨hIa, hIb, hF⟩ := twoW_facts w a b
  have HA := vote_later hIa
  have HB := vote_later hIb
  have hB0 := Below.refl (twoW w a b).heap.size (twoW w a b)
  clear hIa hIb
  go_enter Try.func9, Try.ntmps9
  go_wp2_with (first | (refine wpList_load_w (by rfl) 26 (.tmp 2) rfl w.heap.size 0 (by rfl) (voteL a) _ (HA _ hB0) Try.underlying26 rfl vote_size ?_) | (refine wpList_load_w (by rfl) 26 (.tmp 3) rfl (w.heap.size + 1) 0 (by rfl) (voteL b) _ (HB _ hB0) Try.underlying26 rfl vote_size ?_) | fail)
  refine (coEncYes a ha hva la HLA _).mono ?_
  rintro e w1 ⟨u1, rfl, ho1, hb1⟩
  have hv1 := ho1.vb
  obtain ⟨A1, n1, c1, rfl, HN1, hc1, hm1, HR1⟩ := ho1.form_n
  have hn1 := HN1.out
  rw [HLLA.out] at hn1
  subst hn1
  clear ho1
  have hB1 := Below.trans hB0 (hb1.mono (Below.size hB0))
  go_wp2_with (first | (refine wpList_load_w (by rfl) 26 (.tmp 2) rfl w.heap.size 0 (by rfl) (voteL a) _ (HA _ hB1) Try.underlying26 rfl vote_size ?_) | (refine wpList_load_w (by rfl) 26 (.tmp 3) rfl (w.heap.size + 1) 0 (by rfl) (voteL b) _ (HB _ hB1) Try.underlying26 rfl vote_size ?_) | fail)
  refine (coEncNo b hb0 hvb _).mono ?_
  rintro e w2 ⟨rfl, hb2⟩
  have hB2 := Below.trans hB1 (hb2.mono (Below.size hB1))
  go_wp2_with (first | (refine wpList_load_w (by rfl) 26 (.tmp 2) rfl w.heap.size 0 (by rfl) (voteL a) _ (HA _ hB2) Try.underlying26 rfl vote_size ?_) | (refine wpList_load_w (by rfl) 26 (.tmp 3) rfl (w.heap.size + 1) 0 (by rfl) (voteL b) _ (HB _ hB2) Try.underlying26 rfl vote_size ?_) | fail)
  refine (coName b hb0 nb_ HNB _).mono ?_
  rintro e w3 ⟨rfl, hb3⟩
  have hB3 := Below.trans hB2 (hb3.mono (Below.size hB2))
  go_wp2_with (first | (refine wpList_load_w (by rfl) 26 (.tmp 2) rfl w.heap.size 0 (by rfl) (voteL a) _ (HA _ hB3) Try.underlying26 rfl vote_size ?_) | (refine wpList_load_w (by rfl) 26 (.tmp 3) rfl (w.heap.size + 1) 0 (by rfl) (voteL b) _ (HB _ hB3) Try.underlying26 rfl vote_size ?_) | fail)
  refine (awake_any _).mono ?_
  rintro e w4 ⟨rfl, hb4⟩
  have hB4 := Below.trans hB3 (hb4.mono (Below.size hB3))
  go_wp2_with (first | (refine wpList_load_w (by rfl) 26 (.tmp 2) rfl w.heap.size 0 (by rfl) (voteL a) _ (HA _ hB4) Try.underlying26 rfl vote_size ?_) | (refine wpList_load_w (by rfl) 26 (.tmp 3) rfl (w.heap.size + 1) 0 (by rfl) (voteL b) _ (HB _ hB4) Try.underlying26 rfl vote_size ?_) | fail)
  go_ret
  exact ⟨rfl, hF.1.trans (Below.mono hB4 (by have := hF.2; omega))⟩

set_option maxRecDepth 10000 in
set_option maxHeartbeats 1000000 in
theorem walk_ft (w : World) (a b : VoteV) (ha : a.I) (hb0 : b.I) (hva : Hid (validF a = false)) (hvb : Hid (validF b = true)) (na : BitVec 64) (HNA : Hid (vnameF a = na)) (hza : nmEq na 0 = true) (lb : List UInt8) (HLB : Hid (encF b = lb)) (HLLB : Hid (lb.length = 23)) (nb_ : BitVec 64) (_HNB : Hid (vnameF b = nb_)) (_HTB : Hid (sumF (64 :: lb) = nb_)) :
    Calls Try.prog 9 #[vV a, vV b] w fun e w' => e = .returned (.bool true) ∧ Below w.heap.size w w' := by
  obtain ⟨hIa, hIb, hF⟩ := twoW_facts w a b
  have HA := vote_later hIa
  have HB := vote_later hIb
  have hB0 := Below.refl (twoW w a b).heap.size (twoW w a b)
  clear hIa hIb
  go_enter Try.func9, Try.ntmps9
  go_wp2_with (first | (refine wpList_load_w (by rfl) 26 (.tmp 2) rfl w.heap.size 0 (by rfl) (voteL a) _ (HA _ hB0) Try.underlying26 rfl vote_size ?_) | (refine wpList_load_w (by rfl) 26 (.tmp 3) rfl (w.heap.size + 1) 0 (by rfl) (voteL b) _ (HB _ hB0) Try.underlying26 rfl vote_size ?_) | fail)
  refine (coEncNo a ha hva _).mono ?_
  rintro e w1 ⟨rfl, hb1⟩
  have hB1 := Below.trans hB0 (hb1.mono (Below.size hB0))
  go_wp2_with (first | (refine wpList_load_w (by rfl) 26 (.tmp 2) rfl w.heap.size 0 (by rfl) (voteL a) _ (HA _ hB1) Try.underlying26 rfl vote_size ?_) | (refine wpList_load_w (by rfl) 26 (.tmp 3) rfl (w.heap.size + 1) 0 (by rfl) (voteL b) _ (HB _ hB1) Try.underlying26 rfl vote_size ?_) | fail)
  refine (coEncYes b hb0 hvb lb HLB _).mono ?_
  rintro e w2 ⟨u2, rfl, ho2, hb2⟩
  have hv2 := ho2.vb
  obtain ⟨A2, n2, c2, rfl, HN2, hc2, hm2, HR2⟩ := ho2.form_n
  have hn2 := HN2.out
  rw [HLLB.out] at hn2
  subst hn2
  clear ho2
  have hB2 := Below.trans hB1 (hb2.mono (Below.size hB1))
  go_wp2_with (first | (refine wpList_load_w (by rfl) 26 (.tmp 2) rfl w.heap.size 0 (by rfl) (voteL a) _ (HA _ hB2) Try.underlying26 rfl vote_size ?_) | (refine wpList_load_w (by rfl) 26 (.tmp 3) rfl (w.heap.size + 1) 0 (by rfl) (voteL b) _ (HB _ hB2) Try.underlying26 rfl vote_size ?_) | fail)
  refine (coName a ha na HNA _).mono ?_
  rintro e w3 ⟨rfl, hb3⟩
  have hB3 := Below.trans hB2 (hb3.mono (Below.size hB2))
  go_wp2_with (first | (refine wpList_load_w (by rfl) 26 (.tmp 2) rfl w.heap.size 0 (by rfl) (voteL a) _ (HA _ hB3) Try.underlying26 rfl vote_size ?_) | (refine wpList_load_w (by rfl) 26 (.tmp 3) rfl (w.heap.size + 1) 0 (by rfl) (voteL b) _ (HB _ hB3) Try.underlying26 rfl vote_size ?_) | fail)
  refine (awake_any _).mono ?_
  rintro e w4 ⟨rfl, hb4⟩
  have hB4 := Below.trans hB3 (hb4.mono (Below.size hB3))
  go_wp2_with (first | (refine wpList_load_w (by rfl) 26 (.tmp 2) rfl w.heap.size 0 (by rfl) (voteL a) _ (HA _ hB4) Try.underlying26 rfl vote_size ?_) | (refine wpList_load_w (by rfl) 26 (.tmp 3) rfl (w.heap.size + 1) 0 (by rfl) (voteL b) _ (HB _ hB4) Try.underlying26 rfl vote_size ?_) | fail)
  go_ret
  exact ⟨rfl, hF.1.trans (Below.mono hB4 (by have := hF.2; omega))⟩

set_option maxRecDepth 10000 in
set_option maxHeartbeats 1000000 in
theorem walk_ff (w : World) (a b : VoteV) (ha : a.I) (hb0 : b.I) (hva : Hid (validF a = false)) (hvb : Hid (validF b = false)) (na : BitVec 64) (HNA : Hid (vnameF a = na)) (hza : nmEq na 0 = true) (nb_ : BitVec 64) (HNB : Hid (vnameF b = nb_)) (hzb : nmEq nb_ 0 = true) :
    Calls Try.prog 9 #[vV a, vV b] w fun e w' => e = .returned (.bool true) ∧ Below w.heap.size w w' := by
  obtain ⟨hIa, hIb, hF⟩ := twoW_facts w a b
  have HA := vote_later hIa
  have HB := vote_later hIb
  have hB0 := Below.refl (twoW w a b).heap.size (twoW w a b)
  clear hIa hIb
  go_enter Try.func9, Try.ntmps9
  go_wp2_with (first | (refine wpList_load_w (by rfl) 26 (.tmp 2) rfl w.heap.size 0 (by rfl) (voteL a) _ (HA _ hB0) Try.underlying26 rfl vote_size ?_) | (refine wpList_load_w (by rfl) 26 (.tmp 3) rfl (w.heap.size + 1) 0 (by rfl) (voteL b) _ (HB _ hB0) Try.underlying26 rfl vote_size ?_) | fail)
  refine (coEncNo a ha hva _).mono ?_
  rintro e w1 ⟨rfl, hb1⟩
  have hB1 := Below.trans hB0 (hb1.mono (Below.size hB0))
  go_wp2_with (first | (refine wpList_load_w (by rfl) 26 (.tmp 2) rfl w.heap.size 0 (by rfl) (voteL a) _ (HA _ hB1) Try.underlying26 rfl vote_size ?_) | (refine wpList_load_w (by rfl) 26 (.tmp 3) rfl (w.heap.size + 1) 0 (by rfl) (voteL b) _ (HB _ hB1) Try.underlying26 rfl vote_size ?_) | fail)
  refine (coEncNo b hb0 hvb _).mono ?_
  rintro e w2 ⟨rfl, hb2⟩
  have hB2 := Below.trans hB1 (hb2.mono (Below.size hB1))
  go_wp2_with (first | (refine wpList_load_w (by rfl) 26 (.tmp 2) rfl w.heap.size 0 (by rfl) (voteL a) _ (HA _ hB2) Try.underlying26 rfl vote_size ?_) | (refine wpList_load_w (by rfl) 26 (.tmp 3) rfl (w.heap.size + 1) 0 (by rfl) (voteL b) _ (HB _ hB2) Try.underlying26 rfl vote_size ?_) | fail)
  refine (coName a ha na HNA _).mono ?_
  rintro e w3 ⟨rfl, hb3⟩
  have hB3 := Below.trans hB2 (hb3.mono (Below.size hB2))
  go_wp2_with (first | (refine wpList_load_w (by rfl) 26 (.tmp 2) rfl w.heap.size 0 (by rfl) (voteL a) _ (HA _ hB3) Try.underlying26 rfl vote_size ?_) | (refine wpList_load_w (by rfl) 26 (.tmp 3) rfl (w.heap.size + 1) 0 (by rfl) (voteL b) _ (HB _ hB3) Try.underlying26 rfl vote_size ?_) | fail)
  refine (coName b hb0 nb_ HNB _).mono ?_
  rintro e w4 ⟨rfl, hb4⟩
  have hB4 := Below.trans hB3 (hb4.mono (Below.size hB3))
  go_wp2_with (first | (refine wpList_load_w (by rfl) 26 (.tmp 2) rfl w.heap.size 0 (by rfl) (voteL a) _ (HA _ hB4) Try.underlying26 rfl vote_size ?_) | (refine wpList_load_w (by rfl) 26 (.tmp 3) rfl (w.heap.size + 1) 0 (by rfl) (voteL b) _ (HB _ hB4) Try.underlying26 rfl vote_size ?_) | fail)
  refine (awake_any _).mono ?_
  rintro e w5 ⟨rfl, hb5⟩
  have hB5 := Below.trans hB4 (hb5.mono (Below.size hB4))
  go_wp2_with (first | (refine wpList_load_w (by rfl) 26 (.tmp 2) rfl w.heap.size 0 (by rfl) (voteL a) _ (HA _ hB5) Try.underlying26 rfl vote_size ?_) | (refine wpList_load_w (by rfl) 26 (.tmp 3) rfl (w.heap.size + 1) 0 (by rfl) (voteL b) _ (HB _ hB5) Try.underlying26 rfl vote_size ?_) | fail)
  go_ret
  exact ⟨rfl, hF.1.trans (Below.mono hB5 (by have := hF.2; omega))⟩

theorem walk (w : World) (a b : VoteV) (ha : a.I) (hb : b.I) : Calls Try.prog 9 #[vV a, vV b] w fun e w' => e = .returned (.bool true) ∧ Below w.heap.size w w' := by
  have yes : ∀ v : VoteV, validF v = true → vnameF v = sumF (64 :: encF v) := fun v h => if_pos h
  have no : ∀ v : VoteV, validF v = false → nmEq (vnameF v) 0 = true := fun v h => by unfold vnameF; rw [h, if_neg (by decide)]; exact nmEq_self 0
  cases h1 : validF a <;> cases h2 : validF b
  · exact walk_ff w a b ha hb (Lib.hid h1) (Lib.hid h2) _ (Lib.hid rfl) (no a h1) _ (Lib.hid rfl) (no b h2)
  · exact walk_ft w a b ha hb (Lib.hid h1) (Lib.hid h2) _ (Lib.hid rfl) (no a h1) _ (Lib.hid rfl) (Lib.hid (encF_len b)) _ (Lib.hid rfl) (Lib.hid (yes b h2).symm)
  · exact walk_tf w a b ha hb (Lib.hid h1) (Lib.hid h2) _ (Lib.hid rfl) (Lib.hid (encF_len a)) _ (Lib.hid rfl) (Lib.hid (yes a h1).symm) _ (Lib.hid rfl) (no b h2)
  · refine walk_tt w a b ha hb (Lib.hid h1) (Lib.hid h2) _ (Lib.hid rfl) (Lib.hid (encF_len a)) _ (Lib.hid rfl) (Lib.hid (yes a h1).symm) _ (Lib.hid rfl) (Lib.hid (encF_len b)) _ (Lib.hid rfl) (Lib.hid (yes b h2).symm) _ rfl ?_
    rw [bsOf_toList, bsOf_toList, Bool.eq_iff_iff]
    show _ ↔ decide (a = b) = true
    rw [beq_iff_eq, decide_eq_true_iff]
    exact ⟨encF_inj h1 h2, fun e => by rw [e]⟩

set_option maxRecDepth 100000 in
/-- The law's step, at every reading. -/
theorem lifted (os : Os) (started : os.Started) (H : Type) (enc : TypeId × Value → H) :
    ReturnsInHanded {} Try.checked os 9 .any (Rows.voteNamesSpec.pre6 enc Try.prog Try.f9 Rows.voteNamesRow.domain false) (Rows.voteNamesSpec.post enc Try.prog Try.f9 false true false false) := by
  refine law_lifted (C := Try.checked) (n := 2) (tb := 4) own started (by kernel_rfl) Try.func9 rfl (by kernel_rfl)
    (of_decide_eq_true (by kernel_rfl)) (by kernel_rfl) (by kernel_rfl) Try.underlying4
    (fun ds hd => by match ds, hd with | [_, _], _ => rfl)
    (ChangeSpec.witness6 (enc := enc) (C := Try.checked) false ⟨#[], #[.agg #[.int .i64 0, .int .i64 0, .int .i64 0, .int .i64 0, .int .i64 0, .int .i64 0, .int .u8 0, .int .u8 0, .int .u8 0, .int .u8 0, .int .u8 0, .int .u8 0, .int .u8 0, .int .u8 0, .int .u8 0, .int .u8 0, .int .u8 0, .int .u8 0, .int .u8 0, .int .u8 0, .int .u8 0, .int .u8 0], .agg #[.int .i64 0, .int .i64 0, .int .i64 0, .int .i64 0, .int .i64 0, .int .i64 0, .int .u8 0, .int .u8 0, .int .u8 0, .int .u8 0, .int .u8 0, .int .u8 0, .int .u8 0, .int .u8 0, .int .u8 0, .int .u8 0, .int .u8 0, .int .u8 0, .int .u8 0, .int .u8 0, .int .u8 0, .int .u8 0]], []⟩ 8 (by kernel_rfl) (by kernel_rfl) (by kernel_rfl) (by kernel_rfl)) ?_
  intro W base args ds ps hval hA hlt hsz
  rw [Try.params9] at hA hval
  obtain ⟨v0, vs0, d0, ds0, p0, q0, hargs, rfl, rfl, h0, r0⟩ := trodAll_cons hA
  obtain ⟨v1, vs1, d1, ds1, p1, q1, rfl, rfl, rfl, h1, r1⟩ := trodAll_cons r0
  obtain ⟨rfl, rfl, rfl⟩ := trodAll_nil r1
  obtain rfl : args = #[v0, v1] := by cases args; simp_all
  obtain ⟨x0, rfl, hx0⟩ := open_vote (hval 0 _ v0 rfl rfl) h0 (fun x hx => hlt x (by simp [hx])) hsz (j := 0) (by rw [Try.params9]; rfl) rfl
  obtain ⟨x1, rfl, hx1⟩ := open_vote (hval 1 _ v1 rfl rfl) h1 (fun x hx => hlt x (by simp [hx])) hsz (j := 1) (by rw [Try.params9]; rfl) rfl
  exact walk W x0 x1 hx0 hx1

theorem proved : Rows.VoteNamesSaid :=
  OpenClaim.holds_of_wide 9 Try.f9 rfl rfl rfl rfl rfl rfl rfl ⟨rfl, rfl, rfl, rfl, rfl⟩ rfl rfl rfl rfl rfl (by kernel_rfl) Try.func9 (by kernel_rfl)
    (of_decide_eq_true (by kernel_rfl)) (by unfold Func.isWrapper; first | (rw [if_pos (by decide +kernel)]; kernel_rfl) | (rw [if_neg (by decide +kernel)]; exact ⟨rfl, rfl⟩))
    (fun os started H enc _ => lifted os started H enc)
#print axioms proved
end Go.Proofs.Ytpnmmfacnflngaa.voteNames
