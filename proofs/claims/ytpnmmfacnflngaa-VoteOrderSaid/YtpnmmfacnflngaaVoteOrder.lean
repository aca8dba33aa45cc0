/-
  The statement VoteOrder, proved for all votes, with no condition: Less is as documented and is a strict total order.
-/
import Derived.Test.YtpnmmfacnflngaaLaw7A
namespace Go.Proofs.Ytpnmmfacnflngaa.voteOrder
open Go.ChangeShapes Go.WideShapes Go.ChangeAt Go.RowKit Go.Fl

attribute [local go_sem] equal_nm eqGuard_nm eqGuard_vote
attribute [local go_sem high] equal_voteL

set_option maxRecDepth 10000 in
set_option maxHeartbeats 1000000 in
theorem walk_A1 (w : World) (a b c : VoteV) (_ha : a.I) (_hb : b.I) (_hc : c.I) (h1 : Hid (lessF a b = true)) (h2 : Hid (lessF a a = false)) (he : vtEq a b = false) (h3 : Hid (lessF b a = false)) (h4 : Hid (lessF b c = true)) (h5 : Hid (lessF a c = true)) :
    Calls Try.prog 7 #[vV a, vV b, vV c] w fun e w' => e = .returned (.bool true) ∧ Below w.heap.size w w' := by
  obtain ⟨hIa, hIb, hIc, hF⟩ := threeW_facts w a b c
  go_enter Try.func7, Try.ntmps7
  go_wp2_with fail
  change Code.wp _ _ _ _ (threeW w a b c)
  generalize threeW w a b c = W at *
  have HA := vote_later hIa
  have HB := vote_later hIb
  have HC := vote_later hIc
  clear hIa hIb hIc
  refine wp_region_held_drew (S := fun w' => Below W.heap.size W w') (by kernel_rfl) (Below.refl _ _).drew (fun hHeld => ?_)
  refine held_load 0 7 rfl 26 (.tmp 3) rfl w.heap.size 0 rfl (voteL a) (fun w' h => HA _ h) Try.underlying26 vote_size hHeld ?_
  try simp only [Act.put, List.setIfInBounds_toArray, List.set_cons_zero, List.set_cons_succ]
  refine held_load 1 8 rfl 26 (.tmp 4) rfl (w.heap.size + 1) 0 rfl (voteL b) (fun w' h => HB _ h) Try.underlying26 vote_size hHeld ?_
  try simp only [Act.put, List.setIfInBounds_toArray, List.set_cons_zero, List.set_cons_succ]
  refine held_load 3 10 rfl 26 (.tmp 3) rfl w.heap.size 0 rfl (voteL a) (fun w' h => HA _ h) Try.underlying26 vote_size hHeld ?_
  try simp only [Act.put, List.setIfInBounds_toArray, List.set_cons_zero, List.set_cons_succ]
  refine held_load 4 11 rfl 26 (.tmp 4) rfl (w.heap.size + 1) 0 rfl (voteL b) (fun w' h => HB _ h) Try.underlying26 vote_size hHeld ?_
  try simp only [Act.put, List.setIfInBounds_toArray, List.set_cons_zero, List.set_cons_succ]
  refine held_one (i := 2) (by kernel_rfl) rfl (by rfl) (fun KK hK => ?_)
  go_wp2_with fail
  refine (coLess a b true h1 _).mono ?_
  rintro e w1 ⟨rfl, hb⟩
  go_wp2_with fail
  refine hK.out _ _ (hHeld.trans (hb.mono hHeld.size)) (fun hHeld1 => ?_)
  clear hK KK
  try simp only [Act.put, List.setIfInBounds_toArray, List.set_cons_zero, List.set_cons_succ]
  refine held_one (i := 5) (by kernel_rfl) rfl (by rfl) (fun KK hK => ?_)
  go_wp2_with fail
  refine (rfLess a b true h1 _).mono ?_
  rintro e w2 ⟨rfl, hb⟩
  go_wp2_with fail
  refine hK.out _ _ (hHeld1.trans (hb.mono hHeld1.size)) (fun hHeld2 => ?_)
  clear hK KK
  try simp only [Act.put, List.setIfInBounds_toArray, List.set_cons_zero, List.set_cons_succ]
  refine held_pure 6 13 (.bool false) rfl (fun W => by go_simp) hHeld2 ?_
  try simp only [Act.put, List.setIfInBounds_toArray, List.set_cons_zero, List.set_cons_succ]
  refine held_pure 7 14 (.bool false) rfl (fun W => by rfl) hHeld2 ?_
  try simp only [Act.put, List.setIfInBounds_toArray, List.set_cons_zero, List.set_cons_succ]
  refine held_load 8 15 rfl 26 (.tmp 3) rfl w.heap.size 0 rfl (voteL a) (fun w' h => HA _ h) Try.underlying26 vote_size hHeld2 ?_
  try simp only [Act.put, List.setIfInBounds_toArray, List.set_cons_zero, List.set_cons_succ]
  refine held_load 9 16 rfl 26 (.tmp 3) rfl w.heap.size 0 rfl (voteL a) (fun w' h => HA _ h) Try.underlying26 vote_size hHeld2 ?_
  try simp only [Act.put, List.setIfInBounds_toArray, List.set_cons_zero, List.set_cons_succ]
  refine held_one (i := 10) (by kernel_rfl) rfl (by rfl) (fun KK hK => ?_)
  go_wp2_with fail
  refine (coLess a a false h2 _).mono ?_
  rintro e w3 ⟨rfl, hb⟩
  go_wp2_with fail
  refine hK.out _ _ (hHeld2.trans (hb.mono hHeld2.size)) (fun hHeld3 => ?_)
  clear hK KK
  try simp only [Act.put, List.setIfInBounds_toArray, List.set_cons_zero, List.set_cons_succ]
  refine held_pure 11 18 (.bool false) rfl (fun W => by rfl) hHeld3 ?_
  try simp only [Act.put, List.setIfInBounds_toArray, List.set_cons_zero, List.set_cons_succ]
  refine wpAnyH_done (by kernel_rfl) ?_ _
  try simp only [Act.put, List.setIfInBounds_toArray, List.set_cons_zero, List.set_cons_succ]
  go_wp2_with (first | (refine wpList_load_w (by rfl) 26 (.tmp 3) rfl w.heap.size 0 (by rfl) (voteL a) _ (HA _ hHeld3) Try.underlying26 rfl vote_size ?_) | (refine wpList_load_w (by rfl) 26 (.tmp 4) rfl (w.heap.size + 1) 0 (by rfl) (voteL b) _ (HB _ hHeld3) Try.underlying26 rfl vote_size ?_) | (refine wpList_load_w (by rfl) 26 (.tmp 5) rfl (w.heap.size + 2) 0 (by rfl) (voteL c) _ (HC _ hHeld3) Try.underlying26 rfl vote_size ?_) | fail)
  refine (coLess a b true h1 _).mono ?_
  rintro e w11 ⟨rfl, hb11⟩
  have hB11 := Below.trans hHeld3 (hb11.mono (Below.size hHeld3))
  go_wp2_with (first | (refine wpList_load_w (by rfl) 26 (.tmp 3) rfl w.heap.size 0 (by rfl) (voteL a) _ (HA _ hB11) Try.underlying26 rfl vote_size ?_) | (refine wpList_load_w (by rfl) 26 (.tmp 4) rfl (w.heap.size + 1) 0 (by rfl) (voteL b) _ (HB _ hB11) Try.underlying26 rfl vote_size ?_) | (refine wpList_load_w (by rfl) 26 (.tmp 5) rfl (w.heap.size + 2) 0 (by rfl) (voteL c) _ (HC _ hB11) Try.underlying26 rfl vote_size ?_) | fail)
  refine (coLess b a false h3 _).mono ?_
  rintro e w12 ⟨rfl, hb12⟩
  have hB12 := Below.trans hB11 (hb12.mono (Below.size hB11))
  go_wp2_with (first | (refine wpList_load_w (by rfl) 26 (.tmp 3) rfl w.heap.size 0 (by rfl) (voteL a) _ (HA _ hB12) Try.underlying26 rfl vote_size ?_) | (refine wpList_load_w (by rfl) 26 (.tmp 4) rfl (w.heap.size + 1) 0 (by rfl) (voteL b) _ (HB _ hB12) Try.underlying26 rfl vote_size ?_) | (refine wpList_load_w (by rfl) 26 (.tmp 5) rfl (w.heap.size + 2) 0 (by rfl) (voteL c) _ (HC _ hB12) Try.underlying26 rfl vote_size ?_) | fail)
  refine (coLess a b true h1 _).mono ?_
  rintro e w13 ⟨rfl, hb13⟩
  have hB13 := Below.trans hB12 (hb13.mono (Below.size hB12))
  go_wp2_with (first | (refine wpList_load_w (by rfl) 26 (.tmp 3) rfl w.heap.size 0 (by rfl) (voteL a) _ (HA _ hB13) Try.underlying26 rfl vote_size ?_) | (refine wpList_load_w (by rfl) 26 (.tmp 4) rfl (w.heap.size + 1) 0 (by rfl) (voteL b) _ (HB _ hB13) Try.underlying26 rfl vote_size ?_) | (refine wpList_load_w (by rfl) 26 (.tmp 5) rfl (w.heap.size + 2) 0 (by rfl) (voteL c) _ (HC _ hB13) Try.underlying26 rfl vote_size ?_) | fail)
  refine (coLess a b true h1 _).mono ?_
  rintro e w14 ⟨rfl, hb14⟩
  have hB14 := Below.trans hB13 (hb14.mono (Below.size hB13))
  go_wp2_with (first | (refine wpList_load_w (by rfl) 26 (.tmp 3) rfl w.heap.size 0 (by rfl) (voteL a) _ (HA _ hB14) Try.underlying26 rfl vote_size ?_) | (refine wpList_load_w (by rfl) 26 (.tmp 4) rfl (w.heap.size + 1) 0 (by rfl) (voteL b) _ (HB _ hB14) Try.underlying26 rfl vote_size ?_) | (refine wpList_load_w (by rfl) 26 (.tmp 5) rfl (w.heap.size + 2) 0 (by rfl) (voteL c) _ (HC _ hB14) Try.underlying26 rfl vote_size ?_) | fail)
  refine (coLess b c true h4 _).mono ?_
  rintro e w15 ⟨rfl, hb15⟩
  have hB15 := Below.trans hB14 (hb15.mono (Below.size hB14))
  go_wp2_with (first | (refine wpList_load_w (by rfl) 26 (.tmp 3) rfl w.heap.size 0 (by rfl) (voteL a) _ (HA _ hB15) Try.underlying26 rfl vote_size ?_) | (refine wpList_load_w (by rfl) 26 (.tmp 4) rfl (w.heap.size + 1) 0 (by rfl) (voteL b) _ (HB _ hB15) Try.underlying26 rfl vote_size ?_) | (refine wpList_load_w (by rfl) 26 (.tmp 5) rfl (w.heap.size + 2) 0 (by rfl) (voteL c) _ (HC _ hB15) Try.underlying26 rfl vote_size ?_) | fail)
  refine (coLess a c true h5 _).mono ?_
  rintro e w16 ⟨rfl, hb16⟩
  have hB16 := Below.trans hB15 (hb16.mono (Below.size hB15))
  go_wp2_with (first | (refine wpList_load_w (by rfl) 26 (.tmp 3) rfl w.heap.size 0 (by rfl) (voteL a) _ (HA _ hB16) Try.underlying26 rfl vote_size ?_) | (refine wpList_load_w (by rfl) 26 (.tmp 4) rfl (w.heap.size + 1) 0 (by rfl) (voteL b) _ (HB _ hB16) Try.underlying26 rfl vote_size ?_) | (refine wpList_load_w (by rfl) 26 (.tmp 5) rfl (w.heap.size + 2) 0 (by rfl) (voteL c) _ (HC _ hB16) Try.underlying26 rfl vote_size ?_) | fail)
  refine (awake_any _).mono ?_
  rintro e w17 ⟨rfl, hb17⟩
  have hB17 := Below.trans hB16 (hb17.mono (Below.size hB16))
  go_wp2_with fail
  go_ret
  exact ⟨rfl, hF.1.trans (Below.mono hB17 (by have := hF.2; omega))⟩

set_option maxRecDepth 10000 in
set_option maxHeartbeats 1000000 in
theorem walk_A2 (w : World) (a b c : VoteV) (_ha : a.I) (_hb : b.I) (_hc : c.I) (h1 : Hid (lessF a b = true)) (h2 : Hid (lessF a a = false)) (he : vtEq a b = false) (h3 : Hid (lessF b a = false)) (h4 : Hid (lessF b c = false)) :
    Calls Try.prog 7 #[vV a, vV b, vV c] w fun e w' => e = .returned (.bool true) ∧ Below w.heap.size w w' := by
  obtain ⟨hIa, hIb, hIc, hF⟩ := threeW_facts w a b c
  go_enter Try.func7, Try.ntmps7
  go_wp2_with fail
  change Code.wp _ _ _ _ (threeW w a b c)
  generalize threeW w a b c = W at *
  have HA := vote_later hIa
  have HB := vote_later hIb
  have HC := vote_later hIc
  clear hIa hIb hIc
  refine wp_region_held_drew (S := fun w' => Below W.heap.size W w') (by kernel_rfl) (Below.refl _ _).drew (fun hHeld => ?_)
  refine held_load 0 7 rfl 26 (.tmp 3) rfl w.heap.size 0 rfl (voteL a) (fun w' h => HA _ h) Try.underlying26 vote_size hHeld ?_
  try simp only [Act.put, List.setIfInBounds_toArray, List.set_cons_zero, List.set_cons_succ]
  refine held_load 1 8 rfl 26 (.tmp 4) rfl (w.heap.size + 1) 0 rfl (voteL b) (fun w' h => HB _ h) Try.underlying26 vote_size hHeld ?_
  try simp only [Act.put, List.setIfInBounds_toArray, List.set_cons_zero, List.set_cons_succ]
  refine held_load 3 10 rfl 26 (.tmp 3) rfl w.heap.size 0 rfl (voteL a) (fun w' h => HA _ h) Try.underlying26 vote_size hHeld ?_
  try simp only [Act.put, List.setIfInBounds_toArray, List.set_cons_zero, List.set_cons_succ]
  refine held_load 4 11 rfl 26 (.tmp 4) rfl (w.heap.size + 1) 0 rfl (voteL b) (fun w' h => HB _ h) Try.underlying26 vote_size hHeld ?_
  try simp only [Act.put, List.setIfInBounds_toArray, List.set_cons_zero, List.set_cons_succ]
  refine held_one (i := 2) (by kernel_rfl) rfl (by rfl) (fun KK hK => ?_)
  go_wp2_with fail
  refine (coLess a b true h1 _).mono ?_
  rintro e w1 ⟨rfl, hb⟩
  go_wp2_with fail
  refine hK.out _ _ (hHeld.trans (hb.mono hHeld.size)) (fun hHeld1 => ?_)
  clear hK KK
  try simp only [Act.put, List.setIfInBounds_toArray, List.set_cons_zero, List.set_cons_succ]
  refine held_one (i := 5) (by kernel_rfl) rfl (by rfl) (fun KK hK => ?_)
  go_wp2_with fail
  refine (rfLess a b true h1 _).mono ?_
  rintro e w2 ⟨rfl, hb⟩
  go_wp2_with fail
  refine hK.out _ _ (hHeld1.trans (hb.mono hHeld1.size)) (fun hHeld2 => ?_)
  clear hK KK
  try simp only [Act.put, List.setIfInBounds_toArray, List.set_cons_zero, List.set_cons_succ]
  refine held_pure 6 13 (.bool false) rfl (fun W => by go_simp) hHeld2 ?_
  try simp only [Act.put, List.setIfInBounds_toArray, List.set_cons_zero, List.set_cons_succ]
  refine held_pure 7 14 (.bool false) rfl (fun W => by rfl) hHeld2 ?_
  try simp only [Act.put, List.setIfInBounds_toArray, List.set_cons_zero, List.set_cons_succ]
  refine held_load 8 15 rfl 26 (.tmp 3) rfl w.heap.size 0 rfl (voteL a) (fun w' h => HA _ h) Try.underlying26 vote_size hHeld2 ?_
  try simp only [Act.put, List.setIfInBounds_toArray, List.set_cons_zero, List.set_cons_succ]
  refine held_load 9 16 rfl 26 (.tmp 3) rfl w.heap.size 0 rfl (voteL a) (fun w' h => HA _ h) Try.underlying26 vote_size hHeld2 ?_
  try simp only [Act.put, List.setIfInBounds_toArray, List.set_cons_zero, List.set_cons_succ]
  refine held_one (i := 10) (by kernel_rfl) rfl (by rfl) (fun KK hK => ?_)
  go_wp2_with fail
  refine (coLess a a false h2 _).mono ?_
  rintro e w3 ⟨rfl, hb⟩
  go_wp2_with fail
  refine hK.out _ _ (hHeld2.trans (hb.mono hHeld2.size)) (fun hHeld3 => ?_)
  clear hK KK
  try simp only [Act.put, List.setIfInBounds_toArray, List.set_cons_zero, List.set_cons_succ]
  refine held_pure 11 18 (.bool false) rfl (fun W => by rfl) hHeld3 ?_
  try simp only [Act.put, List.setIfInBounds_toArray, List.set_cons_zero, List.set_cons_succ]
  refine wpAnyH_done (by kernel_rfl) ?_ _
  try simp only [Act.put, List.setIfInBounds_toArray, List.set_cons_zero, List.set_cons_succ]
  go_wp2_with (first | (refine wpList_load_w (by rfl) 26 (.tmp 3) rfl w.heap.size 0 (by rfl) (voteL a) _ (HA _ hHeld3) Try.underlying26 rfl vote_size ?_) | (refine wpList_load_w (by rfl) 26 (.tmp 4) rfl (w.heap.size + 1) 0 (by rfl) (voteL b) _ (HB _ hHeld3) Try.underlying26 rfl vote_size ?_) | (refine wpList_load_w (by rfl) 26 (.tmp 5) rfl (w.heap.size + 2) 0 (by rfl) (voteL c) _ (HC _ hHeld3) Try.underlying26 rfl vote_size ?_) | fail)
  refine (coLess a b true h1 _).mono ?_
  rintro e w11 ⟨rfl, hb11⟩
  have hB11 := Below.trans hHeld3 (hb11.mono (Below.size hHeld3))
  go_wp2_with (first | (refine wpList_load_w (by rfl) 26 (.tmp 3) rfl w.heap.size 0 (by rfl) (voteL a) _ (HA _ hB11) Try.underlying26 rfl vote_size ?_) | (refine wpList_load_w (by rfl) 26 (.tmp 4) rfl (w.heap.size + 1) 0 (by rfl) (voteL b) _ (HB _ hB11) Try.underlying26 rfl vote_size ?_) | (refine wpList_load_w (by rfl) 26 (.tmp 5) rfl (w.heap.size + 2) 0 (by rfl) (voteL c) _ (HC _ hB11) Try.underlying26 rfl vote_size ?_) | fail)
  refine (coLess b a false h3 _).mono ?_
  rintro e w12 ⟨rfl, hb12⟩
  have hB12 := Below.trans hB11 (hb12.mono (Below.size hB11))
  go_wp2_with (first | (refine wpList_load_w (by rfl) 26 (.tmp 3) rfl w.heap.size 0 (by rfl) (voteL a) _ (HA _ hB12) Try.underlying26 rfl vote_size ?_) | (refine wpList_load_w (by rfl) 26 (.tmp 4) rfl (w.heap.size + 1) 0 (by rfl) (voteL b) _ (HB _ hB12) Try.underlying26 rfl vote_size ?_) | (refine wpList_load_w (by rfl) 26 (.tmp 5) rfl (w.heap.size + 2) 0 (by rfl) (voteL c) _ (HC _ hB12) Try.underlying26 rfl vote_size ?_) | fail)
  refine (coLess a b true h1 _).mono ?_
  rintro e w13 ⟨rfl, hb13⟩
  have hB13 := Below.trans hB12 (hb13.mono (Below.size hB12))
  go_wp2_with (first | (refine wpList_load_w (by rfl) 26 (.tmp 3) rfl w.heap.size 0 (by rfl) (voteL a) _ (HA _ hB13) Try.underlying26 rfl vote_size ?_) | (refine wpList_load_w (by rfl) 26 (.tmp 4) rfl (w.heap.size + 1) 0 (by rfl) (voteL b) _ (HB _ hB13) Try.underlying26 rfl vote_size ?_) | (refine wpList_load_w (by rfl) 26 (.tmp 5) rfl (w.heap.size + 2) 0 (by rfl) (voteL c) _ (HC _ hB13) Try.underlying26 rfl vote_size ?_) | fail)
  refine (coLess a b true h1 _).mono ?_
  rintro e w14 ⟨rfl, hb14⟩
  have hB14 := Below.trans hB13 (hb14.mono (Below.size hB13))
  go_wp2_with (first | (refine wpList_load_w (by rfl) 26 (.tmp 3) rfl w.heap.size 0 (by rfl) (voteL a) _ (HA _ hB14) Try.underlying26 rfl vote_size ?_) | (refine wpList_load_w (by rfl) 26 (.tmp 4) rfl (w.heap.size + 1) 0 (by rfl) (voteL b) _ (HB _ hB14) Try.underlying26 rfl vote_size ?_) | (refine wpList_load_w (by rfl) 26 (.tmp 5) rfl (w.heap.size + 2) 0 (by rfl) (voteL c) _ (HC _ hB14) Try.underlying26 rfl vote_size ?_) | fail)
  refine (coLess b c false h4 _).mono ?_
  rintro e w15 ⟨rfl, hb15⟩
  have hB15 := Below.trans hB14 (hb15.mono (Below.size hB14))
  go_wp2_with (first | (refine wpList_load_w (by rfl) 26 (.tmp 3) rfl w.heap.size 0 (by rfl) (voteL a) _ (HA _ hB15) Try.underlying26 rfl vote_size ?_) | (refine wpList_load_w (by rfl) 26 (.tmp 4) rfl (w.heap.size + 1) 0 (by rfl) (voteL b) _ (HB _ hB15) Try.underlying26 rfl vote_size ?_) | (refine wpList_load_w (by rfl) 26 (.tmp 5) rfl (w.heap.size + 2) 0 (by rfl) (voteL c) _ (HC _ hB15) Try.underlying26 rfl vote_size ?_) | fail)
  refine (awake_any _).mono ?_
  rintro e w16 ⟨rfl, hb16⟩
  have hB16 := Below.trans hB15 (hb16.mono (Below.size hB15))
  go_wp2_with fail
  go_ret
  exact ⟨rfl, hF.1.trans (Below.mono hB16 (by have := hF.2; omega))⟩

set_option maxRecDepth 10000 in
set_option maxHeartbeats 1000000 in
theorem walk_B (w : World) (a b c : VoteV) (_ha : a.I) (_hb : b.I) (_hc : c.I) (h1 : Hid (lessF a b = false)) (h2 : Hid (lessF a a = false)) (he : vtEq a b = true) :
    Calls Try.prog 7 #[vV a, vV b, vV c] w fun e w' => e = .returned (.bool true) ∧ Below w.heap.size w w' := by
  obtain ⟨hIa, hIb, hIc, hF⟩ := threeW_facts w a b c
  go_enter Try.func7, Try.ntmps7
  go_wp2_with fail
  change Code.wp _ _ _ _ (threeW w a b c)
  generalize threeW w a b c = W at *
  have HA := vote_later hIa
  have HB := vote_later hIb
  have HC := vote_later hIc
  clear hIa hIb hIc
  refine wp_region_held_drew (S := fun w' => Below W.heap.size W w') (by kernel_rfl) (Below.refl _ _).drew (fun hHeld => ?_)
  refine held_load 0 7 rfl 26 (.tmp 3) rfl w.heap.size 0 rfl (voteL a) (fun w' h => HA _ h) Try.underlying26 vote_size hHeld ?_
  try simp only [Act.put, List.setIfInBounds_toArray, List.set_cons_zero, List.set_cons_succ]
  refine held_load 1 8 rfl 26 (.tmp 4) rfl (w.heap.size + 1) 0 rfl (voteL b) (fun w' h => HB _ h) Try.underlying26 vote_size hHeld ?_
  try simp only [Act.put, List.setIfInBounds_toArray, List.set_cons_zero, List.set_cons_succ]
  refine held_load 3 10 rfl 26 (.tmp 3) rfl w.heap.size 0 rfl (voteL a) (fun w' h => HA _ h) Try.underlying26 vote_size hHeld ?_
  try simp only [Act.put, List.setIfInBounds_toArray, List.set_cons_zero, List.set_cons_succ]
  refine held_load 4 11 rfl 26 (.tmp 4) rfl (w.heap.size + 1) 0 rfl (voteL b) (fun w' h => HB _ h) Try.underlying26 vote_size hHeld ?_
  try simp only [Act.put, List.setIfInBounds_toArray, List.set_cons_zero, List.set_cons_succ]
  refine held_one (i := 2) (by kernel_rfl) rfl (by rfl) (fun KK hK => ?_)
  go_wp2_with fail
  refine (coLess a b false h1 _).mono ?_
  rintro e w1 ⟨rfl, hb⟩
  go_wp2_with fail
  refine hK.out _ _ (hHeld.trans (hb.mono hHeld.size)) (fun hHeld1 => ?_)
  clear hK KK
  try simp only [Act.put, List.setIfInBounds_toArray, List.set_cons_zero, List.set_cons_succ]
  refine held_one (i := 5) (by kernel_rfl) rfl (by rfl) (fun KK hK => ?_)
  go_wp2_with fail
  refine (rfLess a b false h1 _).mono ?_
  rintro e w2 ⟨rfl, hb⟩
  go_wp2_with fail
  refine hK.out _ _ (hHeld1.trans (hb.mono hHeld1.size)) (fun hHeld2 => ?_)
  clear hK KK
  try simp only [Act.put, List.setIfInBounds_toArray, List.set_cons_zero, List.set_cons_succ]
  refine held_pure 6 13 (.bool false) rfl (fun W => by go_simp) hHeld2 ?_
  try simp only [Act.put, List.setIfInBounds_toArray, List.set_cons_zero, List.set_cons_succ]
  refine held_pure 7 14 (.bool false) rfl (fun W => by rfl) hHeld2 ?_
  try simp only [Act.put, List.setIfInBounds_toArray, List.set_cons_zero, List.set_cons_succ]
  refine held_load 8 15 rfl 26 (.tmp 3) rfl w.heap.size 0 rfl (voteL a) (fun w' h => HA _ h) Try.underlying26 vote_size hHeld2 ?_
  try simp only [Act.put, List.setIfInBounds_toArray, List.set_cons_zero, List.set_cons_succ]
  refine held_load 9 16 rfl 26 (.tmp 3) rfl w.heap.size 0 rfl (voteL a) (fun w' h => HA _ h) Try.underlying26 vote_size hHeld2 ?_
  try simp only [Act.put, List.setIfInBounds_toArray, List.set_cons_zero, List.set_cons_succ]
  refine held_one (i := 10) (by kernel_rfl) rfl (by rfl) (fun KK hK => ?_)
  go_wp2_with fail
  refine (coLess a a false h2 _).mono ?_
  rintro e w3 ⟨rfl, hb⟩
  go_wp2_with fail
  refine hK.out _ _ (hHeld2.trans (hb.mono hHeld2.size)) (fun hHeld3 => ?_)
  clear hK KK
  try simp only [Act.put, List.setIfInBounds_toArray, List.set_cons_zero, List.set_cons_succ]
  refine held_pure 11 18 (.bool false) rfl (fun W => by rfl) hHeld3 ?_
  try simp only [Act.put, List.setIfInBounds_toArray, List.set_cons_zero, List.set_cons_succ]
  refine wpAnyH_done (by kernel_rfl) ?_ _
  try simp only [Act.put, List.setIfInBounds_toArray, List.set_cons_zero, List.set_cons_succ]
  go_wp2_with (first | (refine wpList_load_w (by rfl) 26 (.tmp 3) rfl w.heap.size 0 (by rfl) (voteL a) _ (HA _ hHeld3) Try.underlying26 rfl vote_size ?_) | (refine wpList_load_w (by rfl) 26 (.tmp 4) rfl (w.heap.size + 1) 0 (by rfl) (voteL b) _ (HB _ hHeld3) Try.underlying26 rfl vote_size ?_) | (refine wpList_load_w (by rfl) 26 (.tmp 5) rfl (w.heap.size + 2) 0 (by rfl) (voteL c) _ (HC _ hHeld3) Try.underlying26 rfl vote_size ?_) | fail)
  refine (coLess a b false h1 _).mono ?_
  rintro e w11 ⟨rfl, hb11⟩
  have hB11 := Below.trans hHeld3 (hb11.mono (Below.size hHeld3))
  go_wp2_with (first | (refine wpList_load_w (by rfl) 26 (.tmp 3) rfl w.heap.size 0 (by rfl) (voteL a) _ (HA _ hB11) Try.underlying26 rfl vote_size ?_) | (refine wpList_load_w (by rfl) 26 (.tmp 4) rfl (w.heap.size + 1) 0 (by rfl) (voteL b) _ (HB _ hB11) Try.underlying26 rfl vote_size ?_) | (refine wpList_load_w (by rfl) 26 (.tmp 5) rfl (w.heap.size + 2) 0 (by rfl) (voteL c) _ (HC _ hB11) Try.underlying26 rfl vote_size ?_) | fail)
  refine (coLess a b false h1 _).mono ?_
  rintro e w12 ⟨rfl, hb12⟩
  have hB12 := Below.trans hB11 (hb12.mono (Below.size hB11))
  go_wp2_with (first | (refine wpList_load_w (by rfl) 26 (.tmp 3) rfl w.heap.size 0 (by rfl) (voteL a) _ (HA _ hB12) Try.underlying26 rfl vote_size ?_) | (refine wpList_load_w (by rfl) 26 (.tmp 4) rfl (w.heap.size + 1) 0 (by rfl) (voteL b) _ (HB _ hB12) Try.underlying26 rfl vote_size ?_) | (refine wpList_load_w (by rfl) 26 (.tmp 5) rfl (w.heap.size + 2) 0 (by rfl) (voteL c) _ (HC _ hB12) Try.underlying26 rfl vote_size ?_) | fail)
  refine (awake_any _).mono ?_
  rintro e w13 ⟨rfl, hb13⟩
  have hB13 := Below.trans hB12 (hb13.mono (Below.size hB12))
  go_wp2_with fail
  go_ret
  exact ⟨rfl, hF.1.trans (Below.mono hB13 (by have := hF.2; omega))⟩

set_option maxRecDepth 10000 in
set_option maxHeartbeats 1000000 in
theorem walk_C (w : World) (a b c : VoteV) (_ha : a.I) (_hb : b.I) (_hc : c.I) (h1 : Hid (lessF a b = false)) (h2 : Hid (lessF a a = false)) (he : vtEq a b = false) (h3 : Hid (lessF b a = true)) :
    Calls Try.prog 7 #[vV a, vV b, vV c] w fun e w' => e = .returned (.bool true) ∧ Below w.heap.size w w' := by
  obtain ⟨hIa, hIb, hIc, hF⟩ := threeW_facts w a b c
  go_enter Try.func7, Try.ntmps7
  go_wp2_with fail
  change Code.wp _ _ _ _ (threeW w a b c)
  generalize threeW w a b c = W at *
  have HA := vote_later hIa
  have HB := vote_later hIb
  have HC := vote_later hIc
  clear hIa hIb hIc
  refine wp_region_held_drew (S := fun w' => Below W.heap.size W w') (by kernel_rfl) (Below.refl _ _).drew (fun hHeld => ?_)
  refine held_load 0 7 rfl 26 (.tmp 3) rfl w.heap.size 0 rfl (voteL a) (fun w' h => HA _ h) Try.underlying26 vote_size hHeld ?_
  try simp only [Act.put, List.setIfInBounds_toArray, List.set_cons_zero, List.set_cons_succ]
  refine held_load 1 8 rfl 26 (.tmp 4) rfl (w.heap.size + 1) 0 rfl (voteL b) (fun w' h => HB _ h) Try.underlying26 vote_size hHeld ?_
  try simp only [Act.put, List.setIfInBounds_toArray, List.set_cons_zero, List.set_cons_succ]
  refine held_load 3 10 rfl 26 (.tmp 3) rfl w.heap.size 0 rfl (voteL a) (fun w' h => HA _ h) Try.underlying26 vote_size hHeld ?_
  try simp only [Act.put, List.setIfInBounds_toArray, List.set_cons_zero, List.set_cons_succ]
  refine held_load 4 11 rfl 26 (.tmp 4) rfl (w.heap.size + 1) 0 rfl (voteL b) (fun w' h => HB _ h) Try.underlying26 vote_size hHeld ?_
  try simp only [Act.put, List.setIfInBounds_toArray, List.set_cons_zero, List.set_cons_succ]
  refine held_one (i := 2) (by kernel_rfl) rfl (by rfl) (fun KK hK => ?_)
  go_wp2_with fail
  refine (coLess a b false h1 _).mono ?_
  rintro e w1 ⟨rfl, hb⟩
  go_wp2_with fail
  refine hK.out _ _ (hHeld.trans (hb.mono hHeld.size)) (fun hHeld1 => ?_)
  clear hK KK
  try simp only [Act.put, List.setIfInBounds_toArray, List.set_cons_zero, List.set_cons_succ]
  refine held_one (i := 5) (by kernel_rfl) rfl (by rfl) (fun KK hK => ?_)
  go_wp2_with fail
  refine (rfLess a b false h1 _).mono ?_
  rintro e w2 ⟨rfl, hb⟩
  go_wp2_with fail
  refine hK.out _ _ (hHeld1.trans (hb.mono hHeld1.size)) (fun hHeld2 => ?_)
  clear hK KK
  try simp only [Act.put, List.setIfInBounds_toArray, List.set_cons_zero, List.set_cons_succ]
  refine held_pure 6 13 (.bool false) rfl (fun W => by go_simp) hHeld2 ?_
  try simp only [Act.put, List.setIfInBounds_toArray, List.set_cons_zero, List.set_cons_succ]
  refine held_pure 7 14 (.bool false) rfl (fun W => by rfl) hHeld2 ?_
  try simp only [Act.put, List.setIfInBounds_toArray, List.set_cons_zero, List.set_cons_succ]
  refine held_load 8 15 rfl 26 (.tmp 3) rfl w.heap.size 0 rfl (voteL a) (fun w' h => HA _ h) Try.underlying26 vote_size hHeld2 ?_
  try simp only [Act.put, List.setIfInBounds_toArray, List.set_cons_zero, List.set_cons_succ]
  refine held_load 9 16 rfl 26 (.tmp 3) rfl w.heap.size 0 rfl (voteL a) (fun w' h => HA _ h) Try.underlying26 vote_size hHeld2 ?_
  try simp only [Act.put, List.setIfInBounds_toArray, List.set_cons_zero, List.set_cons_succ]
  refine held_one (i := 10) (by kernel_rfl) rfl (by rfl) (fun KK hK => ?_)
  go_wp2_with fail
  refine (coLess a a false h2 _).mono ?_
  rintro e w3 ⟨rfl, hb⟩
  go_wp2_with fail
  refine hK.out _ _ (hHeld2.trans (hb.mono hHeld2.size)) (fun hHeld3 => ?_)
  clear hK KK
  try simp only [Act.put, List.setIfInBounds_toArray, List.set_cons_zero, List.set_cons_succ]
  refine held_pure 11 18 (.bool false) rfl (fun W => by rfl) hHeld3 ?_
  try simp only [Act.put, List.setIfInBounds_toArray, List.set_cons_zero, List.set_cons_succ]
  refine wpAnyH_done (by kernel_rfl) ?_ _
  try simp only [Act.put, List.setIfInBounds_toArray, List.set_cons_zero, List.set_cons_succ]
  go_wp2_with (first | (refine wpList_load_w (by rfl) 26 (.tmp 3) rfl w.heap.size 0 (by rfl) (voteL a) _ (HA _ hHeld3) Try.underlying26 rfl vote_size ?_) | (refine wpList_load_w (by rfl) 26 (.tmp 4) rfl (w.heap.size + 1) 0 (by rfl) (voteL b) _ (HB _ hHeld3) Try.underlying26 rfl vote_size ?_) | (refine wpList_load_w (by rfl) 26 (.tmp 5) rfl (w.heap.size + 2) 0 (by rfl) (voteL c) _ (HC _ hHeld3) Try.underlying26 rfl vote_size ?_) | fail)
  refine (coLess a b false h1 _).mono ?_
  rintro e w11 ⟨rfl, hb11⟩
  have hB11 := Below.trans hHeld3 (hb11.mono (Below.size hHeld3))
  go_wp2_with (first | (refine wpList_load_w (by rfl) 26 (.tmp 3) rfl w.heap.size 0 (by rfl) (voteL a) _ (HA _ hB11) Try.underlying26 rfl vote_size ?_) | (refine wpList_load_w (by rfl) 26 (.tmp 4) rfl (w.heap.size + 1) 0 (by rfl) (voteL b) _ (HB _ hB11) Try.underlying26 rfl vote_size ?_) | (refine wpList_load_w (by rfl) 26 (.tmp 5) rfl (w.heap.size + 2) 0 (by rfl) (voteL c) _ (HC _ hB11) Try.underlying26 rfl vote_size ?_) | fail)
  refine (coLess a b false h1 _).mono ?_
  rintro e w12 ⟨rfl, hb12⟩
  have hB12 := Below.trans hB11 (hb12.mono (Below.size hB11))
  go_wp2_with (first | (refine wpList_load_w (by rfl) 26 (.tmp 3) rfl w.heap.size 0 (by rfl) (voteL a) _ (HA _ hB12) Try.underlying26 rfl vote_size ?_) | (refine wpList_load_w (by rfl) 26 (.tmp 4) rfl (w.heap.size + 1) 0 (by rfl) (voteL b) _ (HB _ hB12) Try.underlying26 rfl vote_size ?_) | (refine wpList_load_w (by rfl) 26 (.tmp 5) rfl (w.heap.size + 2) 0 (by rfl) (voteL c) _ (HC _ hB12) Try.underlying26 rfl vote_size ?_) | fail)
  refine (coLess b a true h3 _).mono ?_
  rintro e w13 ⟨rfl, hb13⟩
  have hB13 := Below.trans hB12 (hb13.mono (Below.size hB12))
  go_wp2_with (first | (refine wpList_load_w (by rfl) 26 (.tmp 3) rfl w.heap.size 0 (by rfl) (voteL a) _ (HA _ hB13) Try.underlying26 rfl vote_size ?_) | (refine wpList_load_w (by rfl) 26 (.tmp 4) rfl (w.heap.size + 1) 0 (by rfl) (voteL b) _ (HB _ hB13) Try.underlying26 rfl vote_size ?_) | (refine wpList_load_w (by rfl) 26 (.tmp 5) rfl (w.heap.size + 2) 0 (by rfl) (voteL c) _ (HC _ hB13) Try.underlying26 rfl vote_size ?_) | fail)
  refine (coLess a b false h1 _).mono ?_
  rintro e w14 ⟨rfl, hb14⟩
  have hB14 := Below.trans hB13 (hb14.mono (Below.size hB13))
  go_wp2_with (first | (refine wpList_load_w (by rfl) 26 (.tmp 3) rfl w.heap.size 0 (by rfl) (voteL a) _ (HA _ hB14) Try.underlying26 rfl vote_size ?_) | (refine wpList_load_w (by rfl) 26 (.tmp 4) rfl (w.heap.size + 1) 0 (by rfl) (voteL b) _ (HB _ hB14) Try.underlying26 rfl vote_size ?_) | (refine wpList_load_w (by rfl) 26 (.tmp 5) rfl (w.heap.size + 2) 0 (by rfl) (voteL c) _ (HC _ hB14) Try.underlying26 rfl vote_size ?_) | fail)
  refine (awake_any _).mono ?_
  rintro e w15 ⟨rfl, hb15⟩
  have hB15 := Below.trans hB14 (hb15.mono (Below.size hB14))
  go_wp2_with fail
  go_ret
  exact ⟨rfl, hF.1.trans (Below.mono hB15 (by have := hF.2; omega))⟩

theorem walk (w : World) (a b c : VoteV) (ha : a.I) (hb : b.I) (hc : c.I) : Calls Try.prog 7 #[vV a, vV b, vV c] w fun e w' => e = .returned (.bool true) ∧ Below w.heap.size w w' := by
  have h2 := Lib.hid (lessF_self a)
  cases h1 : lessF a b
  · by_cases e : a = b
    · exact walk_B w a b c ha hb hc (Lib.hid h1) h2 (decide_eq_true e)
    · exact walk_C w a b c ha hb hc (Lib.hid h1) h2 (decide_eq_false e) (Lib.hid (lessF_total e h1))
  · have e : a ≠ b := fun e => by rw [e, lessF_self] at h1; cases h1
    cases h4 : lessF b c
    · exact walk_A2 w a b c ha hb hc (Lib.hid h1) h2 (decide_eq_false e) (Lib.hid (lessF_asym h1)) (Lib.hid h4)
    · exact walk_A1 w a b c ha hb hc (Lib.hid h1) h2 (decide_eq_false e) (Lib.hid (lessF_asym h1)) (Lib.hid h4) (Lib.hid (lessF_trans h1 h4))

set_option maxRecDepth 100000 in
/-- The law's step, at every reading. -/
theorem lifted (os : Os) (started : os.Started) (H : Type) (enc : TypeId × Value → H) :
    ReturnsInHanded {} Try.checked os 7 .any (Rows.voteOrderSpec.pre6 enc Try.prog Try.f7 Rows.voteOrderRow.domain false) (Rows.voteOrderSpec.post enc Try.prog Try.f7 false true false false) := by
  refine law_lifted (C := Try.checked) (n := 3) (tb := 4) own started (by kernel_rfl) Try.func7 rfl (by kernel_rfl)
    (of_decide_eq_true (by kernel_rfl)) (by kernel_rfl) (by kernel_rfl) Try.underlying4
    (fun ds hd => by match ds, hd with | [_, _, _], _ => rfl)
    (ChangeSpec.witness6 (enc := enc) (C := Try.checked) false ⟨#[], #[.agg #[.int .i64 0, .int .i64 0, .int .i64 0, .int .i64 0, .int .i64 0, .int .i64 0, .int .u8 0, .int .u8 0, .int .u8 0, .int .u8 0, .int .u8 0, .int .u8 0, .int .u8 0, .int .u8 0, .int .u8 0, .int .u8 0, .int .u8 0, .int .u8 0, .int .u8 0, .int .u8 0, .int .u8 0, .int .u8 0], .agg #[.int .i64 0, .int .i64 0, .int .i64 0, .int .i64 0, .int .i64 0, .int .i64 0, .int .u8 0, .int .u8 0, .int .u8 0, .int .u8 0, .int .u8 0, .int .u8 0, .int .u8 0, .int .u8 0, .int .u8 0, .int .u8 0, .int .u8 0, .int .u8 0, .int .u8 0, .int .u8 0, .int .u8 0, .int .u8 0], .agg #[.int .i64 0, .int .i64 0, .int .i64 0, .int .i64 0, .int .i64 0, .int .i64 0, .int .u8 0, .int .u8 0, .int .u8 0, .int .u8 0, .int .u8 0, .int .u8 0, .int .u8 0, .int .u8 0, .int .u8 0, .int .u8 0, .int .u8 0, .int .u8 0, .int .u8 0, .int .u8 0, .int .u8 0, .int .u8 0]], []⟩ 8 (by kernel_rfl) (by kernel_rfl) (by kernel_rfl) (by kernel_rfl)) ?_
  intro W base args ds ps hval hA hlt hsz
  rw [Try.params7] at hA hval
  obtain ⟨v0, vs0, d0, ds0, p0, q0, hargs, rfl, rfl, h0, r0⟩ := trodAll_cons hA
  obtain ⟨v1, vs1, d1, ds1, p1, q1, rfl, rfl, rfl, h1, r1⟩ := trodAll_cons r0
  obtain ⟨v2, vs2, d2, ds2, p2, q2, rfl, rfl, rfl, h2, r2⟩ := trodAll_cons r1
  obtain ⟨rfl, rfl, rfl⟩ := trodAll_nil r2
  obtain rfl : args = #[v0, v1, v2] := by cases args; simp_all
  obtain ⟨x0, rfl, hx0⟩ := open_vote (hval 0 _ v0 rfl rfl) h0 (fun x hx => hlt x (by simp [hx])) hsz (j := 0) (by rw [Try.params7]; rfl) rfl
  obtain ⟨x1, rfl, hx1⟩ := open_vote (hval 1 _ v1 rfl rfl) h1 (fun x hx => hlt x (by simp [hx])) hsz (j := 1) (by rw [Try.params7]; rfl) rfl
  obtain ⟨x2, rfl, hx2⟩ := open_vote (hval 2 _ v2 rfl rfl) h2 (fun x hx => hlt x (by simp [hx])) hsz (j := 2) (by rw [Try.params7]; rfl) rfl
  exact walk W x0 x1 x2 hx0 hx1 hx2

theorem proved : Rows.VoteOrderSaid :=
  OpenClaim.holds_of_wide 7 Try.f7 rfl rfl rfl rfl rfl rfl rfl ⟨rfl, rfl, rfl, rfl, rfl⟩ rfl rfl rfl rfl rfl (by kernel_rfl) Try.func7 (by kernel_rfl)
    (of_decide_eq_true (by kernel_rfl)) (by unfold Func.isWrapper; first | (rw [if_pos (by decide +kernel)]; kernel_rfl) | (rw [if_neg (by decide +kernel)]; exact ⟨rfl, rfl⟩))
    (fun os started H enc _ => lifted os started H enc)
#print axioms proved
end Go.Proofs.Ytpnmmfacnflngaa.voteOrder
