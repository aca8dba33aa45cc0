/-
  The statement VoteConflicts, proved for all votes, with no condition: SameKey and Conflict are as documented; Conflict is symmetric, no vote is in conflict with itself, conflicting votes have one signer.
-/
import Derived.Test.YtpnmmfacnflngaaLaw7A
namespace Go.Proofs.Ytpnmmfacnflngaa.voteConflicts
open Go.ChangeShapes Go.WideShapes Go.ChangeAt Go.RowKit Go.Fl

attribute [local go_sem] equal_nm eqGuard_nm eqGuard_vote
attribute [local go_sem high] equal_voteL

set_option maxRecDepth 10000 in
set_option maxHeartbeats 1000000 in
theorem walk_true (w : World) (a b : VoteV) (ha : a.I) (hb0 : b.I) (s : Bool) (hs : Hid (sameF a b = s)) (hc1 : Hid (conflictF a b = true)) (hc2 : Hid (conflictF b a = true)) (hc3 : Hid (conflictF a a = false)) (hs2 : Hid (sameF a a = true)) (hsg : a.signer = b.signer) (hne : vtEq a b = false) :
    Calls Try.prog 6 #[vV a, vV b] w fun e w' => e = .returned (.bool true) ∧ Below w.heap.size w w' := by
  obtain ⟨hIa, hIb, hF⟩ := twoW_facts w a b
  go_enter Try.func6, Try.ntmps6
  go_wp2_with fail
  change Code.wp _ _ _ _ (twoW w a b)
  generalize twoW w a b = W at *
  have HA := vote_later hIa
  have HB := vote_later hIb
  clear hIa hIb
  have HA4 : ∀ w' : World, Below W.heap.size W w' → w'.cell? ⟨w.heap.size, 4, none⟩ = some (.int .i64 a.signer) := fun w' h => by have := HA w' h 4 _ rfl; simpa using this
  have HB4 : ∀ w' : World, Below W.heap.size W w' → w'.cell? ⟨w.heap.size + 1, 4, none⟩ = some (.int .i64 b.signer) := fun w' h => by have := HB w' h 4 _ rfl; simpa using this
  refine wp_region_held_drew (S := fun w' => Below W.heap.size W w') (by kernel_rfl) (Below.refl _ _).drew (fun hHeld => ?_)
  refine held_load 0 5 rfl 26 (.tmp 2) rfl w.heap.size 0 rfl (voteL a) (fun w' h => HA _ h) Try.underlying26 vote_size hHeld ?_
  try simp only [Act.put, List.setIfInBounds_toArray, List.set_cons_zero, List.set_cons_succ]
  refine held_load 1 6 rfl 26 (.tmp 3) rfl (w.heap.size + 1) 0 rfl (voteL b) (fun w' h => HB _ h) Try.underlying26 vote_size hHeld ?_
  try simp only [Act.put, List.setIfInBounds_toArray, List.set_cons_zero, List.set_cons_succ]
  refine held_load 3 8 rfl 26 (.tmp 2) rfl w.heap.size 0 rfl (voteL a) (fun w' h => HA _ h) Try.underlying26 vote_size hHeld ?_
  try simp only [Act.put, List.setIfInBounds_toArray, List.set_cons_zero, List.set_cons_succ]
  refine held_load 4 9 rfl 26 (.tmp 3) rfl (w.heap.size + 1) 0 rfl (voteL b) (fun w' h => HB _ h) Try.underlying26 vote_size hHeld ?_
  try simp only [Act.put, List.setIfInBounds_toArray, List.set_cons_zero, List.set_cons_succ]
  refine held_one (i := 2) (by kernel_rfl) rfl (by rfl) (fun KK hK => ?_)
  go_wp2_with fail
  refine (coSame a b s hs _).mono ?_
  rintro e w1 ⟨rfl, hb⟩
  go_wp2_with fail
  refine hK.out _ _ (hHeld.trans (hb.mono hHeld.size)) (fun hHeld1 => ?_)
  clear hK KK
  try simp only [Act.put, List.setIfInBounds_toArray, List.set_cons_zero, List.set_cons_succ]
  refine held_one (i := 5) (by kernel_rfl) rfl (by rfl) (fun KK hK => ?_)
  go_wp2_with fail
  refine (rfSame a b s hs _).mono ?_
  rintro e w2 ⟨rfl, hb⟩
  go_wp2_with fail
  refine hK.out _ _ (hHeld1.trans (hb.mono hHeld1.size)) (fun hHeld2 => ?_)
  clear hK KK
  try simp only [Act.put, List.setIfInBounds_toArray, List.set_cons_zero, List.set_cons_succ]
  refine held_pure 6 11 (.bool false) rfl (fun W => by go_simp) hHeld2 ?_
  try simp only [Act.put, List.setIfInBounds_toArray, List.set_cons_zero, List.set_cons_succ]
  refine held_pure 7 12 (.bool false) rfl (fun W => by rfl) hHeld2 ?_
  try simp only [Act.put, List.setIfInBounds_toArray, List.set_cons_zero, List.set_cons_succ]
  refine held_load 8 13 rfl 26 (.tmp 2) rfl w.heap.size 0 rfl (voteL a) (fun w' h => HA _ h) Try.underlying26 vote_size hHeld2 ?_
  try simp only [Act.put, List.setIfInBounds_toArray, List.set_cons_zero, List.set_cons_succ]
  refine held_load 9 14 rfl 26 (.tmp 3) rfl (w.heap.size + 1) 0 rfl (voteL b) (fun w' h => HB _ h) Try.underlying26 vote_size hHeld2 ?_
  try simp only [Act.put, List.setIfInBounds_toArray, List.set_cons_zero, List.set_cons_succ]
  refine held_load 11 16 rfl 26 (.tmp 2) rfl w.heap.size 0 rfl (voteL a) (fun w' h => HA _ h) Try.underlying26 vote_size hHeld2 ?_
  try simp only [Act.put, List.setIfInBounds_toArray, List.set_cons_zero, List.set_cons_succ]
  refine held_load 12 17 rfl 26 (.tmp 3) rfl (w.heap.size + 1) 0 rfl (voteL b) (fun w' h => HB _ h) Try.underlying26 vote_size hHeld2 ?_
  try simp only [Act.put, List.setIfInBounds_toArray, List.set_cons_zero, List.set_cons_succ]
  refine held_one (i := 10) (by kernel_rfl) rfl (by rfl) (fun KK hK => ?_)
  go_wp2_with fail
  refine (coConf a b ha hb0 true hc1 _).mono ?_
  rintro e w3 ⟨rfl, hb⟩
  go_wp2_with fail
  refine hK.out _ _ (hHeld2.trans (hb.mono hHeld2.size)) (fun hHeld3 => ?_)
  clear hK KK
  try simp only [Act.put, List.setIfInBounds_toArray, List.set_cons_zero, List.set_cons_succ]
  refine held_one (i := 13) (by kernel_rfl) rfl (by rfl) (fun KK hK => ?_)
  go_wp2_with fail
  refine (rfConf a b ha hb0 true hc1 _).mono ?_
  rintro e w4 ⟨rfl, hb⟩
  go_wp2_with fail
  refine hK.out _ _ (hHeld3.trans (hb.mono hHeld3.size)) (fun hHeld4 => ?_)
  clear hK KK
  try simp only [Act.put, List.setIfInBounds_toArray, List.set_cons_zero, List.set_cons_succ]
  refine held_pure 14 19 (.bool false) rfl (fun W => by go_simp) hHeld4 ?_
  try simp only [Act.put, List.setIfInBounds_toArray, List.set_cons_zero, List.set_cons_succ]
  refine held_pure 15 20 (.bool false) rfl (fun W => by rfl) hHeld4 ?_
  try simp only [Act.put, List.setIfInBounds_toArray, List.set_cons_zero, List.set_cons_succ]
  refine wpAnyH_done (by kernel_rfl) ?_ _
  try simp only [Act.put, List.setIfInBounds_toArray, List.set_cons_zero, List.set_cons_succ]
  go_wp2_with fail
  refine wp_region_held_drew (S := fun w' => Below W.heap.size W w') (by kernel_rfl) (hHeld4).drew (fun hK3 => ?_)
  refine held_load 0 21 rfl 26 (.tmp 2) rfl w.heap.size 0 rfl (voteL a) (fun w' h => HA _ h) Try.underlying26 vote_size hK3 ?_
  try simp only [Act.put, List.setIfInBounds_toArray, List.set_cons_zero, List.set_cons_succ]
  refine held_load 1 22 rfl 26 (.tmp 3) rfl (w.heap.size + 1) 0 rfl (voteL b) (fun w' h => HB _ h) Try.underlying26 vote_size hK3 ?_
  try simp only [Act.put, List.setIfInBounds_toArray, List.set_cons_zero, List.set_cons_succ]
  refine held_load 3 24 rfl 26 (.tmp 3) rfl (w.heap.size + 1) 0 rfl (voteL b) (fun w' h => HB _ h) Try.underlying26 vote_size hK3 ?_
  try simp only [Act.put, List.setIfInBounds_toArray, List.set_cons_zero, List.set_cons_succ]
  refine held_load 4 25 rfl 26 (.tmp 2) rfl w.heap.size 0 rfl (voteL a) (fun w' h => HA _ h) Try.underlying26 vote_size hK3 ?_
  try simp only [Act.put, List.setIfInBounds_toArray, List.set_cons_zero, List.set_cons_succ]
  refine held_one (i := 2) (by kernel_rfl) rfl (by rfl) (fun KK hK => ?_)
  go_wp2_with fail
  refine (coConf a b ha hb0 true hc1 _).mono ?_
  rintro e w5 ⟨rfl, hb⟩
  go_wp2_with fail
  refine hK.out _ _ (hK3.trans (hb.mono hK3.size)) (fun hK31 => ?_)
  clear hK KK
  try simp only [Act.put, List.setIfInBounds_toArray, List.set_cons_zero, List.set_cons_succ]
  refine held_one (i := 5) (by kernel_rfl) rfl (by rfl) (fun KK hK => ?_)
  go_wp2_with fail
  refine (coConf b a hb0 ha true hc2 _).mono ?_
  rintro e w6 ⟨rfl, hb⟩
  go_wp2_with fail
  refine hK.out _ _ (hK31.trans (hb.mono hK31.size)) (fun hK32 => ?_)
  clear hK KK
  try simp only [Act.put, List.setIfInBounds_toArray, List.set_cons_zero, List.set_cons_succ]
  refine held_pure 6 27 (.bool false) rfl (fun W => by go_simp) hK32 ?_
  try simp only [Act.put, List.setIfInBounds_toArray, List.set_cons_zero, List.set_cons_succ]
  refine held_pure 7 28 (.bool false) rfl (fun W => by rfl) hK32 ?_
  try simp only [Act.put, List.setIfInBounds_toArray, List.set_cons_zero, List.set_cons_succ]
  refine held_load 8 29 rfl 26 (.tmp 2) rfl w.heap.size 0 rfl (voteL a) (fun w' h => HA _ h) Try.underlying26 vote_size hK32 ?_
  try simp only [Act.put, List.setIfInBounds_toArray, List.set_cons_zero, List.set_cons_succ]
  refine held_load 9 30 rfl 26 (.tmp 2) rfl w.heap.size 0 rfl (voteL a) (fun w' h => HA _ h) Try.underlying26 vote_size hK32 ?_
  try simp only [Act.put, List.setIfInBounds_toArray, List.set_cons_zero, List.set_cons_succ]
  refine held_one (i := 10) (by kernel_rfl) rfl (by rfl) (fun KK hK => ?_)
  go_wp2_with fail
  refine (coConf a a ha ha false hc3 _).mono ?_
  rintro e w7 ⟨rfl, hb⟩
  go_wp2_with fail
  refine hK.out _ _ (hK32.trans (hb.mono hK32.size)) (fun hK33 => ?_)
  clear hK KK
  try simp only [Act.put, List.setIfInBounds_toArray, List.set_cons_zero, List.set_cons_succ]
  refine held_pure 11 32 (.bool false) rfl (fun W => by rfl) hK33 ?_
  try simp only [Act.put, List.setIfInBounds_toArray, List.set_cons_zero, List.set_cons_succ]
  refine held_pure 12 33 (.bool false) rfl (fun W => by rfl) hK33 ?_
  try simp only [Act.put, List.setIfInBounds_toArray, List.set_cons_zero, List.set_cons_succ]
  refine held_load 13 34 rfl 26 (.tmp 2) rfl w.heap.size 0 rfl (voteL a) (fun w' h => HA _ h) Try.underlying26 vote_size hK33 ?_
  try simp only [Act.put, List.setIfInBounds_toArray, List.set_cons_zero, List.set_cons_succ]
  refine held_load 14 35 rfl 26 (.tmp 3) rfl (w.heap.size + 1) 0 rfl (voteL b) (fun w' h => HB _ h) Try.underlying26 vote_size hK33 ?_
  try simp only [Act.put, List.setIfInBounds_toArray, List.set_cons_zero, List.set_cons_succ]
  refine held_one (i := 15) (by kernel_rfl) rfl (by rfl) (fun KK hK => ?_)
  go_wp2_with fail
  refine (coConf a b ha hb0 true hc1 _).mono ?_
  rintro e w8 ⟨rfl, hb⟩
  go_wp2_with fail
  refine hK.out _ _ (hK33.trans (hb.mono hK33.size)) (fun hK34 => ?_)
  clear hK KK
  try simp only [Act.put, List.setIfInBounds_toArray, List.set_cons_zero, List.set_cons_succ]
  refine held_pure 16 37 (.bool true) rfl (fun W => by rfl) hK34 ?_
  try simp only [Act.put, List.setIfInBounds_toArray, List.set_cons_zero, List.set_cons_succ]
  refine held_pure 17 38 (.pointer (some ⟨w.heap.size, 4, none⟩)) rfl (fun W => by go_simp) hK34 ?_
  try simp only [Act.put, List.setIfInBounds_toArray, List.set_cons_zero, List.set_cons_succ]
  refine held_if 18 39 (.int .i64 a.signer) rfl (fun w' h => by (have hc := HA4 _ h; go_simp)) hK34 ?_
  try simp only [Act.put, List.setIfInBounds_toArray, List.set_cons_zero, List.set_cons_succ]
  refine held_pure 19 40 (.pointer (some ⟨w.heap.size + 1, 4, none⟩)) rfl (fun W => by go_simp) hK34 ?_
  try simp only [Act.put, List.setIfInBounds_toArray, List.set_cons_zero, List.set_cons_succ]
  refine held_if 20 41 (.int .i64 b.signer) rfl (fun w' h => by (have hc := HB4 _ h; go_simp)) hK34 ?_
  try simp only [Act.put, List.setIfInBounds_toArray, List.set_cons_zero, List.set_cons_succ]
  refine held_pure 21 42 (.bool false) rfl (fun W => by go_simp) hK34 ?_
  try simp only [Act.put, List.setIfInBounds_toArray, List.set_cons_zero, List.set_cons_succ]
  refine held_pure 22 43 (.bool false) rfl (fun W => by rfl) hK34 ?_
  try simp only [Act.put, List.setIfInBounds_toArray, List.set_cons_zero, List.set_cons_succ]
  refine held_load 23 44 rfl 26 (.tmp 2) rfl w.heap.size 0 rfl (voteL a) (fun w' h => HA _ h) Try.underlying26 vote_size hK34 ?_
  try simp only [Act.put, List.setIfInBounds_toArray, List.set_cons_zero, List.set_cons_succ]
  refine held_load 24 45 rfl 26 (.tmp 3) rfl (w.heap.size + 1) 0 rfl (voteL b) (fun w' h => HB _ h) Try.underlying26 vote_size hK34 ?_
  try simp only [Act.put, List.setIfInBounds_toArray, List.set_cons_zero, List.set_cons_succ]
  refine held_pure 25 46 (.bool false) rfl (fun W => by go_simp) hK34 ?_
  try simp only [Act.put, List.setIfInBounds_toArray, List.set_cons_zero, List.set_cons_succ]
  refine held_pure 26 47 (.bool false) rfl (fun W => by rfl) hK34 ?_
  try simp only [Act.put, List.setIfInBounds_toArray, List.set_cons_zero, List.set_cons_succ]
  refine held_pure 27 48 (.bool false) rfl (fun W => by rfl) hK34 ?_
  try simp only [Act.put, List.setIfInBounds_toArray, List.set_cons_zero, List.set_cons_succ]
  refine held_pure 28 49 (.bool false) rfl (fun W => by rfl) hK34 ?_
  try simp only [Act.put, List.setIfInBounds_toArray, List.set_cons_zero, List.set_cons_succ]
  refine wpAnyH_done (by kernel_rfl) ?_ _
  try simp only [Act.put, List.setIfInBounds_toArray, List.set_cons_zero, List.set_cons_succ]
  go_wp2_with (first | (refine wpList_load_w (by rfl) 26 (.tmp 2) rfl w.heap.size 0 (by rfl) (voteL a) _ (HA _ hK34) Try.underlying26 rfl vote_size ?_) | (refine wpList_load_w (by rfl) 26 (.tmp 3) rfl (w.heap.size + 1) 0 (by rfl) (voteL b) _ (HB _ hK34) Try.underlying26 rfl vote_size ?_) | fail)
  refine (coSame a a true hs2 _).mono ?_
  rintro e w21 ⟨rfl, hb21⟩
  have hB21 := Below.trans hK34 (hb21.mono (Below.size hK34))
  go_wp2_with (first | (refine wpList_load_w (by rfl) 26 (.tmp 2) rfl w.heap.size 0 (by rfl) (voteL a) _ (HA _ hB21) Try.underlying26 rfl vote_size ?_) | (refine wpList_load_w (by rfl) 26 (.tmp 3) rfl (w.heap.size + 1) 0 (by rfl) (voteL b) _ (HB _ hB21) Try.underlying26 rfl vote_size ?_) | fail)
  refine (awake_any _).mono ?_
  rintro e w22 ⟨rfl, hb22⟩
  have hB22 := Below.trans hB21 (hb22.mono (Below.size hB21))
  go_wp2_with fail
  go_ret
  exact ⟨rfl, hF.1.trans (Below.mono hB22 (by have := hF.2; omega))⟩

set_option maxRecDepth 10000 in
set_option maxHeartbeats 1000000 in
theorem walk_false (w : World) (a b : VoteV) (ha : a.I) (hb0 : b.I) (s : Bool) (hs : Hid (sameF a b = s)) (hc1 : Hid (conflictF a b = false)) (hc2 : Hid (conflictF b a = false)) (hc3 : Hid (conflictF a a = false)) (hs2 : Hid (sameF a a = true)) :
    Calls Try.prog 6 #[vV a, vV b] w fun e w' => e = .returned (.bool true) ∧ Below w.heap.size w w' := by
  obtain ⟨hIa, hIb, hF⟩ := twoW_facts w a b
  go_enter Try.func6, Try.ntmps6
  go_wp2_with fail
  change Code.wp _ _ _ _ (twoW w a b)
  generalize twoW w a b = W at *
  have HA := vote_later hIa
  have HB := vote_later hIb
  clear hIa hIb
  refine wp_region_held_drew (S := fun w' => Below W.heap.size W w') (by kernel_rfl) (Below.refl _ _).drew (fun hHeld => ?_)
  refine held_load 0 5 rfl 26 (.tmp 2) rfl w.heap.size 0 rfl (voteL a) (fun w' h => HA _ h) Try.underlying26 vote_size hHeld ?_
  try simp only [Act.put, List.setIfInBounds_toArray, List.set_cons_zero, List.set_cons_succ]
  refine held_load 1 6 rfl 26 (.tmp 3) rfl (w.heap.size + 1) 0 rfl (voteL b) (fun w' h => HB _ h) Try.underlying26 vote_size hHeld ?_
  try simp only [Act.put, List.setIfInBounds_toArray, List.set_cons_zero, List.set_cons_succ]
  refine held_load 3 8 rfl 26 (.tmp 2) rfl w.heap.size 0 rfl (voteL a) (fun w' h => HA _ h) Try.underlying26 vote_size hHeld ?_
  try simp only [Act.put, List.setIfInBounds_toArray, List.set_cons_zero, List.set_cons_succ]
  refine held_load 4 9 rfl 26 (.tmp 3) rfl (w.heap.size + 1) 0 rfl (voteL b) (fun w' h => HB _ h) Try.underlying26 vote_size hHeld ?_
  try simp only [Act.put, List.setIfInBounds_toArray, List.set_cons_zero, List.set_cons_succ]
  refine held_one (i := 2) (by kernel_rfl) rfl (by rfl) (fun KK hK => ?_)
  go_wp2_with fail
  refine (coSame a b s hs _).mono ?_
  rintro e w1 ⟨rfl, hb⟩
  go_wp2_with fail
  refine hK.out _ _ (hHeld.trans (hb.mono hHeld.size)) (fun hHeld1 => ?_)
  clear hK KK
  try simp only [Act.put, List.setIfInBounds_toArray, List.set_cons_zero, List.set_cons_succ]
  refine held_one (i := 5) (by kernel_rfl) rfl (by rfl) (fun KK hK => ?_)
  go_wp2_with fail
  refine (rfSame a b s hs _).mono ?_
  rintro e w2 ⟨rfl, hb⟩
  go_wp2_with fail
  refine hK.out _ _ (hHeld1.trans (hb.mono hHeld1.size)) (fun hHeld2 => ?_)
  clear hK KK
  try simp only [Act.put, List.setIfInBounds_toArray, List.set_cons_zero, List.set_cons_succ]
  refine held_pure 6 11 (.bool false) rfl (fun W => by go_simp) hHeld2 ?_
  try simp only [Act.put, List.setIfInBounds_toArray, List.set_cons_zero, List.set_cons_succ]
  refine held_pure 7 12 (.bool false) rfl (fun W => by rfl) hHeld2 ?_
  try simp only [Act.put, List.setIfInBounds_toArray, List.set_cons_zero, List.set_cons_succ]
  refine held_load 8 13 rfl 26 (.tmp 2) rfl w.heap.size 0 rfl (voteL a) (fun w' h => HA _ h) Try.underlying26 vote_size hHeld2 ?_
  try simp only [Act.put, List.setIfInBounds_toArray, List.set_cons_zero, List.set_cons_succ]
  refine held_load 9 14 rfl 26 (.tmp 3) rfl (w.heap.size + 1) 0 rfl (voteL b) (fun w' h => HB _ h) Try.underlying26 vote_size hHeld2 ?_
  try simp only [Act.put, List.setIfInBounds_toArray, List.set_cons_zero, List.set_cons_succ]
  refine held_load 11 16 rfl 26 (.tmp 2) rfl w.heap.size 0 rfl (voteL a) (fun w' h => HA _ h) Try.underlying26 vote_size hHeld2 ?_
  try simp only [Act.put, List.setIfInBounds_toArray, List.set_cons_zero, List.set_cons_succ]
  refine held_load 12 17 rfl 26 (.tmp 3) rfl (w.heap.size + 1) 0 rfl (voteL b) (fun w' h => HB _ h) Try.underlying26 vote_size hHeld2 ?_
  try simp only [Act.put, List.setIfInBounds_toArray, List.set_cons_zero, List.set_cons_succ]
  refine held_one (i := 10) (by kernel_rfl) rfl (by rfl) (fun KK hK => ?_)
  go_wp2_with fail
  refine (coConf a b ha hb0 false hc1 _).mono ?_
  rintro e w3 ⟨rfl, hb⟩
  go_wp2_with fail
  refine hK.out _ _ (hHeld2.trans (hb.mono hHeld2.size)) (fun hHeld3 => ?_)
  clear hK KK
  try simp only [Act.put, List.setIfInBounds_toArray, List.set_cons_zero, List.set_cons_succ]
  refine held_one (i := 13) (by kernel_rfl) rfl (by rfl) (fun KK hK => ?_)
  go_wp2_with fail
  refine (rfConf a b ha hb0 false hc1 _).mono ?_
  rintro e w4 ⟨rfl, hb⟩
  go_wp2_with fail
  refine hK.out _ _ (hHeld3.trans (hb.mono hHeld3.size)) (fun hHeld4 => ?_)
  clear hK KK
  try simp only [Act.put, List.setIfInBounds_toArray, List.set_cons_zero, List.set_cons_succ]
  refine held_pure 14 19 (.bool false) rfl (fun W => by go_simp) hHeld4 ?_
  try simp only [Act.put, List.setIfInBounds_toArray, List.set_cons_zero, List.set_cons_succ]
  refine held_pure 15 20 (.bool false) rfl (fun W => by rfl) hHeld4 ?_
  try simp only [Act.put, List.setIfInBounds_toArray, List.set_cons_zero, List.set_cons_succ]
  refine wpAnyH_done (by kernel_rfl) ?_ _
  try simp only [Act.put, List.setIfInBounds_toArray, List.set_cons_zero, List.set_cons_succ]
  go_wp2_with fail
  refine wp_region_held_drew (S := fun w' => Below W.heap.size W w') (by kernel_rfl) (hHeld4).drew (fun hK3 => ?_)
  refine held_load 0 21 rfl 26 (.tmp 2) rfl w.heap.size 0 rfl (voteL a) (fun w' h => HA _ h) Try.underlying26 vote_size hK3 ?_
  try simp only [Act.put, List.setIfInBounds_toArray, List.set_cons_zero, List.set_cons_succ]
  refine held_load 1 22 rfl 26 (.tmp 3) rfl (w.heap.size + 1) 0 rfl (voteL b) (fun w' h => HB _ h) Try.underlying26 vote_size hK3 ?_
  try simp only [Act.put, List.setIfInBounds_toArray, List.set_cons_zero, List.set_cons_succ]
  refine held_load 3 24 rfl 26 (.tmp 3) rfl (w.heap.size + 1) 0 rfl (voteL b) (fun w' h => HB _ h) Try.underlying26 vote_size hK3 ?_
  try simp only [Act.put, List.setIfInBounds_toArray, List.set_cons_zero, List.set_cons_succ]
  refine held_load 4 25 rfl 26 (.tmp 2) rfl w.heap.size 0 rfl (voteL a) (fun w' h => HA _ h) Try.underlying26 vote_size hK3 ?_
  try simp only [Act.put, List.setIfInBounds_toArray, List.set_cons_zero, List.set_cons_succ]
  refine held_one (i := 2) (by kernel_rfl) rfl (by rfl) (fun KK hK => ?_)
  go_wp2_with fail
  refine (coConf a b ha hb0 false hc1 _).mono ?_
  rintro e w5 ⟨rfl, hb⟩
  go_wp2_with fail
  refine hK.out _ _ (hK3.trans (hb.mono hK3.size)) (fun hK31 => ?_)
  clear hK KK
  try simp only [Act.put, List.setIfInBounds_toArray, List.set_cons_zero, List.set_cons_succ]
  refine held_one (i := 5) (by kernel_rfl) rfl (by rfl) (fun KK hK => ?_)
  go_wp2_with fail
  refine (coConf b a hb0 ha false hc2 _).mono ?_
  rintro e w6 ⟨rfl, hb⟩
  go_wp2_with fail
  refine hK.out _ _ (hK31.trans (hb.mono hK31.size)) (fun hK32 => ?_)
  clear hK KK
  try simp only [Act.put, List.setIfInBounds_toArray, List.set_cons_zero, List.set_cons_succ]
  refine held_pure 6 27 (.bool false) rfl (fun W => by go_simp) hK32 ?_
  try simp only [Act.put, List.setIfInBounds_toArray, List.set_cons_zero, List.set_cons_succ]
  refine held_pure 7 28 (.bool false) rfl (fun W => by rfl) hK32 ?_
  try simp only [Act.put, List.setIfInBounds_toArray, List.set_cons_zero, List.set_cons_succ]
  refine held_load 8 29 rfl 26 (.tmp 2) rfl w.heap.size 0 rfl (voteL a) (fun w' h => HA _ h) Try.underlying26 vote_size hK32 ?_
  try simp only [Act.put, List.setIfInBounds_toArray, List.set_cons_zero, List.set_cons_succ]
  refine held_load 9 30 rfl 26 (.tmp 2) rfl w.heap.size 0 rfl (voteL a) (fun w' h => HA _ h) Try.underlying26 vote_size hK32 ?_
  try simp only [Act.put, List.setIfInBounds_toArray, List.set_cons_zero, List.set_cons_succ]
  refine held_one (i := 10) (by kernel_rfl) rfl (by rfl) (fun KK hK => ?_)
  go_wp2_with fail
  refine (coConf a a ha ha false hc3 _).mono ?_
  rintro e w7 ⟨rfl, hb⟩
  go_wp2_with fail
  refine hK.out _ _ (hK32.trans (hb.mono hK32.size)) (fun hK33 => ?_)
  clear hK KK
  try simp only [Act.put, List.setIfInBounds_toArray, List.set_cons_zero, List.set_cons_succ]
  refine held_pure 11 32 (.bool false) rfl (fun W => by rfl) hK33 ?_
  try simp only [Act.put, List.setIfInBounds_toArray, List.set_cons_zero, List.set_cons_succ]
  refine held_pure 12 33 (.bool false) rfl (fun W => by rfl) hK33 ?_
  try simp only [Act.put, List.setIfInBounds_toArray, List.set_cons_zero, List.set_cons_succ]
  refine held_load 13 34 rfl 26 (.tmp 2) rfl w.heap.size 0 rfl (voteL a) (fun w' h => HA _ h) Try.underlying26 vote_size hK33 ?_
  try simp only [Act.put, List.setIfInBounds_toArray, List.set_cons_zero, List.set_cons_succ]
  refine held_load 14 35 rfl 26 (.tmp 3) rfl (w.heap.size + 1) 0 rfl (voteL b) (fun w' h => HB _ h) Try.underlying26 vote_size hK33 ?_
  try simp only [Act.put, List.setIfInBounds_toArray, List.set_cons_zero, List.set_cons_succ]
  refine held_one (i := 15) (by kernel_rfl) rfl (by rfl) (fun KK hK => ?_)
  go_wp2_with fail
  refine (coConf a b ha hb0 false hc1 _).mono ?_
  rintro e w8 ⟨rfl, hb⟩
  go_wp2_with fail
  refine hK.out _ _ (hK33.trans (hb.mono hK33.size)) (fun hK34 => ?_)
  clear hK KK
  try simp only [Act.put, List.setIfInBounds_toArray, List.set_cons_zero, List.set_cons_succ]
  refine held_pure 16 37 (.bool false) rfl (fun W => by rfl) hK34 ?_
  try simp only [Act.put, List.setIfInBounds_toArray, List.set_cons_zero, List.set_cons_succ]
  refine held_skip 17 38 rfl (by rfl) hK34 ?_
  try simp only [Act.put, List.setIfInBounds_toArray, List.set_cons_zero, List.set_cons_succ]
  refine held_skip 18 39 rfl (by rfl) hK34 ?_
  try simp only [Act.put, List.setIfInBounds_toArray, List.set_cons_zero, List.set_cons_succ]
  refine held_skip 19 40 rfl (by rfl) hK34 ?_
  try simp only [Act.put, List.setIfInBounds_toArray, List.set_cons_zero, List.set_cons_succ]
  refine held_skip 20 41 rfl (by rfl) hK34 ?_
  try simp only [Act.put, List.setIfInBounds_toArray, List.set_cons_zero, List.set_cons_succ]
  refine held_skip 21 42 rfl (by rfl) hK34 ?_
  try simp only [Act.put, List.setIfInBounds_toArray, List.set_cons_zero, List.set_cons_succ]
  refine held_skip 22 43 rfl (by rfl) hK34 ?_
  try simp only [Act.put, List.setIfInBounds_toArray, List.set_cons_zero, List.set_cons_succ]
  refine held_skip 23 44 rfl (by rfl) hK34 ?_
  try simp only [Act.put, List.setIfInBounds_toArray, List.set_cons_zero, List.set_cons_succ]
  refine held_skip 24 45 rfl (by rfl) hK34 ?_
  try simp only [Act.put, List.setIfInBounds_toArray, List.set_cons_zero, List.set_cons_succ]
  refine held_skip 25 46 rfl (by rfl) hK34 ?_
  try simp only [Act.put, List.setIfInBounds_toArray, List.set_cons_zero, List.set_cons_succ]
  refine held_skip 26 47 rfl (by rfl) hK34 ?_
  try simp only [Act.put, List.setIfInBounds_toArray, List.set_cons_zero, List.set_cons_succ]
  refine held_pure 27 48 (.bool false) rfl (fun W => by rfl) hK34 ?_
  try simp only [Act.put, List.setIfInBounds_toArray, List.set_cons_zero, List.set_cons_succ]
  refine held_pure 28 49 (.bool false) rfl (fun W => by rfl) hK34 ?_
  try simp only [Act.put, List.setIfInBounds_toArray, List.set_cons_zero, List.set_cons_succ]
  refine wpAnyH_done (by kernel_rfl) ?_ _
  try simp only [Act.put, List.setIfInBounds_toArray, List.set_cons_zero, List.set_cons_succ]
  go_wp2_with (first | (refine wpList_load_w (by rfl) 26 (.tmp 2) rfl w.heap.size 0 (by rfl) (voteL a) _ (HA _ hK34) Try.underlying26 rfl vote_size ?_) | (refine wpList_load_w (by rfl) 26 (.tmp 3) rfl (w.heap.size + 1) 0 (by rfl) (voteL b) _ (HB _ hK34) Try.underlying26 rfl vote_size ?_) | fail)
  refine (coSame a a true hs2 _).mono ?_
  rintro e w21 ⟨rfl, hb21⟩
  have hB21 := Below.trans hK34 (hb21.mono (Below.size hK34))
  go_wp2_with (first | (refine wpList_load_w (by rfl) 26 (.tmp 2) rfl w.heap.size 0 (by rfl) (voteL a) _ (HA _ hB21) Try.underlying26 rfl vote_size ?_) | (refine wpList_load_w (by rfl) 26 (.tmp 3) rfl (w.heap.size + 1) 0 (by rfl) (voteL b) _ (HB _ hB21) Try.underlying26 rfl vote_size ?_) | fail)
  refine (awake_any _).mono ?_
  rintro e w22 ⟨rfl, hb22⟩
  have hB22 := Below.trans hB21 (hb22.mono (Below.size hB21))
  go_wp2_with fail
  go_ret
  exact ⟨rfl, hF.1.trans (Below.mono hB22 (by have := hF.2; omega))⟩

theorem walk (w : World) (a b : VoteV) (ha : a.I) (hb : b.I) : Calls Try.prog 6 #[vV a, vV b] w fun e w' => e = .returned (.bool true) ∧ Below w.heap.size w w' := by
  have h1 := conflictF_symm a b
  cases h : conflictF a b
  · exact walk_false w a b ha hb _ (Lib.hid rfl) (Lib.hid h) (Lib.hid (h1.symm.trans h)) (Lib.hid (conflictF_self a)) (Lib.hid (sameF_self a))
  · obtain ⟨h2, h3⟩ := conflictF_yes h
    exact walk_true w a b ha hb _ (Lib.hid rfl) (Lib.hid h) (Lib.hid (h1.symm.trans h)) (Lib.hid (conflictF_self a)) (Lib.hid (sameF_self a)) h2 (decide_eq_false h3)

set_option maxRecDepth 100000 in
/-- The law's step, at every reading. -/
theorem lifted (os : Os) (started : os.Started) (H : Type) (enc : TypeId × Value → H) :
    ReturnsInHanded {} Try.checked os 6 .any (Rows.voteConflictsSpec.pre6 enc Try.prog Try.f6 Rows.voteConflictsRow.domain false) (Rows.voteConflictsSpec.post enc Try.prog Try.f6 false true false false) := by
  refine law_lifted (C := Try.checked) (n := 2) (tb := 4) own started (by kernel_rfl) Try.func6 rfl (by kernel_rfl)
    (of_decide_eq_true (by kernel_rfl)) (by kernel_rfl) (by kernel_rfl) Try.underlying4
    (fun ds hd => by match ds, hd with | [_, _], _ => rfl)
    (ChangeSpec.witness6 (enc := enc) (C := Try.checked) false ⟨#[], #[.agg #[.int .i64 0, .int .i64 0, .int .i64 0, .int .i64 0, .int .i64 0, .int .i64 0, .int .u8 0, .int .u8 0, .int .u8 0, .int .u8 0, .int .u8 0, .int .u8 0, .int .u8 0, .int .u8 0, .int .u8 0, .int .u8 0, .int .u8 0, .int .u8 0, .int .u8 0, .int .u8 0, .int .u8 0, .int .u8 0], .agg #[.int .i64 0, .int .i64 0, .int .i64 0, .int .i64 0, .int .i64 0, .int .i64 0, .int .u8 0, .int .u8 0, .int .u8 0, .int .u8 0, .int .u8 0, .int .u8 0, .int .u8 0, .int .u8 0, .int .u8 0, .int .u8 0, .int .u8 0, .int .u8 0, .int .u8 0, .int .u8 0, .int .u8 0, .int .u8 0]], []⟩ 8 (by kernel_rfl) (by kernel_rfl) (by kernel_rfl) (by kernel_rfl)) ?_
  intro W base args ds ps hval hA hlt hsz
  rw [Try.params6] at hA hval
  obtain ⟨v0, vs0, d0, ds0, p0, q0, hargs, rfl, rfl, h0, r0⟩ := trodAll_cons hA
  obtain ⟨v1, vs1, d1, ds1, p1, q1, rfl, rfl, rfl, h1, r1⟩ := trodAll_cons r0
  obtain ⟨rfl, rfl, rfl⟩ := trodAll_nil r1
  obtain rfl : args = #[v0, v1] := by cases args; simp_all
  obtain ⟨x0, rfl, hx0⟩ := open_vote (hval 0 _ v0 rfl rfl) h0 (fun x hx => hlt x (by simp [hx])) hsz (j := 0) (by rw [Try.params6]; rfl) rfl
  obtain ⟨x1, rfl, hx1⟩ := open_vote (hval 1 _ v1 rfl rfl) h1 (fun x hx => hlt x (by simp [hx])) hsz (j := 1) (by rw [Try.params6]; rfl) rfl
  exact walk W x0 x1 hx0 hx1

theorem proved : Rows.VoteConflictsSaid :=
  OpenClaim.holds_of_wide 6 Try.f6 rfl rfl rfl rfl rfl rfl rfl ⟨rfl, rfl, rfl, rfl, rfl⟩ rfl rfl rfl rfl rfl (by kernel_rfl) Try.func6 (by kernel_rfl)
    (of_decide_eq_true (by kernel_rfl)) (by unfold Func.isWrapper; first | (rw [if_pos (by decide +kernel)]; kernel_rfl) | (rw [if_neg (by decide +kernel)]; exact ⟨rfl, rfl⟩))
    (fun os started H enc _ => lifted os started H enc)
#print axioms proved
end Go.Proofs.Ytpnmmfacnflngaa.voteConflicts
