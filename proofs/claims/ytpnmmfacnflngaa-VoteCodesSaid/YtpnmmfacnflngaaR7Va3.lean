/-
  forkledgerref6: cases of Valid.
-/
import Derived.Test.YtpnmmfacnflngaaR7Va0
import Derived.Test.YtpnmmfacnflngaaSeat
import Derived.BigQuiet
namespace Go.Proofs.Ytpnmmfacnflngaa
open Go.ChangeShapes Go.WideShapes Go.ChangeAt Go.RowKit Go.Fl

attribute [local go_sem] equal_nm eqGuard_nm

set_option maxRecDepth 10000 in
set_option maxHeartbeats 1000000 in
theorem rvalid_17 (v : VoteV) (w : World) (k1 : 1 ≤ v.kind) (k7 : v.kind ≤ 7) (s0 : 0 ≤ v.signer) (s9 : v.signer < 10) (an : bits .andNot .i64 v.sup 1023 = 0) (ag : v.kind ≤ 4) (sl0 : 0 ≤ v.slot) (sl9 : v.slot < 10) (k3 : v.kind = 3) (c1 : v.choice = 1) (hz : nmEq v.value 0#64 = false) (r1 : v.round = 1) :
    Calls Try.prog 11 #[vV v] w fun e w' => e = .returned (.bool true) ∧ Below w.heap.size w w' := by
  obtain ⟨kind, slot, round, choice, signer, sup, parent, value⟩ := v
  dsimp only at *
  subst k3
  subst c1
  subst r1
  have hb := Is.new w 26 (voteC ⟨3, slot, 1, 1, signer, sup, parent, value⟩)
  have hF := (Fr.refl w).alloc (.cells (voteC ⟨3, slot, 1, 1, signer, sup, parent, value⟩) 26)
  have hag : agreeF 3 = true := by unfold agreeF; exact decide_eq_true (by omega)
  go_enter Try.func11, Try.ntmps11
  go_wp2_with fail
  change Calls _ _ _ (w.alloc (.cells (voteC ⟨3, slot, 1, 1, signer, sup, parent, value⟩) 26)) _
  generalize w.alloc (.cells (voteC ⟨3, slot, 1, 1, signer, sup, parent, value⟩) 26) = W at *
  have hc := hb.cell
  refine (ragree_any 3 _).mono ?_
  rintro e w0 ⟨rfl, rfl⟩
  rw [hag]
  go_wp2_with fail
  refine (ragree_any 3 _).mono ?_
  rintro e w1 ⟨rfl, rfl⟩
  rw [hag]
  go_wp2_with fail
  refine wp_region_held_drew (S := fun w' => Below W.heap.size W w') (by kernel_rfl) (Below.refl _ _).drew (fun hHeld => ?_)
  refine held_pure 0 51 (.pointer (some ⟨w.heap.size, 14, none⟩)) rfl (fun W => by go_simp) hHeld ?_
  try simp only [Act.put, List.setIfInBounds_toArray, List.set_cons_zero, List.set_cons_succ]
  refine held_load 1 52 rfl 24 (.tmp 51) rfl w.heap.size 14 rfl (nmR value) (fun w' h => val_range (hb.next h)) Try.underlying24 name_info hHeld ?_
  try simp only [Act.put, List.setIfInBounds_toArray, List.set_cons_zero, List.set_cons_succ]
  refine held_pure 2 53 (nm 0) rfl (fun W => by (first | rfl | kernel_rfl)) hHeld ?_
  try simp only [Act.put, List.setIfInBounds_toArray, List.set_cons_zero, List.set_cons_succ]
  refine held_pure 3 54 (.bool false) rfl (fun W => by go_simp) hHeld ?_
  try simp only [Act.put, List.setIfInBounds_toArray, List.set_cons_zero, List.set_cons_succ]
  refine held_pure 4 55 (.pointer (some ⟨w.heap.size, 3, none⟩)) rfl (fun W => by go_simp) hHeld ?_
  try simp only [Act.put, List.setIfInBounds_toArray, List.set_cons_zero, List.set_cons_succ]
  refine held_if 5 56 (.int .i64 1) rfl (fun w' h => by (have hc' := (hb.next h).cell 3; go_simp)) hHeld ?_
  try simp only [Act.put, List.setIfInBounds_toArray, List.set_cons_zero, List.set_cons_succ]
  refine held_pure 6 57 (.bool true) rfl (fun W => by go_simp) hHeld ?_
  try simp only [Act.put, List.setIfInBounds_toArray, List.set_cons_zero, List.set_cons_succ]
  refine held_pure 7 58 (.bool false) rfl (fun W => by go_simp) hHeld ?_
  try simp only [Act.put, List.setIfInBounds_toArray, List.set_cons_zero, List.set_cons_succ]
  refine wpAnyH_done (by kernel_rfl) ?_ _
  try simp only [Act.put, List.setIfInBounds_toArray, List.set_cons_zero, List.set_cons_succ]
  go_wp2_with fail
  go_ret
  exact ⟨rfl, hF.1.trans (hHeld.mono (by have := hF.2; omega))⟩

set_option maxRecDepth 10000 in
set_option maxHeartbeats 1000000 in
theorem rvalid_18 (v : VoteV) (w : World) (k1 : 1 ≤ v.kind) (k7 : v.kind ≤ 7) (s0 : 0 ≤ v.signer) (s9 : v.signer < 10) (an : bits .andNot .i64 v.sup 1023 = 0) (ag : v.kind ≤ 4) (sl0 : 0 ≤ v.slot) (sl9 : v.slot < 10) (k3 : v.kind = 3) (p1 : 1 ≤ v.round) (p12 : v.round ≤ 12) (hz : nmEq v.value 0#64 = true) (h0 : (v.choice == 0) = false) (h1 : (v.choice == 1) = false) :
    Calls Try.prog 11 #[vV v] w fun e w' => e = .returned (.bool false) ∧ Below w.heap.size w w' := by
  obtain ⟨kind, slot, round, choice, signer, sup, parent, value⟩ := v
  dsimp only at *
  subst k3
  have hb := Is.new w 26 (voteC ⟨3, slot, round, choice, signer, sup, parent, value⟩)
  have hF := (Fr.refl w).alloc (.cells (voteC ⟨3, slot, round, choice, signer, sup, parent, value⟩) 26)
  have hag : agreeF 3 = true := by unfold agreeF; exact decide_eq_true (by omega)
  go_enter Try.func11, Try.ntmps11
  go_wp2_with fail
  change Calls _ _ _ (w.alloc (.cells (voteC ⟨3, slot, round, choice, signer, sup, parent, value⟩) 26)) _
  generalize w.alloc (.cells (voteC ⟨3, slot, round, choice, signer, sup, parent, value⟩) 26) = W at *
  have hc := hb.cell
  refine (ragree_any 3 _).mono ?_
  rintro e w0 ⟨rfl, rfl⟩
  rw [hag]
  go_wp2_with fail
  refine (ragree_any 3 _).mono ?_
  rintro e w1 ⟨rfl, rfl⟩
  rw [hag]
  go_wp2_with fail
  refine wp_region_held_drew (S := fun w' => Below W.heap.size W w') (by kernel_rfl) (Below.refl _ _).drew (fun hHeld => ?_)
  refine held_pure 0 51 (.pointer (some ⟨w.heap.size, 14, none⟩)) rfl (fun W => by go_simp) hHeld ?_
  try simp only [Act.put, List.setIfInBounds_toArray, List.set_cons_zero, List.set_cons_succ]
  refine held_load 1 52 rfl 24 (.tmp 51) rfl w.heap.size 14 rfl (nmR value) (fun w' h => val_range (hb.next h)) Try.underlying24 name_info hHeld ?_
  try simp only [Act.put, List.setIfInBounds_toArray, List.set_cons_zero, List.set_cons_succ]
  refine held_pure 2 53 (nm 0) rfl (fun W => by (first | rfl | kernel_rfl)) hHeld ?_
  try simp only [Act.put, List.setIfInBounds_toArray, List.set_cons_zero, List.set_cons_succ]
  refine held_pure 3 54 (.bool true) rfl (fun W => by go_simp) hHeld ?_
  try simp only [Act.put, List.setIfInBounds_toArray, List.set_cons_zero, List.set_cons_succ]
  refine held_pure 4 55 (.pointer (some ⟨w.heap.size, 3, none⟩)) rfl (fun W => by go_simp) hHeld ?_
  try simp only [Act.put, List.setIfInBounds_toArray, List.set_cons_zero, List.set_cons_succ]
  refine held_if 5 56 (.int .i64 choice) rfl (fun w' h => by (have hc' := (hb.next h).cell 3; go_simp)) hHeld ?_
  try simp only [Act.put, List.setIfInBounds_toArray, List.set_cons_zero, List.set_cons_succ]
  refine held_pure 6 57 (.bool false) rfl (fun W => by go_simp) hHeld ?_
  try simp only [Act.put, List.setIfInBounds_toArray, List.set_cons_zero, List.set_cons_succ]
  refine held_pure 7 58 (.bool false) rfl (fun W => by go_simp) hHeld ?_
  try simp only [Act.put, List.setIfInBounds_toArray, List.set_cons_zero, List.set_cons_succ]
  refine wpAnyH_done (by kernel_rfl) ?_ _
  try simp only [Act.put, List.setIfInBounds_toArray, List.set_cons_zero, List.set_cons_succ]
  go_wp2_with fail
  go_ret
  exact ⟨rfl, hF.1.trans (hHeld.mono (by have := hF.2; omega))⟩

set_option maxRecDepth 10000 in
set_option maxHeartbeats 1000000 in
theorem rvalid_19 (v : VoteV) (w : World) (k1 : 1 ≤ v.kind) (k7 : v.kind ≤ 7) (s0 : 0 ≤ v.signer) (s9 : v.signer < 10) (an : bits .andNot .i64 v.sup 1023 = 0) (ag : v.kind ≤ 4) (sl0 : 0 ≤ v.slot) (sl9 : v.slot < 10) (k4 : v.kind = 4) {z c : Bool} (hz : nmEq v.value 0#64 = z) (hc1 : (v.choice == 1) = c) (hzc : (z == c) = false) (h : v.round < 1) :
    Calls Try.prog 11 #[vV v] w fun e w' => e = .returned (.bool false) ∧ Below w.heap.size w w' := by
  obtain ⟨kind, slot, round, choice, signer, sup, parent, value⟩ := v
  dsimp only at *
  subst k4
  have hb := Is.new w 26 (voteC ⟨4, slot, round, choice, signer, sup, parent, value⟩)
  have hF := (Fr.refl w).alloc (.cells (voteC ⟨4, slot, round, choice, signer, sup, parent, value⟩) 26)
  have hag : agreeF 4 = true := by unfold agreeF; exact decide_eq_true (by omega)
  go_enter Try.func11, Try.ntmps11
  go_wp2_with fail
  change Calls _ _ _ (w.alloc (.cells (voteC ⟨4, slot, round, choice, signer, sup, parent, value⟩) 26)) _
  generalize w.alloc (.cells (voteC ⟨4, slot, round, choice, signer, sup, parent, value⟩) 26) = W at *
  have hc := hb.cell
  refine (ragree_any 4 _).mono ?_
  rintro e w0 ⟨rfl, rfl⟩
  rw [hag]
  go_wp2_with fail
  refine (ragree_any 4 _).mono ?_
  rintro e w1 ⟨rfl, rfl⟩
  rw [hag]
  go_wp2_with fail
  refine wp_region_held_drew (S := fun w' => Below W.heap.size W w') (by kernel_rfl) (Below.refl _ _).drew (fun hHeld => ?_)
  refine held_pure 0 51 (.pointer (some ⟨w.heap.size, 14, none⟩)) rfl (fun W => by go_simp) hHeld ?_
  try simp only [Act.put, List.setIfInBounds_toArray, List.set_cons_zero, List.set_cons_succ]
  refine held_load 1 52 rfl 24 (.tmp 51) rfl w.heap.size 14 rfl (nmR value) (fun w' h => val_range (hb.next h)) Try.underlying24 name_info hHeld ?_
  try simp only [Act.put, List.setIfInBounds_toArray, List.set_cons_zero, List.set_cons_succ]
  refine held_pure 2 53 (nm 0) rfl (fun W => by (first | rfl | kernel_rfl)) hHeld ?_
  try simp only [Act.put, List.setIfInBounds_toArray, List.set_cons_zero, List.set_cons_succ]
  refine held_pure 3 54 (.bool z) rfl (fun W => by go_simp) hHeld ?_
  try simp only [Act.put, List.setIfInBounds_toArray, List.set_cons_zero, List.set_cons_succ]
  refine held_pure 4 55 (.pointer (some ⟨w.heap.size, 3, none⟩)) rfl (fun W => by go_simp) hHeld ?_
  try simp only [Act.put, List.setIfInBounds_toArray, List.set_cons_zero, List.set_cons_succ]
  refine held_if 5 56 (.int .i64 choice) rfl (fun w' h => by (have hc' := (hb.next h).cell 3; go_simp)) hHeld ?_
  try simp only [Act.put, List.setIfInBounds_toArray, List.set_cons_zero, List.set_cons_succ]
  refine held_pure 6 57 (.bool c) rfl (fun W => by go_simp) hHeld ?_
  try simp only [Act.put, List.setIfInBounds_toArray, List.set_cons_zero, List.set_cons_succ]
  refine held_pure 7 58 (.bool false) rfl (fun W => by go_simp) hHeld ?_
  try simp only [Act.put, List.setIfInBounds_toArray, List.set_cons_zero, List.set_cons_succ]
  refine wpAnyH_done (by kernel_rfl) ?_ _
  try simp only [Act.put, List.setIfInBounds_toArray, List.set_cons_zero, List.set_cons_succ]
  go_wp2_with fail
  go_ret
  exact ⟨rfl, hF.1.trans (hHeld.mono (by have := hF.2; omega))⟩

set_option maxRecDepth 10000 in
set_option maxHeartbeats 1000000 in
theorem rvalid_20 (v : VoteV) (w : World) (k1 : 1 ≤ v.kind) (k7 : v.kind ≤ 7) (s0 : 0 ≤ v.signer) (s9 : v.signer < 10) (an : bits .andNot .i64 v.sup 1023 = 0) (ag : v.kind ≤ 4) (sl0 : 0 ≤ v.slot) (sl9 : v.slot < 10) (k4 : v.kind = 4) {z c : Bool} (hz : nmEq v.value 0#64 = z) (hc1 : (v.choice == 1) = c) (hzc : (z == c) = false) (p1 : 1 ≤ v.round) (h : 12 < v.round) :
    Calls Try.prog 11 #[vV v] w fun e w' => e = .returned (.bool false) ∧ Below w.heap.size w w' := by
  obtain ⟨kind, slot, round, choice, signer, sup, parent, value⟩ := v
  dsimp only at *
  subst k4
  have hb := Is.new w 26 (voteC ⟨4, slot, round, choice, signer, sup, parent, value⟩)
  have hF := (Fr.refl w).alloc (.cells (voteC ⟨4, slot, round, choice, signer, sup, parent, value⟩) 26)
  have hag : agreeF 4 = true := by unfold agreeF; exact decide_eq_true (by omega)
  go_enter Try.func11, Try.ntmps11
  go_wp2_with fail
  change Calls _ _ _ (w.alloc (.cells (voteC ⟨4, slot, round, choice, signer, sup, parent, value⟩) 26)) _
  generalize w.alloc (.cells (voteC ⟨4, slot, round, choice, signer, sup, parent, value⟩) 26) = W at *
  have hc := hb.cell
  refine (ragree_any 4 _).mono ?_
  rintro e w0 ⟨rfl, rfl⟩
  rw [hag]
  go_wp2_with fail
  refine (ragree_any 4 _).mono ?_
  rintro e w1 ⟨rfl, rfl⟩
  rw [hag]
  go_wp2_with fail
  refine wp_region_held_drew (S := fun w' => Below W.heap.size W w') (by kernel_rfl) (Below.refl _ _).drew (fun hHeld => ?_)
  refine held_pure 0 51 (.pointer (some ⟨w.heap.size, 14, none⟩)) rfl (fun W => by go_simp) hHeld ?_
  try simp only [Act.put, List.setIfInBounds_toArray, List.set_cons_zero, List.set_cons_succ]
  refine held_load 1 52 rfl 24 (.tmp 51) rfl w.heap.size 14 rfl (nmR value) (fun w' h => val_range (hb.next h)) Try.underlying24 name_info hHeld ?_
  try simp only [Act.put, List.setIfInBounds_toArray, List.set_cons_zero, List.set_cons_succ]
  refine held_pure 2 53 (nm 0) rfl (fun W => by (first | rfl | kernel_rfl)) hHeld ?_
  try simp only [Act.put, List.setIfInBounds_toArray, List.set_cons_zero, List.set_cons_succ]
  refine held_pure 3 54 (.bool z) rfl (fun W => by go_simp) hHeld ?_
  try simp only [Act.put, List.setIfInBounds_toArray, List.set_cons_zero, List.set_cons_succ]
  refine held_pure 4 55 (.pointer (some ⟨w.heap.size, 3, none⟩)) rfl (fun W => by go_simp) hHeld ?_
  try simp only [Act.put, List.setIfInBounds_toArray, List.set_cons_zero, List.set_cons_succ]
  refine held_if 5 56 (.int .i64 choice) rfl (fun w' h => by (have hc' := (hb.next h).cell 3; go_simp)) hHeld ?_
  try simp only [Act.put, List.setIfInBounds_toArray, List.set_cons_zero, List.set_cons_succ]
  refine held_pure 6 57 (.bool c) rfl (fun W => by go_simp) hHeld ?_
  try simp only [Act.put, List.setIfInBounds_toArray, List.set_cons_zero, List.set_cons_succ]
  refine held_pure 7 58 (.bool false) rfl (fun W => by go_simp) hHeld ?_
  try simp only [Act.put, List.setIfInBounds_toArray, List.set_cons_zero, List.set_cons_succ]
  refine wpAnyH_done (by kernel_rfl) ?_ _
  try simp only [Act.put, List.setIfInBounds_toArray, List.set_cons_zero, List.set_cons_succ]
  go_wp2_with fail
  go_ret
  exact ⟨rfl, hF.1.trans (hHeld.mono (by have := hF.2; omega))⟩

set_option maxRecDepth 10000 in
set_option maxHeartbeats 1000000 in
theorem rvalid_21 (v : VoteV) (w : World) (k1 : 1 ≤ v.kind) (k7 : v.kind ≤ 7) (s0 : 0 ≤ v.signer) (s9 : v.signer < 10) (an : bits .andNot .i64 v.sup 1023 = 0) (ag : v.kind ≤ 4) (sl0 : 0 ≤ v.slot) (sl9 : v.slot < 10) (k4 : v.kind = 4) {z c : Bool} (hz : nmEq v.value 0#64 = z) (hc1 : (v.choice == 1) = c) (hzc : (z == c) = false) (p1 : 1 ≤ v.round) (p12 : v.round ≤ 12) (h : v.choice < 0) :
    Calls Try.prog 11 #[vV v] w fun e w' => e = .returned (.bool false) ∧ Below w.heap.size w w' := by
  obtain ⟨kind, slot, round, choice, signer, sup, parent, value⟩ := v
  dsimp only at *
  subst k4
  have hd : decide (0 ≤ choice) = false := by rw [decide_eq_false_iff_not]; omega
  have hb := Is.new w 26 (voteC ⟨4, slot, round, choice, signer, sup, parent, value⟩)
  have hF := (Fr.refl w).alloc (.cells (voteC ⟨4, slot, round, choice, signer, sup, parent, value⟩) 26)
  have hag : agreeF 4 = true := by unfold agreeF; exact decide_eq_true (by omega)
  go_enter Try.func11, Try.ntmps11
  go_wp2_with fail
  change Calls _ _ _ (w.alloc (.cells (voteC ⟨4, slot, round, choice, signer, sup, parent, value⟩) 26)) _
  generalize w.alloc (.cells (voteC ⟨4, slot, round, choice, signer, sup, parent, value⟩) 26) = W at *
  have hc := hb.cell
  refine (ragree_any 4 _).mono ?_
  rintro e w0 ⟨rfl, rfl⟩
  rw [hag]
  go_wp2_with fail
  refine (ragree_any 4 _).mono ?_
  rintro e w1 ⟨rfl, rfl⟩
  rw [hag]
  go_wp2_with fail
  refine wp_region_held_drew (S := fun w' => Below W.heap.size W w') (by kernel_rfl) (Below.refl _ _).drew (fun hHeld => ?_)
  refine held_pure 0 51 (.pointer (some ⟨w.heap.size, 14, none⟩)) rfl (fun W => by go_simp) hHeld ?_
  try simp only [Act.put, List.setIfInBounds_toArray, List.set_cons_zero, List.set_cons_succ]
  refine held_load 1 52 rfl 24 (.tmp 51) rfl w.heap.size 14 rfl (nmR value) (fun w' h => val_range (hb.next h)) Try.underlying24 name_info hHeld ?_
  try simp only [Act.put, List.setIfInBounds_toArray, List.set_cons_zero, List.set_cons_succ]
  refine held_pure 2 53 (nm 0) rfl (fun W => by (first | rfl | kernel_rfl)) hHeld ?_
  try simp only [Act.put, List.setIfInBounds_toArray, List.set_cons_zero, List.set_cons_succ]
  refine held_pure 3 54 (.bool z) rfl (fun W => by go_simp) hHeld ?_
  try simp only [Act.put, List.setIfInBounds_toArray, List.set_cons_zero, List.set_cons_succ]
  refine held_pure 4 55 (.pointer (some ⟨w.heap.size, 3, none⟩)) rfl (fun W => by go_simp) hHeld ?_
  try simp only [Act.put, List.setIfInBounds_toArray, List.set_cons_zero, List.set_cons_succ]
  refine held_if 5 56 (.int .i64 choice) rfl (fun w' h => by (have hc' := (hb.next h).cell 3; go_simp)) hHeld ?_
  try simp only [Act.put, List.setIfInBounds_toArray, List.set_cons_zero, List.set_cons_succ]
  refine held_pure 6 57 (.bool c) rfl (fun W => by go_simp) hHeld ?_
  try simp only [Act.put, List.setIfInBounds_toArray, List.set_cons_zero, List.set_cons_succ]
  refine held_pure 7 58 (.bool false) rfl (fun W => by go_simp) hHeld ?_
  try simp only [Act.put, List.setIfInBounds_toArray, List.set_cons_zero, List.set_cons_succ]
  refine wpAnyH_done (by kernel_rfl) ?_ _
  try simp only [Act.put, List.setIfInBounds_toArray, List.set_cons_zero, List.set_cons_succ]
  go_wp2_with fail
  go_ret
  exact ⟨rfl, hF.1.trans (hHeld.mono (by have := hF.2; omega))⟩

set_option maxRecDepth 10000 in
set_option maxHeartbeats 1000000 in
theorem rvalid_22 (v : VoteV) (w : World) (k1 : 1 ≤ v.kind) (k7 : v.kind ≤ 7) (s0 : 0 ≤ v.signer) (s9 : v.signer < 10) (an : bits .andNot .i64 v.sup 1023 = 0) (ag : v.kind ≤ 4) (sl0 : 0 ≤ v.slot) (sl9 : v.slot < 10) (k4 : v.kind = 4) {z c : Bool} (hz : nmEq v.value 0#64 = z) (hc1 : (v.choice == 1) = c) (hzc : (z == c) = false) (p1 : 1 ≤ v.round) (p12 : v.round ≤ 12) (cc : 0 ≤ v.choice) (h : 2 < v.choice) :
    Calls Try.prog 11 #[vV v] w fun e w' => e = .returned (.bool false) ∧ Below w.heap.size w w' := by
  obtain ⟨kind, slot, round, choice, signer, sup, parent, value⟩ := v
  dsimp only at *
  subst k4
  have hd : decide (choice ≤ 2) = false := by rw [decide_eq_false_iff_not]; omega
  have hb := Is.new w 26 (voteC ⟨4, slot, round, choice, signer, sup, parent, value⟩)
  have hF := (Fr.refl w).alloc (.cells (voteC ⟨4, slot, round, choice, signer, sup, parent, value⟩) 26)
  have hag : agreeF 4 = true := by unfold agreeF; exact decide_eq_true (by omega)
  go_enter Try.func11, Try.ntmps11
  go_wp2_with fail
  change Calls _ _ _ (w.alloc (.cells (voteC ⟨4, slot, round, choice, signer, sup, parent, value⟩) 26)) _
  generalize w.alloc (.cells (voteC ⟨4, slot, round, choice, signer, sup, parent, value⟩) 26) = W at *
  have hc := hb.cell
  refine (ragree_any 4 _).mono ?_
  rintro e w0 ⟨rfl, rfl⟩
  rw [hag]
  go_wp2_with fail
  refine (ragree_any 4 _).mono ?_
  rintro e w1 ⟨rfl, rfl⟩
  rw [hag]
  go_wp2_with fail
  refine wp_region_held_drew (S := fun w' => Below W.heap.size W w') (by kernel_rfl) (Below.refl _ _).drew (fun hHeld => ?_)
  refine held_pure 0 51 (.pointer (some ⟨w.heap.size, 14, none⟩)) rfl (fun W => by go_simp) hHeld ?_
  try simp only [Act.put, List.setIfInBounds_toArray, List.set_cons_zero, List.set_cons_succ]
  refine held_load 1 52 rfl 24 (.tmp 51) rfl w.heap.size 14 rfl (nmR value) (fun w' h => val_range (hb.next h)) Try.underlying24 name_info hHeld ?_
  try simp only [Act.put, List.setIfInBounds_toArray, List.set_cons_zero, List.set_cons_succ]
  refine held_pure 2 53 (nm 0) rfl (fun W => by (first | rfl | kernel_rfl)) hHeld ?_
  try simp only [Act.put, List.setIfInBounds_toArray, List.set_cons_zero, List.set_cons_succ]
  refine held_pure 3 54 (.bool z) rfl (fun W => by go_simp) hHeld ?_
  try simp only [Act.put, List.setIfInBounds_toArray, List.set_cons_zero, List.set_cons_succ]
  refine held_pure 4 55 (.pointer (some ⟨w.heap.size, 3, none⟩)) rfl (fun W => by go_simp) hHeld ?_
  try simp only [Act.put, List.setIfInBounds_toArray, List.set_cons_zero, List.set_cons_succ]
  refine held_if 5 56 (.int .i64 choice) rfl (fun w' h => by (have hc' := (hb.next h).cell 3; go_simp)) hHeld ?_
  try simp only [Act.put, List.setIfInBounds_toArray, List.set_cons_zero, List.set_cons_succ]
  refine held_pure 6 57 (.bool c) rfl (fun W => by go_simp) hHeld ?_
  try simp only [Act.put, List.setIfInBounds_toArray, List.set_cons_zero, List.set_cons_succ]
  refine held_pure 7 58 (.bool false) rfl (fun W => by go_simp) hHeld ?_
  try simp only [Act.put, List.setIfInBounds_toArray, List.set_cons_zero, List.set_cons_succ]
  refine wpAnyH_done (by kernel_rfl) ?_ _
  try simp only [Act.put, List.setIfInBounds_toArray, List.set_cons_zero, List.set_cons_succ]
  go_wp2_with fail
  go_ret
  exact ⟨rfl, hF.1.trans (hHeld.mono (by have := hF.2; omega))⟩

set_option maxRecDepth 10000 in
set_option maxHeartbeats 1000000 in
theorem rvalid_23 (v : VoteV) (w : World) (k1 : 1 ≤ v.kind) (k7 : v.kind ≤ 7) (s0 : 0 ≤ v.signer) (s9 : v.signer < 10) (an : bits .andNot .i64 v.sup 1023 = 0) (ag : v.kind ≤ 4) (sl0 : 0 ≤ v.slot) (sl9 : v.slot < 10) (k4 : v.kind = 4) {z c : Bool} (hz : nmEq v.value 0#64 = z) (hc1 : (v.choice == 1) = c) (hzc : (z == c) = false) (p1 : 1 ≤ v.round) (p12 : v.round ≤ 12) (cc : 0 ≤ v.choice) (h : v.choice ≤ 2) :
    Calls Try.prog 11 #[vV v] w fun e w' => e = .returned (.bool true) ∧ Below w.heap.size w w' := by
  obtain ⟨kind, slot, round, choice, signer, sup, parent, value⟩ := v
  dsimp only at *
  subst k4
  have hd : decide (choice ≤ 2) = true := decide_eq_true h
  have hb := Is.new w 26 (voteC ⟨4, slot, round, choice, signer, sup, parent, value⟩)
  have hF := (Fr.refl w).alloc (.cells (voteC ⟨4, slot, round, choice, signer, sup, parent, value⟩) 26)
  have hag : agreeF 4 = true := by unfold agreeF; exact decide_eq_true (by omega)
  go_enter Try.func11, Try.ntmps11
  go_wp2_with fail
  change Calls _ _ _ (w.alloc (.cells (voteC ⟨4, slot, round, choice, signer, sup, parent, value⟩) 26)) _
  generalize w.alloc (.cells (voteC ⟨4, slot, round, choice, signer, sup, parent, value⟩) 26) = W at *
  have hc := hb.cell
  refine (ragree_any 4 _).mono ?_
  rintro e w0 ⟨rfl, rfl⟩
  rw [hag]
  go_wp2_with fail
  refine (ragree_any 4 _).mono ?_
  rintro e w1 ⟨rfl, rfl⟩
  rw [hag]
  go_wp2_with fail
  refine wp_region_held_drew (S := fun w' => Below W.heap.size W w') (by kernel_rfl) (Below.refl _ _).drew (fun hHeld => ?_)
  refine held_pure 0 51 (.pointer (some ⟨w.heap.size, 14, none⟩)) rfl (fun W => by go_simp) hHeld ?_
  try simp only [Act.put, List.setIfInBounds_toArray, List.set_cons_zero, List.set_cons_succ]
  refine held_load 1 52 rfl 24 (.tmp 51) rfl w.heap.size 14 rfl (nmR value) (fun w' h => val_range (hb.next h)) Try.underlying24 name_info hHeld ?_
  try simp only [Act.put, List.setIfInBounds_toArray, List.set_cons_zero, List.set_cons_succ]
  refine held_pure 2 53 (nm 0) rfl (fun W => by (first | rfl | kernel_rfl)) hHeld ?_
  try simp only [Act.put, List.setIfInBounds_toArray, List.set_cons_zero, List.set_cons_succ]
  refine held_pure 3 54 (.bool z) rfl (fun W => by go_simp) hHeld ?_
  try simp only [Act.put, List.setIfInBounds_toArray, List.set_cons_zero, List.set_cons_succ]
  refine held_pure 4 55 (.pointer (some ⟨w.heap.size, 3, none⟩)) rfl (fun W => by go_simp) hHeld ?_
  try simp only [Act.put, List.setIfInBounds_toArray, List.set_cons_zero, List.set_cons_succ]
  refine held_if 5 56 (.int .i64 choice) rfl (fun w' h => by (have hc' := (hb.next h).cell 3; go_simp)) hHeld ?_
  try simp only [Act.put, List.setIfInBounds_toArray, List.set_cons_zero, List.set_cons_succ]
  refine held_pure 6 57 (.bool c) rfl (fun W => by go_simp) hHeld ?_
  try simp only [Act.put, List.setIfInBounds_toArray, List.set_cons_zero, List.set_cons_succ]
  refine held_pure 7 58 (.bool false) rfl (fun W => by go_simp) hHeld ?_
  try simp only [Act.put, List.setIfInBounds_toArray, List.set_cons_zero, List.set_cons_succ]
  refine wpAnyH_done (by kernel_rfl) ?_ _
  try simp only [Act.put, List.setIfInBounds_toArray, List.set_cons_zero, List.set_cons_succ]
  go_wp2_with fail
  go_ret
  exact ⟨rfl, hF.1.trans (hHeld.mono (by have := hF.2; omega))⟩

set_option maxRecDepth 10000 in
set_option maxHeartbeats 1000000 in
theorem rvalid_24 (v : VoteV) (w : World) (k1 : 1 ≤ v.kind) (k7 : v.kind ≤ 7) (s0 : 0 ≤ v.signer) (s9 : v.signer < 10) (an : bits .andNot .i64 v.sup 1023 = 0) (ag : v.kind ≤ 4) (sl0 : 0 ≤ v.slot) (sl9 : v.slot < 10) (n3 : (v.kind == 3) = false) (n4 : (v.kind == 4) = false) {z c : Bool} (hz : nmEq v.value 0#64 = z) (hc1 : (v.choice == 1) = c) (hzc : (z == c) = false) (h : (v.round == 0) = false) :
    Calls Try.prog 11 #[vV v] w fun e w' => e = .returned (.bool false) ∧ Below w.heap.size w w' := by
  obtain ⟨kind, slot, round, choice, signer, sup, parent, value⟩ := v
  dsimp only at *
  have hb := Is.new w 26 (voteC ⟨kind, slot, round, choice, signer, sup, parent, value⟩)
  have hF := (Fr.refl w).alloc (.cells (voteC ⟨kind, slot, round, choice, signer, sup, parent, value⟩) 26)
  have hag : agreeF kind = true := by unfold agreeF; exact decide_eq_true (by omega)
  go_enter Try.func11, Try.ntmps11
  go_wp2_with fail
  change Calls _ _ _ (w.alloc (.cells (voteC ⟨kind, slot, round, choice, signer, sup, parent, value⟩) 26)) _
  generalize w.alloc (.cells (voteC ⟨kind, slot, round, choice, signer, sup, parent, value⟩) 26) = W at *
  have hc := hb.cell
  refine (ragree_any kind _).mono ?_
  rintro e w0 ⟨rfl, rfl⟩
  rw [hag]
  go_wp2_with fail
  refine (ragree_any kind _).mono ?_
  rintro e w1 ⟨rfl, rfl⟩
  rw [hag]
  go_wp2_with fail
  refine wp_region_held_drew (S := fun w' => Below W.heap.size W w') (by kernel_rfl) (Below.refl _ _).drew (fun hHeld => ?_)
  refine held_pure 0 51 (.pointer (some ⟨w.heap.size, 14, none⟩)) rfl (fun W => by go_simp) hHeld ?_
  try simp only [Act.put, List.setIfInBounds_toArray, List.set_cons_zero, List.set_cons_succ]
  refine held_load 1 52 rfl 24 (.tmp 51) rfl w.heap.size 14 rfl (nmR value) (fun w' h => val_range (hb.next h)) Try.underlying24 name_info hHeld ?_
  try simp only [Act.put, List.setIfInBounds_toArray, List.set_cons_zero, List.set_cons_succ]
  refine held_pure 2 53 (nm 0) rfl (fun W => by (first | rfl | kernel_rfl)) hHeld ?_
  try simp only [Act.put, List.setIfInBounds_toArray, List.set_cons_zero, List.set_cons_succ]
  refine held_pure 3 54 (.bool z) rfl (fun W => by go_simp) hHeld ?_
  try simp only [Act.put, List.setIfInBounds_toArray, List.set_cons_zero, List.set_cons_succ]
  refine held_pure 4 55 (.pointer (some ⟨w.heap.size, 3, none⟩)) rfl (fun W => by go_simp) hHeld ?_
  try simp only [Act.put, List.setIfInBounds_toArray, List.set_cons_zero, List.set_cons_succ]
  refine held_if 5 56 (.int .i64 choice) rfl (fun w' h => by (have hc' := (hb.next h).cell 3; go_simp)) hHeld ?_
  try simp only [Act.put, List.setIfInBounds_toArray, List.set_cons_zero, List.set_cons_succ]
  refine held_pure 6 57 (.bool c) rfl (fun W => by go_simp) hHeld ?_
  try simp only [Act.put, List.setIfInBounds_toArray, List.set_cons_zero, List.set_cons_succ]
  refine held_pure 7 58 (.bool false) rfl (fun W => by go_simp) hHeld ?_
  try simp only [Act.put, List.setIfInBounds_toArray, List.set_cons_zero, List.set_cons_succ]
  refine wpAnyH_done (by kernel_rfl) ?_ _
  try simp only [Act.put, List.setIfInBounds_toArray, List.set_cons_zero, List.set_cons_succ]
  go_wp2_with fail
  go_ret
  exact ⟨rfl, hF.1.trans (hHeld.mono (by have := hF.2; omega))⟩

end Go.Proofs.Ytpnmmfacnflngaa
