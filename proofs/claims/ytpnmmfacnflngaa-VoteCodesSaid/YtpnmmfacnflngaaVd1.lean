/-
  Package vote: Valid and its parts.
-/
import Derived.Test.YtpnmmfacnflngaaVoteM
import Derived.BigQuiet
namespace Go.Fl
open Go.ChangeShapes Go.WideShapes Go.ChangeAt Go.RowKit
def roundsF (v : VoteV) : Bool := decide (v.kind = 3 ∨ v.kind = 4)
def slotF (v : VoteV) : Bool := if v.kind = 5 ∨ v.kind = 6 ∨ v.kind = 7 then decide (v.slot = 0) else decide (0 ≤ v.slot ∧ v.slot ≤ 9)
def roundF (v : VoteV) : Bool := if roundsF v then decide (1 ≤ v.round ∧ v.round ≤ 12) else decide (v.round = 0)
def choiceF (v : VoteV) : Bool := if v.kind = 4 then decide (0 ≤ v.choice ∧ v.choice ≤ 2) else if v.kind = 3 then decide (0 ≤ v.choice ∧ v.choice ≤ 1) else decide (v.choice = 1)
def valueF (v : VoteV) : Bool := (!nmEq v.value 0#64) == decide (v.choice = 1)
def supF (v : VoteV) : Bool := if roundsF v = false ∨ (v.kind = 3 ∧ v.round = 1 ∧ v.choice = 0) then decide (v.sup = 0) else decide (0 ≤ v.sup ∧ v.sup < 1024)
def partsF (v : VoteV) : Bool := decide (1 ≤ v.kind ∧ v.kind ≤ 7) && (decide (0 ≤ v.signer ∧ v.signer ≤ 9) && (slotF v && (roundF v && (choiceF v && (valueF v && supF v)))))
theorem parts_valid (v : VoteV) : partsF v = validF v := by
  have e : partsF v = true ↔ ValidP v := by
    have hz : nmEq v.value 0#64 = decide (v.value = 0) := rfl
    unfold partsF slotF roundF choiceF valueF supF roundsF ValidP
    rw [hz]
    by_cases hv : v.value = 0#64 <;> by_cases k3 : v.kind = 3 <;> by_cases k4 : v.kind = 4 <;> by_cases k5 : (v.kind = 5 ∨ v.kind = 6 ∨ v.kind = 7) <;> by_cases hk : v.kind ≤ 4 <;> by_cases hr : (v.round = 1 ∧ v.choice = 0) <;> (try simp [hv, k3, k4, k5, hk, hr]) <;> (try omega)
  by_cases h : ValidP v
  · rw [validF_true h, e.2 h]
  · rw [validF_false h]
    cases hp : partsF v
    · rfl
    · exact absurd (e.1 hp) h
end Go.Fl
namespace Go.Proofs.Ytpnmmfacnflngaa
open Go.ChangeShapes Go.WideShapes Go.ChangeAt Go.RowKit Go.Fl

attribute [local go_sem] equal_nm eqGuard_nm

theorem vval_range {w : World} {g : Nat} {t : TypeId} {v : VoteV} (h : Is w g t (voteC v)) : w.rangeAt g 14 (nmR v.value) := fun i u hi => by
  rw [h.cell (14 + i)]
  have : i < 8 := (List.getElem?_eq_some_iff.1 hi).1
  have : i = 0 ∨ i = 1 ∨ i = 2 ∨ i = 3 ∨ i = 4 ∨ i = 5 ∨ i = 6 ∨ i = 7 := by omega
  rcases this with rfl | rfl | rfl | rfl | rfl | rfl | rfl | rfl <;> exact hi
theorem vwithin (n a b : Int) (r : Bool) (h : Hid (decide (a ≤ n ∧ n ≤ b) = r)) (w : World) : Calls Try.prog 26 #[.int .i64 n, .int .i64 a, .int .i64 b] w fun e w' => e = .returned (.bool r) ∧ w = w' := by
  rw [← h.out]
  by_cases h1 : a ≤ n
  · by_cases h2 : n ≤ b
    · rw [decide_eq_true ⟨h1, h2⟩]
      go_enter Try.func26, Try.ntmps26
      go_wp2
      go_ret
      exact ⟨rfl, rfl⟩
    · rw [decide_eq_false (fun h => h2 h.2)]
      go_enter Try.func26, Try.ntmps26
      go_wp2
      go_ret
      exact ⟨rfl, rfl⟩
  · rw [decide_eq_false (fun h => h1 h.1)]
    go_enter Try.func26, Try.ntmps26
    go_wp2
    go_ret
    exact ⟨rfl, rfl⟩

set_option maxRecDepth 10000 in
set_option maxHeartbeats 1000000 in
theorem vhas_1 (v : VoteV) (w : World) (h3 : (v.kind == 3) = true) :
    Calls Try.prog 41 #[vV v] w fun e w' => e = .returned (.bool true) ∧ Below w.heap.size w w' := by
  obtain ⟨hA, hF⟩ := oneW_facts w v
  go_enter Try.func41, Try.ntmps41
  go_wp2_with fail
  go_ret
  exact ⟨rfl, hF.1⟩

set_option maxRecDepth 10000 in
set_option maxHeartbeats 1000000 in
theorem vhas_2 (v : VoteV) (w : World) (h3 : (v.kind == 3) = false) (h4 : (v.kind == 4) = true) :
    Calls Try.prog 41 #[vV v] w fun e w' => e = .returned (.bool true) ∧ Below w.heap.size w w' := by
  obtain ⟨hA, hF⟩ := oneW_facts w v
  go_enter Try.func41, Try.ntmps41
  go_wp2_with fail
  go_ret
  exact ⟨rfl, hF.1⟩

set_option maxRecDepth 10000 in
set_option maxHeartbeats 1000000 in
theorem vhas_3 (v : VoteV) (w : World) (h3 : (v.kind == 3) = false) (h4 : (v.kind == 4) = false) :
    Calls Try.prog 41 #[vV v] w fun e w' => e = .returned (.bool false) ∧ Below w.heap.size w w' := by
  obtain ⟨hA, hF⟩ := oneW_facts w v
  go_enter Try.func41, Try.ntmps41
  go_wp2_with fail
  go_ret
  exact ⟨rfl, hF.1⟩

theorem vhas (v : VoteV) (r : Bool) (h : Hid (roundsF v = r)) (w : World) : Calls Try.prog 41 #[.agg (voteL v).toArray] w fun e w' => e = .returned (.bool r) ∧ Below w.heap.size w w' := by
  rw [← h.out]
  unfold roundsF
  by_cases h3 : v.kind = 3
  · rw [decide_eq_true (Or.inl h3)]; exact vhas_1 v w (by simp [h3])
  by_cases h4 : v.kind = 4
  · rw [decide_eq_true (Or.inr h4)]; exact vhas_2 v w (by simp [h4]) (by simp [h4])
  rw [decide_eq_false (fun h => h.elim h3 h4)]
  exact vhas_3 v w (beq_eq_false_iff_ne.2 h3) (beq_eq_false_iff_ne.2 h4)

set_option maxRecDepth 10000 in
set_option maxHeartbeats 1000000 in
theorem vslot_5 (v : VoteV) (w : World) (h5 : (v.kind == 5) = true) :
    Calls Try.prog 27 #[vV v] w fun e w' => e = .returned (.bool (v.slot == 0)) ∧ Below w.heap.size w w' := by
  obtain ⟨hA, hF⟩ := oneW_facts w v
  go_enter Try.func27, Try.ntmps27
  go_wp2_with fail
  go_ret
  exact ⟨rfl, hF.1⟩

set_option maxRecDepth 10000 in
set_option maxHeartbeats 1000000 in
theorem vslot_6 (v : VoteV) (w : World) (h5 : (v.kind == 5) = false) (h6 : (v.kind == 6) = true) :
    Calls Try.prog 27 #[vV v] w fun e w' => e = .returned (.bool (v.slot == 0)) ∧ Below w.heap.size w w' := by
  obtain ⟨hA, hF⟩ := oneW_facts w v
  go_enter Try.func27, Try.ntmps27
  go_wp2_with fail
  go_ret
  exact ⟨rfl, hF.1⟩

set_option maxRecDepth 10000 in
set_option maxHeartbeats 1000000 in
theorem vslot_7 (v : VoteV) (w : World) (h5 : (v.kind == 5) = false) (h6 : (v.kind == 6) = false) (h7 : (v.kind == 7) = true) :
    Calls Try.prog 27 #[vV v] w fun e w' => e = .returned (.bool (v.slot == 0)) ∧ Below w.heap.size w w' := by
  obtain ⟨hA, hF⟩ := oneW_facts w v
  go_enter Try.func27, Try.ntmps27
  go_wp2_with fail
  go_ret
  exact ⟨rfl, hF.1⟩

set_option maxRecDepth 10000 in
set_option maxHeartbeats 1000000 in
theorem vslot_8 (v : VoteV) (w : World) (r : Bool) (h : Hid (decide (0 ≤ v.slot ∧ v.slot ≤ 9) = r)) (h5 : (v.kind == 5) = false) (h6 : (v.kind == 6) = false) (h7 : (v.kind == 7) = false) :
    Calls Try.prog 27 #[vV v] w fun e w' => e = .returned (.bool r) ∧ Below w.heap.size w w' := by
  obtain ⟨hA, hF⟩ := oneW_facts w v
  go_enter Try.func27, Try.ntmps27
  go_wp2_with fail
  refine (vwithin v.slot 0 9 r h _).mono ?_
  rintro e w1 ⟨rfl, rfl⟩
  go_wp2_with fail
  go_ret
  exact ⟨rfl, hF.1⟩

theorem vslot (v : VoteV) (r : Bool) (h : Hid (slotF v = r)) (w : World) : Calls Try.prog 27 #[.agg (voteL v).toArray] w fun e w' => e = .returned (.bool r) ∧ Below w.heap.size w w' := by
  rw [← h.out]
  unfold slotF
  by_cases h5 : v.kind = 5
  · rw [if_pos (Or.inl h5)]; exact vslot_5 v w (by simp [h5])
  by_cases h6 : v.kind = 6
  · rw [if_pos (Or.inr (Or.inl h6))]; exact vslot_6 v w (by simp [h6]) (by simp [h6])
  by_cases h7 : v.kind = 7
  · rw [if_pos (Or.inr (Or.inr h7))]; exact vslot_7 v w (by simp [h7]) (by simp [h7]) (by simp [h7])
  rw [if_neg (fun h => h.elim h5 (fun h => h.elim h6 h7))]
  exact vslot_8 v w _ (Lib.hid rfl) (beq_eq_false_iff_ne.2 h5) (beq_eq_false_iff_ne.2 h6) (beq_eq_false_iff_ne.2 h7)

set_option maxRecDepth 10000 in
set_option maxHeartbeats 1000000 in
theorem vround_1 (v : VoteV) (w : World) (r : Bool) (h : Hid (decide (1 ≤ v.round ∧ v.round ≤ 12) = r)) (h0 : Hid (roundsF v = true)) :
    Calls Try.prog 28 #[vV v] w fun e w' => e = .returned (.bool r) ∧ Below w.heap.size w w' := by
  obtain ⟨hA, hF⟩ := oneW_facts w v
  go_enter Try.func28, Try.ntmps28
  go_wp2_with (refine wpList_load_w (by rfl) 26 (.tmp 1) rfl w.heap.size 0 (by rfl) (voteL v) _ (vote_range hA) Try.underlying26 rfl (by rw [voteL_len]; exact vote_size) ?_)
  refine (vhas v true h0 (oneW w v)).mono ?_
  rintro e w1 ⟨rfl, hb1⟩
  have hA1 := (hA.next hb1).cell
  have hF1 := hF.next hb1
  go_wp2_with fail
  refine (vwithin v.round 1 12 r h _).mono ?_
  rintro e w1 ⟨rfl, rfl⟩
  go_wp2_with fail
  go_ret
  exact ⟨rfl, hF1.1⟩

set_option maxRecDepth 10000 in
set_option maxHeartbeats 1000000 in
theorem vround_2 (v : VoteV) (w : World) (h0 : Hid (roundsF v = false)) :
    Calls Try.prog 28 #[vV v] w fun e w' => e = .returned (.bool (v.round == 0)) ∧ Below w.heap.size w w' := by
  obtain ⟨hA, hF⟩ := oneW_facts w v
  go_enter Try.func28, Try.ntmps28
  go_wp2_with (refine wpList_load_w (by rfl) 26 (.tmp 1) rfl w.heap.size 0 (by rfl) (voteL v) _ (vote_range hA) Try.underlying26 rfl (by rw [voteL_len]; exact vote_size) ?_)
  refine (vhas v false h0 (oneW w v)).mono ?_
  rintro e w1 ⟨rfl, hb1⟩
  have hA1 := (hA.next hb1).cell
  have hF1 := hF.next hb1
  go_wp2_with fail
  go_ret
  exact ⟨rfl, hF1.1⟩

theorem vround (v : VoteV) (r : Bool) (h : Hid (roundF v = r)) (w : World) : Calls Try.prog 28 #[.agg (voteL v).toArray] w fun e w' => e = .returned (.bool r) ∧ Below w.heap.size w w' := by
  rw [← h.out]
  unfold roundF
  cases hr : roundsF v
  · exact vround_2 v w (Lib.hid hr)
  · exact vround_1 v w _ (Lib.hid rfl) (Lib.hid hr)

set_option maxRecDepth 10000 in
set_option maxHeartbeats 1000000 in
theorem vchoice_4 (v : VoteV) (w : World) (r : Bool) (h : Hid (decide (0 ≤ v.choice ∧ v.choice ≤ 2) = r)) (h4 : (v.kind == 4) = true) :
    Calls Try.prog 29 #[vV v] w fun e w' => e = .returned (.bool r) ∧ Below w.heap.size w w' := by
  obtain ⟨hA, hF⟩ := oneW_facts w v
  go_enter Try.func29, Try.ntmps29
  go_wp2_with fail
  refine (vwithin v.choice 0 2 r h _).mono ?_
  rintro e w1 ⟨rfl, rfl⟩
  go_wp2_with fail
  go_ret
  exact ⟨rfl, hF.1⟩

set_option maxRecDepth 10000 in
set_option maxHeartbeats 1000000 in
theorem vchoice_3 (v : VoteV) (w : World) (r : Bool) (h : Hid (decide (0 ≤ v.choice ∧ v.choice ≤ 1) = r)) (h4 : (v.kind == 4) = false) (h3 : (v.kind == 3) = true) :
    Calls Try.prog 29 #[vV v] w fun e w' => e = .returned (.bool r) ∧ Below w.heap.size w w' := by
  obtain ⟨hA, hF⟩ := oneW_facts w v
  go_enter Try.func29, Try.ntmps29
  go_wp2_with fail
  refine (vwithin v.choice 0 1 r h _).mono ?_
  rintro e w1 ⟨rfl, rfl⟩
  go_wp2_with fail
  go_ret
  exact ⟨rfl, hF.1⟩

set_option maxRecDepth 10000 in
set_option maxHeartbeats 1000000 in
theorem vchoice_0 (v : VoteV) (w : World) (h4 : (v.kind == 4) = false) (h3 : (v.kind == 3) = false) :
    Calls Try.prog 29 #[vV v] w fun e w' => e = .returned (.bool (v.choice == 1)) ∧ Below w.heap.size w w' := by
  obtain ⟨hA, hF⟩ := oneW_facts w v
  go_enter Try.func29, Try.ntmps29
  go_wp2_with fail
  go_ret
  exact ⟨rfl, hF.1⟩

theorem vchoice (v : VoteV) (r : Bool) (h : Hid (choiceF v = r)) (w : World) : Calls Try.prog 29 #[.agg (voteL v).toArray] w fun e w' => e = .returned (.bool r) ∧ Below w.heap.size w w' := by
  rw [← h.out]
  unfold choiceF
  by_cases h4 : v.kind = 4
  · rw [if_pos h4]; exact vchoice_4 v w _ (Lib.hid rfl) (by simp [h4])
  by_cases h3 : v.kind = 3
  · rw [if_neg h4, if_pos h3]; exact vchoice_3 v w _ (Lib.hid rfl) (by simp [h3]) (by simp [h3])
  rw [if_neg h4, if_neg h3]
  exact vchoice_0 v w (beq_eq_false_iff_ne.2 h4) (beq_eq_false_iff_ne.2 h3)

set_option maxRecDepth 10000 in
set_option maxHeartbeats 1000000 in
theorem vvalue_0 (v : VoteV) (w : World) (hz : nmEq v.value 0#64 = true) (hc : (v.choice == 1) = true) :
    Calls Try.prog 30 #[vV v] w fun e w' => e = .returned (.bool false) ∧ Below w.heap.size w w' := by
  obtain ⟨hA, hF⟩ := oneW_facts w v
  go_enter Try.func30, Try.ntmps30
  go_wp2_with fail
  refine wp_region_held_drew (S := fun w' => Below (oneW w v).heap.size (oneW w v) w') (by kernel_rfl) (Below.refl _ _).drew (fun hHeld => ?_)
  refine held_pure 0 3 (.pointer (some ⟨w.heap.size, 14, none⟩)) rfl (fun W => by go_simp) hHeld ?_
  try simp only [Act.put, List.setIfInBounds_toArray, List.set_cons_zero, List.set_cons_succ]
  refine held_load 1 4 rfl 24 (.tmp 3) rfl w.heap.size 14 rfl (nmR v.value) (fun w' h => vval_range (hA.next h)) Try.underlying24 name_info hHeld ?_
  try simp only [Act.put, List.setIfInBounds_toArray, List.set_cons_zero, List.set_cons_succ]
  refine held_pure 2 5 (nm 0#64) rfl (fun W => by (first | rfl | kernel_rfl)) hHeld ?_
  try simp only [Act.put, List.setIfInBounds_toArray, List.set_cons_zero, List.set_cons_succ]
  refine held_pure 3 6 (.bool false) rfl (fun W => by go_simp) hHeld ?_
  try simp only [Act.put, List.setIfInBounds_toArray, List.set_cons_zero, List.set_cons_succ]
  refine held_pure 4 7 (.pointer (some ⟨w.heap.size, 3, none⟩)) rfl (fun W => by go_simp) hHeld ?_
  try simp only [Act.put, List.setIfInBounds_toArray, List.set_cons_zero, List.set_cons_succ]
  refine held_if 5 8 (.int .i64 v.choice) rfl (fun w' h => by (have hc := (hA.next h).cell; go_simp)) hHeld ?_
  try simp only [Act.put, List.setIfInBounds_toArray, List.set_cons_zero, List.set_cons_succ]
  refine held_pure 6 9 (.bool true) rfl (fun W => by go_simp) hHeld ?_
  try simp only [Act.put, List.setIfInBounds_toArray, List.set_cons_zero, List.set_cons_succ]
  refine held_pure 7 10 (.bool false) rfl (fun W => by go_simp) hHeld ?_
  try simp only [Act.put, List.setIfInBounds_toArray, List.set_cons_zero, List.set_cons_succ]
  refine held_pure 8 2 (.bool false) rfl (fun W => by rfl) hHeld ?_
  try simp only [Act.put, List.setIfInBounds_toArray, List.set_cons_zero, List.set_cons_succ]
  refine wpAnyH_done (by kernel_rfl) ?_ _
  try simp only [Act.put, List.setIfInBounds_toArray, List.set_cons_zero, List.set_cons_succ]
  go_wp2_with fail
  go_ret
  exact ⟨rfl, hF.1.trans (hHeld.mono (by have := hF.2; omega))⟩

set_option maxRecDepth 10000 in
set_option maxHeartbeats 1000000 in
theorem vvalue_1 (v : VoteV) (w : World) (hz : nmEq v.value 0#64 = true) (hc : (v.choice == 1) = false) :
    Calls Try.prog 30 #[vV v] w fun e w' => e = .returned (.bool true) ∧ Below w.heap.size w w' := by
  obtain ⟨hA, hF⟩ := oneW_facts w v
  go_enter Try.func30, Try.ntmps30
  go_wp2_with fail
  refine wp_region_held_drew (S := fun w' => Below (oneW w v).heap.size (oneW w v) w') (by kernel_rfl) (Below.refl _ _).drew (fun hHeld => ?_)
  refine held_pure 0 3 (.pointer (some ⟨w.heap.size, 14, none⟩)) rfl (fun W => by go_simp) hHeld ?_
  try simp only [Act.put, List.setIfInBounds_toArray, List.set_cons_zero, List.set_cons_succ]
  refine held_load 1 4 rfl 24 (.tmp 3) rfl w.heap.size 14 rfl (nmR v.value) (fun w' h => vval_range (hA.next h)) Try.underlying24 name_info hHeld ?_
  try simp only [Act.put, List.setIfInBounds_toArray, List.set_cons_zero, List.set_cons_succ]
  refine held_pure 2 5 (nm 0#64) rfl (fun W => by (first | rfl | kernel_rfl)) hHeld ?_
  try simp only [Act.put, List.setIfInBounds_toArray, List.set_cons_zero, List.set_cons_succ]
  refine held_pure 3 6 (.bool false) rfl (fun W => by go_simp) hHeld ?_
  try simp only [Act.put, List.setIfInBounds_toArray, List.set_cons_zero, List.set_cons_succ]
  refine held_pure 4 7 (.pointer (some ⟨w.heap.size, 3, none⟩)) rfl (fun W => by go_simp) hHeld ?_
  try simp only [Act.put, List.setIfInBounds_toArray, List.set_cons_zero, List.set_cons_succ]
  refine held_if 5 8 (.int .i64 v.choice) rfl (fun w' h => by (have hc := (hA.next h).cell; go_simp)) hHeld ?_
  try simp only [Act.put, List.setIfInBounds_toArray, List.set_cons_zero, List.set_cons_succ]
  refine held_pure 6 9 (.bool false) rfl (fun W => by go_simp) hHeld ?_
  try simp only [Act.put, List.setIfInBounds_toArray, List.set_cons_zero, List.set_cons_succ]
  refine held_pure 7 10 (.bool true) rfl (fun W => by go_simp) hHeld ?_
  try simp only [Act.put, List.setIfInBounds_toArray, List.set_cons_zero, List.set_cons_succ]
  refine held_pure 8 2 (.bool true) rfl (fun W => by rfl) hHeld ?_
  try simp only [Act.put, List.setIfInBounds_toArray, List.set_cons_zero, List.set_cons_succ]
  refine wpAnyH_done (by kernel_rfl) ?_ _
  try simp only [Act.put, List.setIfInBounds_toArray, List.set_cons_zero, List.set_cons_succ]
  go_wp2_with fail
  go_ret
  exact ⟨rfl, hF.1.trans (hHeld.mono (by have := hF.2; omega))⟩

set_option maxRecDepth 10000 in
set_option maxHeartbeats 1000000 in
theorem vvalue_2 (v : VoteV) (w : World) (hz : nmEq v.value 0#64 = false) (hc : (v.choice == 1) = true) :
    Calls Try.prog 30 #[vV v] w fun e w' => e = .returned (.bool true) ∧ Below w.heap.size w w' := by
  obtain ⟨hA, hF⟩ := oneW_facts w v
  go_enter Try.func30, Try.ntmps30
  go_wp2_with fail
  refine wp_region_held_drew (S := fun w' => Below (oneW w v).heap.size (oneW w v) w') (by kernel_rfl) (Below.refl _ _).drew (fun hHeld => ?_)
  refine held_pure 0 3 (.pointer (some ⟨w.heap.size, 14, none⟩)) rfl (fun W => by go_simp) hHeld ?_
  try simp only [Act.put, List.setIfInBounds_toArray, List.set_cons_zero, List.set_cons_succ]
  refine held_load 1 4 rfl 24 (.tmp 3) rfl w.heap.size 14 rfl (nmR v.value) (fun w' h => vval_range (hA.next h)) Try.underlying24 name_info hHeld ?_
  try simp only [Act.put, List.setIfInBounds_toArray, List.set_cons_zero, List.set_cons_succ]
  refine held_pure 2 5 (nm 0#64) rfl (fun W => by (first | rfl | kernel_rfl)) hHeld ?_
  try simp only [Act.put, List.setIfInBounds_toArray, List.set_cons_zero, List.set_cons_succ]
  refine held_pure 3 6 (.bool true) rfl (fun W => by go_simp) hHeld ?_
  try simp only [Act.put, List.setIfInBounds_toArray, List.set_cons_zero, List.set_cons_succ]
  refine held_pure 4 7 (.pointer (some ⟨w.heap.size, 3, none⟩)) rfl (fun W => by go_simp) hHeld ?_
  try simp only [Act.put, List.setIfInBounds_toArray, List.set_cons_zero, List.set_cons_succ]
  refine held_if 5 8 (.int .i64 v.choice) rfl (fun w' h => by (have hc := (hA.next h).cell; go_simp)) hHeld ?_
  try simp only [Act.put, List.setIfInBounds_toArray, List.set_cons_zero, List.set_cons_succ]
  refine held_pure 6 9 (.bool true) rfl (fun W => by go_simp) hHeld ?_
  try simp only [Act.put, List.setIfInBounds_toArray, List.set_cons_zero, List.set_cons_succ]
  refine held_pure 7 10 (.bool true) rfl (fun W => by go_simp) hHeld ?_
  try simp only [Act.put, List.setIfInBounds_toArray, List.set_cons_zero, List.set_cons_succ]
  refine held_pure 8 2 (.bool true) rfl (fun W => by rfl) hHeld ?_
  try simp only [Act.put, List.setIfInBounds_toArray, List.set_cons_zero, List.set_cons_succ]
  refine wpAnyH_done (by kernel_rfl) ?_ _
  try simp only [Act.put, List.setIfInBounds_toArray, List.set_cons_zero, List.set_cons_succ]
  go_wp2_with fail
  go_ret
  exact ⟨rfl, hF.1.trans (hHeld.mono (by have := hF.2; omega))⟩

set_option maxRecDepth 10000 in
set_option maxHeartbeats 1000000 in
theorem vvalue_3 (v : VoteV) (w : World) (hz : nmEq v.value 0#64 = false) (hc : (v.choice == 1) = false) :
    Calls Try.prog 30 #[vV v] w fun e w' => e = .returned (.bool false) ∧ Below w.heap.size w w' := by
  obtain ⟨hA, hF⟩ := oneW_facts w v
  go_enter Try.func30, Try.ntmps30
  go_wp2_with fail
  refine wp_region_held_drew (S := fun w' => Below (oneW w v).heap.size (oneW w v) w') (by kernel_rfl) (Below.refl _ _).drew (fun hHeld => ?_)
  refine held_pure 0 3 (.pointer (some ⟨w.heap.size, 14, none⟩)) rfl (fun W => by go_simp) hHeld ?_
  try simp only [Act.put, List.setIfInBounds_toArray, List.set_cons_zero, List.set_cons_succ]
  refine held_load 1 4 rfl 24 (.tmp 3) rfl w.heap.size 14 rfl (nmR v.value) (fun w' h => vval_range (hA.next h)) Try.underlying24 name_info hHeld ?_
  try simp only [Act.put, List.setIfInBounds_toArray, List.set_cons_zero, List.set_cons_succ]
  refine held_pure 2 5 (nm 0#64) rfl (fun W => by (first | rfl | kernel_rfl)) hHeld ?_
  try simp only [Act.put, List.setIfInBounds_toArray, List.set_cons_zero, List.set_cons_succ]
  refine held_pure 3 6 (.bool true) rfl (fun W => by go_simp) hHeld ?_
  try simp only [Act.put, List.setIfInBounds_toArray, List.set_cons_zero, List.set_cons_succ]
  refine held_pure 4 7 (.pointer (some ⟨w.heap.size, 3, none⟩)) rfl (fun W => by go_simp) hHeld ?_
  try simp only [Act.put, List.setIfInBounds_toArray, List.set_cons_zero, List.set_cons_succ]
  refine held_if 5 8 (.int .i64 v.choice) rfl (fun w' h => by (have hc := (hA.next h).cell; go_simp)) hHeld ?_
  try simp only [Act.put, List.setIfInBounds_toArray, List.set_cons_zero, List.set_cons_succ]
  refine held_pure 6 9 (.bool false) rfl (fun W => by go_simp) hHeld ?_
  try simp only [Act.put, List.setIfInBounds_toArray, List.set_cons_zero, List.set_cons_succ]
  refine held_pure 7 10 (.bool false) rfl (fun W => by go_simp) hHeld ?_
  try simp only [Act.put, List.setIfInBounds_toArray, List.set_cons_zero, List.set_cons_succ]
  refine held_pure 8 2 (.bool false) rfl (fun W => by rfl) hHeld ?_
  try simp only [Act.put, List.setIfInBounds_toArray, List.set_cons_zero, List.set_cons_succ]
  refine wpAnyH_done (by kernel_rfl) ?_ _
  try simp only [Act.put, List.setIfInBounds_toArray, List.set_cons_zero, List.set_cons_succ]
  go_wp2_with fail
  go_ret
  exact ⟨rfl, hF.1.trans (hHeld.mono (by have := hF.2; omega))⟩

theorem vvalue (v : VoteV) (r : Bool) (h : Hid (valueF v = r)) (w : World) : Calls Try.prog 30 #[.agg (voteL v).toArray] w fun e w' => e = .returned (.bool r) ∧ Below w.heap.size w w' := by
  rw [← h.out]
  unfold valueF
  by_cases hc : v.choice = 1
  · cases hz : nmEq v.value 0#64
    · rw [decide_eq_true hc]; exact vvalue_2 v w hz (by simp [hc])
    · rw [decide_eq_true hc]; exact vvalue_0 v w hz (by simp [hc])
  · cases hz : nmEq v.value 0#64
    · rw [decide_eq_false hc]; exact vvalue_3 v w hz (beq_eq_false_iff_ne.2 hc)
    · rw [decide_eq_false hc]; exact vvalue_1 v w hz (beq_eq_false_iff_ne.2 hc)

set_option maxRecDepth 10000 in
set_option maxHeartbeats 1000000 in
theorem vsup_1 (v : VoteV) (w : World) (h3 : (v.kind == 3) = false) (h0 : Hid (roundsF v = false)) :
    Calls Try.prog 31 #[vV v] w fun e w' => e = .returned (.bool (v.sup == 0)) ∧ Below w.heap.size w w' := by
  obtain ⟨hA, hF⟩ := oneW_facts w v
  go_enter Try.func31, Try.ntmps31
  go_wp2_with (refine wpList_load_w (by rfl) 26 (.tmp 1) rfl w.heap.size 0 (by rfl) (voteL v) _ (vote_range hA) Try.underlying26 rfl (by rw [voteL_len]; exact vote_size) ?_)
  refine (vhas v false h0 (oneW w v)).mono ?_
  rintro e w1 ⟨rfl, hb1⟩
  have hA1 := (hA.next hb1).cell
  have hF1 := hF.next hb1
  go_wp2_with fail
  go_ret
  exact ⟨rfl, hF1.1⟩

set_option maxRecDepth 10000 in
set_option maxHeartbeats 1000000 in
theorem vsup_2 (v : VoteV) (w : World) (h3 : (v.kind == 3) = true) (h1 : (v.round == 1) = true) (hc : (v.choice == 0) = true) (h0 : Hid (roundsF v = true)) :
    Calls Try.prog 31 #[vV v] w fun e w' => e = .returned (.bool (v.sup == 0)) ∧ Below w.heap.size w w' := by
  obtain ⟨hA, hF⟩ := oneW_facts w v
  go_enter Try.func31, Try.ntmps31
  go_wp2_with (refine wpList_load_w (by rfl) 26 (.tmp 1) rfl w.heap.size 0 (by rfl) (voteL v) _ (vote_range hA) Try.underlying26 rfl (by rw [voteL_len]; exact vote_size) ?_)
  refine (vhas v true h0 (oneW w v)).mono ?_
  rintro e w1 ⟨rfl, hb1⟩
  have hA1 := (hA.next hb1).cell
  have hF1 := hF.next hb1
  go_wp2_with fail
  go_ret
  exact ⟨rfl, hF1.1⟩

set_option maxRecDepth 10000 in
set_option maxHeartbeats 1000000 in
theorem vsup_3 (v : VoteV) (w : World) (h3 : (v.kind == 3) = false) (h0 : Hid (roundsF v = true)) :
    Calls Try.prog 31 #[vV v] w fun e w' => e = .returned (.bool (v.sup / 1024 == 0)) ∧ Below w.heap.size w w' := by
  obtain ⟨hA, hF⟩ := oneW_facts w v
  go_enter Try.func31, Try.ntmps31
  go_wp2_with (refine wpList_load_w (by rfl) 26 (.tmp 1) rfl w.heap.size 0 (by rfl) (voteL v) _ (vote_range hA) Try.underlying26 rfl (by rw [voteL_len]; exact vote_size) ?_)
  refine (vhas v true h0 (oneW w v)).mono ?_
  rintro e w1 ⟨rfl, hb1⟩
  have hA1 := (hA.next hb1).cell
  have hF1 := hF.next hb1
  go_wp2_with fail
  go_ret
  exact ⟨rfl, hF1.1⟩

set_option maxRecDepth 10000 in
set_option maxHeartbeats 1000000 in
theorem vsup_4 (v : VoteV) (w : World) (h3 : (v.kind == 3) = true) (h1 : (v.round == 1) = false) (h0 : Hid (roundsF v = true)) :
    Calls Try.prog 31 #[vV v] w fun e w' => e = .returned (.bool (v.sup / 1024 == 0)) ∧ Below w.heap.size w w' := by
  obtain ⟨hA, hF⟩ := oneW_facts w v
  go_enter Try.func31, Try.ntmps31
  go_wp2_with (refine wpList_load_w (by rfl) 26 (.tmp 1) rfl w.heap.size 0 (by rfl) (voteL v) _ (vote_range hA) Try.underlying26 rfl (by rw [voteL_len]; exact vote_size) ?_)
  refine (vhas v true h0 (oneW w v)).mono ?_
  rintro e w1 ⟨rfl, hb1⟩
  have hA1 := (hA.next hb1).cell
  have hF1 := hF.next hb1
  go_wp2_with fail
  go_ret
  exact ⟨rfl, hF1.1⟩

set_option maxRecDepth 10000 in
set_option maxHeartbeats 1000000 in
theorem vsup_5 (v : VoteV) (w : World) (h3 : (v.kind == 3) = true) (h1 : (v.round == 1) = true) (hc : (v.choice == 0) = false) (h0 : Hid (roundsF v = true)) :
    Calls Try.prog 31 #[vV v] w fun e w' => e = .returned (.bool (v.sup / 1024 == 0)) ∧ Below w.heap.size w w' := by
  obtain ⟨hA, hF⟩ := oneW_facts w v
  go_enter Try.func31, Try.ntmps31
  go_wp2_with (refine wpList_load_w (by rfl) 26 (.tmp 1) rfl w.heap.size 0 (by rfl) (voteL v) _ (vote_range hA) Try.underlying26 rfl (by rw [voteL_len]; exact vote_size) ?_)
  refine (vhas v true h0 (oneW w v)).mono ?_
  rintro e w1 ⟨rfl, hb1⟩
  have hA1 := (hA.next hb1).cell
  have hF1 := hF.next hb1
  go_wp2_with fail
  go_ret
  exact ⟨rfl, hF1.1⟩

theorem vsup (v : VoteV) (r : Bool) (h : Hid (supF v = r)) (w : World) : Calls Try.prog 31 #[.agg (voteL v).toArray] w fun e w' => e = .returned (.bool r) ∧ Below w.heap.size w w' := by
  rw [← h.out]
  unfold supF
  have hq : (v.sup / 1024 == 0) = decide (0 ≤ v.sup ∧ v.sup < 1024) := by
    by_cases h : 0 ≤ v.sup ∧ v.sup < 1024
    · rw [decide_eq_true h]; simp; omega
    · rw [decide_eq_false h]; refine beq_eq_false_iff_ne.2 ?_; omega
  cases hr : roundsF v
  · rw [if_pos (Or.inl rfl)]
    refine vsup_1 v w ?_ (Lib.hid hr)
    refine beq_eq_false_iff_ne.2 fun h3 => ?_
    unfold roundsF at hr
    rw [decide_eq_true (Or.inl h3)] at hr
    cases hr
  by_cases h3 : v.kind = 3
  case neg => rw [if_neg (fun h => h.elim (fun h => by cases h) (fun h => h3 h.1)), ← hq]; exact vsup_3 v w (beq_eq_false_iff_ne.2 h3) (Lib.hid hr)
  by_cases h1 : v.round = 1
  case neg => rw [if_neg (fun h => h.elim (fun h => by cases h) (fun h => h1 h.2.1)), ← hq]; exact vsup_4 v w (by simp [h3]) (beq_eq_false_iff_ne.2 h1) (Lib.hid hr)
  by_cases hc : v.choice = 0
  case neg => rw [if_neg (fun h => h.elim (fun h => by cases h) (fun h => hc h.2.2)), ← hq]; exact vsup_5 v w (by simp [h3]) (by simp [h1]) (beq_eq_false_iff_ne.2 hc) (Lib.hid hr)
  rw [if_pos (Or.inr ⟨h3, h1, hc⟩)]
  exact vsup_2 v w (by simp [h3]) (by simp [h1]) (by simp [hc]) (Lib.hid hr)

set_option maxRecDepth 10000 in
set_option maxHeartbeats 4000000 in
theorem vparts (v : VoteV) (w : World) (r0 r1 r2 r3 r4 r5 r6 : Bool) (h0 : Hid (decide (1 ≤ v.kind ∧ v.kind ≤ 7) = r0)) (h1 : Hid (decide (0 ≤ v.signer ∧ v.signer ≤ 9) = r1)) (h2 : Hid (slotF v = r2)) (h3 : Hid (roundF v = r3)) (h4 : Hid (choiceF v = r4)) (h5 : Hid (valueF v = r5)) (h6 : Hid (supF v = r6)) :
    Calls Try.prog 10 #[vV v] w fun e w' => e = .returned (.bool (r0 && (r1 && (r2 && (r3 && (r4 && (r5 && r6))))))) ∧ Below w.heap.size w w' := by
  obtain ⟨hA, hF⟩ := oneW_facts w v
  have kA := hA.cell
  go_enter Try.func10, Try.ntmps10
  go_wp2_with fail
  refine (vwithin v.kind 1 7 r0 h0 _).mono ?_
  rintro e w1 ⟨rfl, rfl⟩
  cases r0
  · go_wp2_with (refine wpList_load_w (by rfl) 26 (.tmp 1) rfl w.heap.size 0 (by rfl) (voteL v) _ (vote_range hA) Try.underlying26 rfl (by rw [voteL_len]; exact vote_size) ?_)
    go_ret
    exact ⟨rfl, hF.1⟩
  go_wp2_with (refine wpList_load_w (by rfl) 26 (.tmp 1) rfl w.heap.size 0 (by rfl) (voteL v) _ (vote_range hA) Try.underlying26 rfl (by rw [voteL_len]; exact vote_size) ?_)
  refine (vwithin v.signer 0 9 r1 h1 _).mono ?_
  rintro e w1 ⟨rfl, rfl⟩
  cases r1
  · go_wp2_with (refine wpList_load_w (by rfl) 26 (.tmp 1) rfl w.heap.size 0 (by rfl) (voteL v) _ (vote_range hA) Try.underlying26 rfl (by rw [voteL_len]; exact vote_size) ?_)
    go_ret
    exact ⟨rfl, hF.1⟩
  go_wp2_with (refine wpList_load_w (by rfl) 26 (.tmp 1) rfl w.heap.size 0 (by rfl) (voteL v) _ (vote_range hA) Try.underlying26 rfl (by rw [voteL_len]; exact vote_size) ?_)
  refine (vslot v r2 h2 _).mono ?_
  rintro e w2 ⟨rfl, hb2⟩
  have hA2 := hA.next hb2
  have hF2 := hF.next hb2
  cases r2
  · go_wp2_with (refine wpList_load_w (by rfl) 26 (.tmp 1) rfl w.heap.size 0 (by rfl) (voteL v) _ (vote_range hA2) Try.underlying26 rfl (by rw [voteL_len]; exact vote_size) ?_)
    go_ret
    exact ⟨rfl, hF2.1⟩
  go_wp2_with (refine wpList_load_w (by rfl) 26 (.tmp 1) rfl w.heap.size 0 (by rfl) (voteL v) _ (vote_range hA2) Try.underlying26 rfl (by rw [voteL_len]; exact vote_size) ?_)
  refine (vround v r3 h3 _).mono ?_
  rintro e w3 ⟨rfl, hb3⟩
  have hA3 := hA2.next hb3
  have hF3 := hF2.next hb3
  cases r3
  · go_wp2_with (refine wpList_load_w (by rfl) 26 (.tmp 1) rfl w.heap.size 0 (by rfl) (voteL v) _ (vote_range hA3) Try.underlying26 rfl (by rw [voteL_len]; exact vote_size) ?_)
    go_ret
    exact ⟨rfl, hF3.1⟩
  go_wp2_with (refine wpList_load_w (by rfl) 26 (.tmp 1) rfl w.heap.size 0 (by rfl) (voteL v) _ (vote_range hA3) Try.underlying26 rfl (by rw [voteL_len]; exact vote_size) ?_)
  refine (vchoice v r4 h4 _).mono ?_
  rintro e w4 ⟨rfl, hb4⟩
  have hA4 := hA3.next hb4
  have hF4 := hF3.next hb4
  cases r4
  · go_wp2_with (refine wpList_load_w (by rfl) 26 (.tmp 1) rfl w.heap.size 0 (by rfl) (voteL v) _ (vote_range hA4) Try.underlying26 rfl (by rw [voteL_len]; exact vote_size) ?_)
    go_ret
    exact ⟨rfl, hF4.1⟩
  go_wp2_with (refine wpList_load_w (by rfl) 26 (.tmp 1) rfl w.heap.size 0 (by rfl) (voteL v) _ (vote_range hA4) Try.underlying26 rfl (by rw [voteL_len]; exact vote_size) ?_)
  refine (vvalue v r5 h5 _).mono ?_
  rintro e w5 ⟨rfl, hb5⟩
  have hA5 := hA4.next hb5
  have hF5 := hF4.next hb5
  cases r5
  · go_wp2_with (refine wpList_load_w (by rfl) 26 (.tmp 1) rfl w.heap.size 0 (by rfl) (voteL v) _ (vote_range hA5) Try.underlying26 rfl (by rw [voteL_len]; exact vote_size) ?_)
    go_ret
    exact ⟨rfl, hF5.1⟩
  go_wp2_with (refine wpList_load_w (by rfl) 26 (.tmp 1) rfl w.heap.size 0 (by rfl) (voteL v) _ (vote_range hA5) Try.underlying26 rfl (by rw [voteL_len]; exact vote_size) ?_)
  refine (vsup v r6 h6 _).mono ?_
  rintro e w6 ⟨rfl, hb6⟩
  have hA6 := hA5.next hb6
  have hF6 := hF5.next hb6
  go_wp2_with (refine wpList_load_w (by rfl) 26 (.tmp 1) rfl w.heap.size 0 (by rfl) (voteL v) _ (vote_range hA6) Try.underlying26 rfl (by rw [voteL_len]; exact vote_size) ?_)
  go_ret
  exact ⟨rfl, hF6.1⟩

theorem vvalid_any (v : VoteV) (_hv : v.I) (w : World) : Calls Try.prog 10 #[vV v] w fun e w' => e = .returned (.bool (validF v)) ∧ Below w.heap.size w w' := by
  rw [← parts_valid]
  exact vparts v w _ _ _ _ _ _ _ (Lib.hid rfl) (Lib.hid rfl) (Lib.hid rfl) (Lib.hid rfl) (Lib.hid rfl) (Lib.hid rfl) (Lib.hid rfl)
theorem vvalid_l (v : VoteV) (hv : v.I) (r : Bool) (h : Hid (validF v = r)) (w : World) : Calls Try.prog 10 #[.agg (voteL v).toArray] w fun e w' => e = .returned (.bool r) ∧ Below w.heap.size w w' := by
  rw [← h.out]
  exact vvalid_any v hv w
end Go.Proofs.Ytpnmmfacnflngaa
