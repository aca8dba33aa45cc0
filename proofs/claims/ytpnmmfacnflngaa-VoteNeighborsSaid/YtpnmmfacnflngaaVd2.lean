/-
  Package vote: SameKey, Conflict, Less.
-/
import Derived.Test.YtpnmmfacnflngaaVd1
import Derived.Test.YtpnmmfacnflngaaHLess
namespace Go.Proofs.Ytpnmmfacnflngaa
open Go.ChangeShapes Go.WideShapes Go.ChangeAt Go.RowKit Go.Fl

attribute [local go_sem] equal_nm eqGuard_nm

set_option maxRecDepth 10000 in
set_option maxHeartbeats 1000000 in
theorem vsame_0 (a b : VoteV) (w : World) (h0 : (a.kind == b.kind) = false) :
    Calls Try.prog 20 #[vV a, vV b] w fun e w' => e = .returned (.bool false) ∧ Below w.heap.size w w' := by
  have hF := ((Fr.refl w).alloc (.cells (voteC a) 26)).alloc (.cells (voteC b) 26)
  go_enter Try.func20, Try.ntmps20
  go_wp2_with fail
  go_ret
  exact ⟨rfl, hF.1⟩

set_option maxRecDepth 10000 in
set_option maxHeartbeats 1000000 in
theorem vsame_1 (a b : VoteV) (w : World) (h0 : (a.kind == b.kind) = true) (h1 : nmEq a.parent b.parent = false) :
    Calls Try.prog 20 #[vV a, vV b] w fun e w' => e = .returned (.bool false) ∧ Below w.heap.size w w' := by
  have hF := ((Fr.refl w).alloc (.cells (voteC a) 26)).alloc (.cells (voteC b) 26)
  go_enter Try.func20, Try.ntmps20
  go_wp2_with fail
  go_ret
  exact ⟨rfl, hF.1⟩

set_option maxRecDepth 10000 in
set_option maxHeartbeats 1000000 in
theorem vsame_2 (a b : VoteV) (w : World) (h0 : (a.kind == b.kind) = true) (h1 : nmEq a.parent b.parent = true) (h2 : (a.slot == b.slot) = false) :
    Calls Try.prog 20 #[vV a, vV b] w fun e w' => e = .returned (.bool false) ∧ Below w.heap.size w w' := by
  have hF := ((Fr.refl w).alloc (.cells (voteC a) 26)).alloc (.cells (voteC b) 26)
  go_enter Try.func20, Try.ntmps20
  go_wp2_with fail
  go_ret
  exact ⟨rfl, hF.1⟩

set_option maxRecDepth 10000 in
set_option maxHeartbeats 1000000 in
theorem vsame_3 (a b : VoteV) (w : World) (h0 : (a.kind == b.kind) = true) (h1 : nmEq a.parent b.parent = true) (h2 : (a.slot == b.slot) = true) (h3 : (a.round == b.round) = false) :
    Calls Try.prog 20 #[vV a, vV b] w fun e w' => e = .returned (.bool false) ∧ Below w.heap.size w w' := by
  have hF := ((Fr.refl w).alloc (.cells (voteC a) 26)).alloc (.cells (voteC b) 26)
  go_enter Try.func20, Try.ntmps20
  go_wp2_with fail
  go_ret
  exact ⟨rfl, hF.1⟩

set_option maxRecDepth 10000 in
set_option maxHeartbeats 1000000 in
theorem vsame_4 (a b : VoteV) (w : World) (h0 : (a.kind == b.kind) = true) (h1 : nmEq a.parent b.parent = true) (h2 : (a.slot == b.slot) = true) (h3 : (a.round == b.round) = true) (h4 : (a.signer == b.signer) = false) :
    Calls Try.prog 20 #[vV a, vV b] w fun e w' => e = .returned (.bool false) ∧ Below w.heap.size w w' := by
  have hF := ((Fr.refl w).alloc (.cells (voteC a) 26)).alloc (.cells (voteC b) 26)
  go_enter Try.func20, Try.ntmps20
  go_wp2_with fail
  go_ret
  exact ⟨rfl, hF.1⟩

set_option maxRecDepth 10000 in
set_option maxHeartbeats 1000000 in
theorem vsame_5 (a b : VoteV) (w : World) (h0 : (a.kind == b.kind) = true) (h1 : nmEq a.parent b.parent = true) (h2 : (a.slot == b.slot) = true) (h3 : (a.round == b.round) = true) (h4 : (a.signer == b.signer) = true) :
    Calls Try.prog 20 #[vV a, vV b] w fun e w' => e = .returned (.bool true) ∧ Below w.heap.size w w' := by
  have hF := ((Fr.refl w).alloc (.cells (voteC a) 26)).alloc (.cells (voteC b) 26)
  go_enter Try.func20, Try.ntmps20
  go_wp2_with fail
  go_ret
  exact ⟨rfl, hF.1⟩

theorem vsame_any (a b : VoteV) (w : World) : Calls Try.prog 20 #[vV a, vV b] w fun e w' => e = .returned (.bool (sameF a b)) ∧ Below w.heap.size w w' := by
  by_cases h0 : a.kind = b.kind
  case neg => rw [show sameF a b = false from decide_eq_false (fun h => h0 h.1)]; exact vsame_0 a b w (beq_eq_false_iff_ne.2 h0)
  by_cases h1 : a.parent = b.parent
  case neg => rw [show sameF a b = false from decide_eq_false (fun h => h1 h.2.1)]; exact vsame_1 a b w (by simp [h0]) (nmEq_ne h1)
  have p1 : nmEq a.parent b.parent = true := by rw [h1]; exact nmEq_self _
  by_cases h2 : a.slot = b.slot
  case neg => rw [show sameF a b = false from decide_eq_false (fun h => h2 h.2.2.1)]; exact vsame_2 a b w (by simp [h0]) p1 (beq_eq_false_iff_ne.2 h2)
  by_cases h3 : a.round = b.round
  case neg => rw [show sameF a b = false from decide_eq_false (fun h => h3 h.2.2.2.1)]; exact vsame_3 a b w (by simp [h0]) p1 (by simp [h2]) (beq_eq_false_iff_ne.2 h3)
  by_cases h4 : a.signer = b.signer
  case neg => rw [show sameF a b = false from decide_eq_false (fun h => h4 h.2.2.2.2)]; exact vsame_4 a b w (by simp [h0]) p1 (by simp [h2]) (by simp [h3]) (beq_eq_false_iff_ne.2 h4)
  rw [show sameF a b = true from decide_eq_true ⟨h0, h1, h2, h3, h4⟩]
  exact vsame_5 a b w (by simp [h0]) p1 (by simp [h2]) (by simp [h3]) (by simp [h4])

theorem vsame_l (a b : VoteV) (r : Bool) (h : Hid (sameF a b = r)) (w : World) : Calls Try.prog 20 #[.agg (voteL a).toArray, .agg (voteL b).toArray] w fun e w' => e = .returned (.bool r) ∧ Below w.heap.size w w' := by
  rw [← h.out]
  exact vsame_any a b w
attribute [local go_sem] eqGuard_vote
attribute [local go_sem high] equal_voteL
set_option maxRecDepth 10000 in
set_option maxHeartbeats 1000000 in
theorem vconf_0 (a b : VoteV) (ha : a.I) (hb : b.I) (w : World) (h0 : Hid (sameF a b = false)) :
    Calls Try.prog 22 #[vV a, vV b] w fun e w' => e = .returned (.bool false) ∧ Below w.heap.size w w' := by
  obtain ⟨hA, hB, hF⟩ := twoW_facts w a b
  have HA := Lib.hid ha
  have HB := Lib.hid hb
  clear ha hb
  go_enter Try.func22, Try.ntmps22
  go_wp2_with (first | (refine wpList_load_w (by rfl) 26 (.tmp 2) rfl (w.heap.size) 0 (by rfl) (voteL a) _ (vote_range hA) Try.underlying26 rfl (by rw [voteL_len]; exact vote_size) ?_) | (refine wpList_load_w (by rfl) 26 (.tmp 3) rfl (w.heap.size + 1) 0 (by rfl) (voteL b) _ (vote_range hB) Try.underlying26 rfl (by rw [voteL_len]; exact vote_size) ?_))
  refine (vsame_l a b _ h0 (twoW w a b)).mono ?_
  rintro e w1 ⟨rfl, hb1⟩
  have hA1 := hA.next hb1
  have hB1 := hB.next hb1
  have hF1 := hF.next hb1
  go_wp2_with (first | (refine wpList_load_w (by rfl) 26 (.tmp 2) rfl (w.heap.size) 0 (by rfl) (voteL a) _ (vote_range hA1) Try.underlying26 rfl (by rw [voteL_len]; exact vote_size) ?_) | (refine wpList_load_w (by rfl) 26 (.tmp 3) rfl (w.heap.size + 1) 0 (by rfl) (voteL b) _ (vote_range hB1) Try.underlying26 rfl (by rw [voteL_len]; exact vote_size) ?_))
  go_ret
  exact ⟨rfl, hF1.1⟩

set_option maxRecDepth 10000 in
set_option maxHeartbeats 1000000 in
theorem vconf_1 (a b : VoteV) (ha : a.I) (hb : b.I) (w : World) (h0 : Hid (sameF a b = true)) (h1 : vtEq a b = true) :
    Calls Try.prog 22 #[vV a, vV b] w fun e w' => e = .returned (.bool false) ∧ Below w.heap.size w w' := by
  obtain ⟨hA, hB, hF⟩ := twoW_facts w a b
  have HA := Lib.hid ha
  have HB := Lib.hid hb
  clear ha hb
  go_enter Try.func22, Try.ntmps22
  go_wp2_with (first | (refine wpList_load_w (by rfl) 26 (.tmp 2) rfl (w.heap.size) 0 (by rfl) (voteL a) _ (vote_range hA) Try.underlying26 rfl (by rw [voteL_len]; exact vote_size) ?_) | (refine wpList_load_w (by rfl) 26 (.tmp 3) rfl (w.heap.size + 1) 0 (by rfl) (voteL b) _ (vote_range hB) Try.underlying26 rfl (by rw [voteL_len]; exact vote_size) ?_))
  refine (vsame_l a b _ h0 (twoW w a b)).mono ?_
  rintro e w1 ⟨rfl, hb1⟩
  have hA1 := hA.next hb1
  have hB1 := hB.next hb1
  have hF1 := hF.next hb1
  go_wp2_with (first | (refine wpList_load_w (by rfl) 26 (.tmp 2) rfl (w.heap.size) 0 (by rfl) (voteL a) _ (vote_range hA1) Try.underlying26 rfl (by rw [voteL_len]; exact vote_size) ?_) | (refine wpList_load_w (by rfl) 26 (.tmp 3) rfl (w.heap.size + 1) 0 (by rfl) (voteL b) _ (vote_range hB1) Try.underlying26 rfl (by rw [voteL_len]; exact vote_size) ?_))
  go_ret
  exact ⟨rfl, hF1.1⟩

set_option maxRecDepth 10000 in
set_option maxHeartbeats 1000000 in
theorem vconf_2 (a b : VoteV) (ha : a.I) (hb : b.I) (w : World) (h0 : Hid (sameF a b = true)) (h1 : vtEq a b = false) (h2 : Hid (validF a = false)) :
    Calls Try.prog 22 #[vV a, vV b] w fun e w' => e = .returned (.bool false) ∧ Below w.heap.size w w' := by
  obtain ⟨hA, hB, hF⟩ := twoW_facts w a b
  have HA := Lib.hid ha
  have HB := Lib.hid hb
  clear ha hb
  go_enter Try.func22, Try.ntmps22
  go_wp2_with (first | (refine wpList_load_w (by rfl) 26 (.tmp 2) rfl (w.heap.size) 0 (by rfl) (voteL a) _ (vote_range hA) Try.underlying26 rfl (by rw [voteL_len]; exact vote_size) ?_) | (refine wpList_load_w (by rfl) 26 (.tmp 3) rfl (w.heap.size + 1) 0 (by rfl) (voteL b) _ (vote_range hB) Try.underlying26 rfl (by rw [voteL_len]; exact vote_size) ?_))
  refine (vsame_l a b _ h0 (twoW w a b)).mono ?_
  rintro e w1 ⟨rfl, hb1⟩
  have hA1 := hA.next hb1
  have hB1 := hB.next hb1
  have hF1 := hF.next hb1
  go_wp2_with (first | (refine wpList_load_w (by rfl) 26 (.tmp 2) rfl (w.heap.size) 0 (by rfl) (voteL a) _ (vote_range hA1) Try.underlying26 rfl (by rw [voteL_len]; exact vote_size) ?_) | (refine wpList_load_w (by rfl) 26 (.tmp 3) rfl (w.heap.size + 1) 0 (by rfl) (voteL b) _ (vote_range hB1) Try.underlying26 rfl (by rw [voteL_len]; exact vote_size) ?_))
  refine (vvalid_l a HA.out _ h2 w1).mono ?_
  rintro e w2 ⟨rfl, hb2⟩
  have hA2 := hA1.next hb2
  have hB2 := hB1.next hb2
  have hF2 := hF1.next hb2
  go_wp2_with (first | (refine wpList_load_w (by rfl) 26 (.tmp 2) rfl (w.heap.size) 0 (by rfl) (voteL a) _ (vote_range hA2) Try.underlying26 rfl (by rw [voteL_len]; exact vote_size) ?_) | (refine wpList_load_w (by rfl) 26 (.tmp 3) rfl (w.heap.size + 1) 0 (by rfl) (voteL b) _ (vote_range hB2) Try.underlying26 rfl (by rw [voteL_len]; exact vote_size) ?_))
  go_ret
  exact ⟨rfl, hF2.1⟩

set_option maxRecDepth 10000 in
set_option maxHeartbeats 1000000 in
theorem vconf_3 (a b : VoteV) (ha : a.I) (hb : b.I) (w : World) (h0 : Hid (sameF a b = true)) (h1 : vtEq a b = false) (h2 : Hid (validF a = true)) (h3 : Hid (validF b = false)) :
    Calls Try.prog 22 #[vV a, vV b] w fun e w' => e = .returned (.bool false) ∧ Below w.heap.size w w' := by
  obtain ⟨hA, hB, hF⟩ := twoW_facts w a b
  have HA := Lib.hid ha
  have HB := Lib.hid hb
  clear ha hb
  go_enter Try.func22, Try.ntmps22
  go_wp2_with (first | (refine wpList_load_w (by rfl) 26 (.tmp 2) rfl (w.heap.size) 0 (by rfl) (voteL a) _ (vote_range hA) Try.underlying26 rfl (by rw [voteL_len]; exact vote_size) ?_) | (refine wpList_load_w (by rfl) 26 (.tmp 3) rfl (w.heap.size + 1) 0 (by rfl) (voteL b) _ (vote_range hB) Try.underlying26 rfl (by rw [voteL_len]; exact vote_size) ?_))
  refine (vsame_l a b _ h0 (twoW w a b)).mono ?_
  rintro e w1 ⟨rfl, hb1⟩
  have hA1 := hA.next hb1
  have hB1 := hB.next hb1
  have hF1 := hF.next hb1
  go_wp2_with (first | (refine wpList_load_w (by rfl) 26 (.tmp 2) rfl (w.heap.size) 0 (by rfl) (voteL a) _ (vote_range hA1) Try.underlying26 rfl (by rw [voteL_len]; exact vote_size) ?_) | (refine wpList_load_w (by rfl) 26 (.tmp 3) rfl (w.heap.size + 1) 0 (by rfl) (voteL b) _ (vote_range hB1) Try.underlying26 rfl (by rw [voteL_len]; exact vote_size) ?_))
  refine (vvalid_l a HA.out _ h2 w1).mono ?_
  rintro e w2 ⟨rfl, hb2⟩
  have hA2 := hA1.next hb2
  have hB2 := hB1.next hb2
  have hF2 := hF1.next hb2
  go_wp2_with (first | (refine wpList_load_w (by rfl) 26 (.tmp 2) rfl (w.heap.size) 0 (by rfl) (voteL a) _ (vote_range hA2) Try.underlying26 rfl (by rw [voteL_len]; exact vote_size) ?_) | (refine wpList_load_w (by rfl) 26 (.tmp 3) rfl (w.heap.size + 1) 0 (by rfl) (voteL b) _ (vote_range hB2) Try.underlying26 rfl (by rw [voteL_len]; exact vote_size) ?_))
  refine (vvalid_l b HB.out _ h3 w2).mono ?_
  rintro e w3 ⟨rfl, hb3⟩
  have hA3 := hA2.next hb3
  have hB3 := hB2.next hb3
  have hF3 := hF2.next hb3
  go_wp2_with (first | (refine wpList_load_w (by rfl) 26 (.tmp 2) rfl (w.heap.size) 0 (by rfl) (voteL a) _ (vote_range hA3) Try.underlying26 rfl (by rw [voteL_len]; exact vote_size) ?_) | (refine wpList_load_w (by rfl) 26 (.tmp 3) rfl (w.heap.size + 1) 0 (by rfl) (voteL b) _ (vote_range hB3) Try.underlying26 rfl (by rw [voteL_len]; exact vote_size) ?_))
  go_ret
  exact ⟨rfl, hF3.1⟩

set_option maxRecDepth 10000 in
set_option maxHeartbeats 1000000 in
theorem vconf_4 (a b : VoteV) (ha : a.I) (hb : b.I) (w : World) (h0 : Hid (sameF a b = true)) (h1 : vtEq a b = false) (h2 : Hid (validF a = true)) (h3 : Hid (validF b = true)) :
    Calls Try.prog 22 #[vV a, vV b] w fun e w' => e = .returned (.bool true) ∧ Below w.heap.size w w' := by
  obtain ⟨hA, hB, hF⟩ := twoW_facts w a b
  have HA := Lib.hid ha
  have HB := Lib.hid hb
  clear ha hb
  go_enter Try.func22, Try.ntmps22
  go_wp2_with (first | (refine wpList_load_w (by rfl) 26 (.tmp 2) rfl (w.heap.size) 0 (by rfl) (voteL a) _ (vote_range hA) Try.underlying26 rfl (by rw [voteL_len]; exact vote_size) ?_) | (refine wpList_load_w (by rfl) 26 (.tmp 3) rfl (w.heap.size + 1) 0 (by rfl) (voteL b) _ (vote_range hB) Try.underlying26 rfl (by rw [voteL_len]; exact vote_size) ?_))
  refine (vsame_l a b _ h0 (twoW w a b)).mono ?_
  rintro e w1 ⟨rfl, hb1⟩
  have hA1 := hA.next hb1
  have hB1 := hB.next hb1
  have hF1 := hF.next hb1
  go_wp2_with (first | (refine wpList_load_w (by rfl) 26 (.tmp 2) rfl (w.heap.size) 0 (by rfl) (voteL a) _ (vote_range hA1) Try.underlying26 rfl (by rw [voteL_len]; exact vote_size) ?_) | (refine wpList_load_w (by rfl) 26 (.tmp 3) rfl (w.heap.size + 1) 0 (by rfl) (voteL b) _ (vote_range hB1) Try.underlying26 rfl (by rw [voteL_len]; exact vote_size) ?_))
  refine (vvalid_l a HA.out _ h2 w1).mono ?_
  rintro e w2 ⟨rfl, hb2⟩
  have hA2 := hA1.next hb2
  have hB2 := hB1.next hb2
  have hF2 := hF1.next hb2
  go_wp2_with (first | (refine wpList_load_w (by rfl) 26 (.tmp 2) rfl (w.heap.size) 0 (by rfl) (voteL a) _ (vote_range hA2) Try.underlying26 rfl (by rw [voteL_len]; exact vote_size) ?_) | (refine wpList_load_w (by rfl) 26 (.tmp 3) rfl (w.heap.size + 1) 0 (by rfl) (voteL b) _ (vote_range hB2) Try.underlying26 rfl (by rw [voteL_len]; exact vote_size) ?_))
  refine (vvalid_l b HB.out _ h3 w2).mono ?_
  rintro e w3 ⟨rfl, hb3⟩
  have hA3 := hA2.next hb3
  have hB3 := hB2.next hb3
  have hF3 := hF2.next hb3
  go_wp2_with (first | (refine wpList_load_w (by rfl) 26 (.tmp 2) rfl (w.heap.size) 0 (by rfl) (voteL a) _ (vote_range hA3) Try.underlying26 rfl (by rw [voteL_len]; exact vote_size) ?_) | (refine wpList_load_w (by rfl) 26 (.tmp 3) rfl (w.heap.size + 1) 0 (by rfl) (voteL b) _ (vote_range hB3) Try.underlying26 rfl (by rw [voteL_len]; exact vote_size) ?_))
  go_ret
  exact ⟨rfl, hF3.1⟩

theorem vconf_any (a b : VoteV) (ha : a.I) (hb : b.I) (w : World) : Calls Try.prog 22 #[vV a, vV b] w fun e w' => e = .returned (.bool (conflictF a b)) ∧ Below w.heap.size w w' := by
  have e : conflictF a b = (validF a && validF b && sameF a b && !vtEq a b) := rfl
  rw [e]
  cases h0 : sameF a b
  · rw [Bool.and_false, Bool.false_and]; exact vconf_0 a b ha hb w (Lib.hid h0)
  cases h1 : vtEq a b
  case true => rw [Bool.not_true, Bool.and_false]; exact vconf_1 a b ha hb w (Lib.hid h0) h1
  cases h2 : validF a
  · exact vconf_2 a b ha hb w (Lib.hid h0) h1 (Lib.hid h2)
  cases h3 : validF b
  · exact vconf_3 a b ha hb w (Lib.hid h0) h1 (Lib.hid h2) (Lib.hid h3)
  · exact vconf_4 a b ha hb w (Lib.hid h0) h1 (Lib.hid h2) (Lib.hid h3)

theorem vnless_h (x y : BitVec 64) (r : Bool) (h : Hid (ltB x y = r)) (w : World) : Calls Try.prog 39 #[nm x, nm y] w fun e w' => e = .returned (.bool r) ∧ Below w.heap.size w w' := by
  rw [← h.out]
  exact less_any x y w

set_option maxRecDepth 10000 in
set_option maxHeartbeats 1000000 in
theorem vless_p (a b : VoteV) (w : World) (r : Bool) (hr : Hid (ltB a.parent b.parent = r)) (hp : nmEq a.parent b.parent = false) :
    Calls Try.prog 24 #[vV a, vV b] w fun e w' => e = .returned (.bool r) ∧ Below w.heap.size w w' := by
  obtain ⟨hA, hB, hF⟩ := twoW_facts w a b
  go_enter Try.func24, Try.ntmps24
  go_wp2_with fail
  refine (vnless_h a.parent b.parent r hr (twoW w a b)).mono ?_
  rintro e w1 ⟨rfl, hb1⟩
  have hF1 := hF.next hb1
  go_wp2_with fail
  go_ret
  exact ⟨rfl, hF1.1⟩

set_option maxRecDepth 10000 in
set_option maxHeartbeats 1000000 in
theorem vless_0 (a b : VoteV) (w : World) (hp : nmEq a.parent b.parent = true) (h0 : (a.slot == b.slot) = false) :
    Calls Try.prog 24 #[vV a, vV b] w fun e w' => e = .returned (.bool (decide (a.slot < b.slot))) ∧ Below w.heap.size w w' := by
  obtain ⟨hA, hB, hF⟩ := twoW_facts w a b
  go_enter Try.func24, Try.ntmps24
  go_wp2_with fail
  go_ret
  exact ⟨rfl, hF.1⟩

set_option maxRecDepth 10000 in
set_option maxHeartbeats 1000000 in
theorem vless_1 (a b : VoteV) (w : World) (hp : nmEq a.parent b.parent = true) (h0 : (a.slot == b.slot) = true) (h1 : (a.round == b.round) = false) :
    Calls Try.prog 24 #[vV a, vV b] w fun e w' => e = .returned (.bool (decide (a.round < b.round))) ∧ Below w.heap.size w w' := by
  obtain ⟨hA, hB, hF⟩ := twoW_facts w a b
  go_enter Try.func24, Try.ntmps24
  go_wp2_with fail
  go_ret
  exact ⟨rfl, hF.1⟩

set_option maxRecDepth 10000 in
set_option maxHeartbeats 1000000 in
theorem vless_2 (a b : VoteV) (w : World) (hp : nmEq a.parent b.parent = true) (h0 : (a.slot == b.slot) = true) (h1 : (a.round == b.round) = true) (h2 : (a.kind == b.kind) = false) :
    Calls Try.prog 24 #[vV a, vV b] w fun e w' => e = .returned (.bool (decide (a.kind < b.kind))) ∧ Below w.heap.size w w' := by
  obtain ⟨hA, hB, hF⟩ := twoW_facts w a b
  go_enter Try.func24, Try.ntmps24
  go_wp2_with fail
  go_ret
  exact ⟨rfl, hF.1⟩

set_option maxRecDepth 10000 in
set_option maxHeartbeats 1000000 in
theorem vless_3 (a b : VoteV) (w : World) (hp : nmEq a.parent b.parent = true) (h0 : (a.slot == b.slot) = true) (h1 : (a.round == b.round) = true) (h2 : (a.kind == b.kind) = true) (h3 : (a.signer == b.signer) = false) :
    Calls Try.prog 24 #[vV a, vV b] w fun e w' => e = .returned (.bool (decide (a.signer < b.signer))) ∧ Below w.heap.size w w' := by
  obtain ⟨hA, hB, hF⟩ := twoW_facts w a b
  go_enter Try.func24, Try.ntmps24
  go_wp2_with fail
  go_ret
  exact ⟨rfl, hF.1⟩

set_option maxRecDepth 10000 in
set_option maxHeartbeats 1000000 in
theorem vless_4 (a b : VoteV) (w : World) (hp : nmEq a.parent b.parent = true) (h0 : (a.slot == b.slot) = true) (h1 : (a.round == b.round) = true) (h2 : (a.kind == b.kind) = true) (h3 : (a.signer == b.signer) = true) (h4 : (a.choice == b.choice) = false) :
    Calls Try.prog 24 #[vV a, vV b] w fun e w' => e = .returned (.bool (decide (a.choice < b.choice))) ∧ Below w.heap.size w w' := by
  obtain ⟨hA, hB, hF⟩ := twoW_facts w a b
  go_enter Try.func24, Try.ntmps24
  go_wp2_with fail
  go_ret
  exact ⟨rfl, hF.1⟩

set_option maxRecDepth 10000 in
set_option maxHeartbeats 1000000 in
theorem vless_v (a b : VoteV) (w : World) (r : Bool) (hr : Hid (ltB a.value b.value = r)) (hp : nmEq a.parent b.parent = true) (h0 : (a.slot == b.slot) = true) (h1 : (a.round == b.round) = true) (h2 : (a.kind == b.kind) = true) (h3 : (a.signer == b.signer) = true) (h4 : (a.choice == b.choice) = true) (hv : nmEq a.value b.value = false) :
    Calls Try.prog 24 #[vV a, vV b] w fun e w' => e = .returned (.bool r) ∧ Below w.heap.size w w' := by
  obtain ⟨hA, hB, hF⟩ := twoW_facts w a b
  go_enter Try.func24, Try.ntmps24
  go_wp2_with fail
  refine (vnless_h a.value b.value r hr (twoW w a b)).mono ?_
  rintro e w1 ⟨rfl, hb1⟩
  have hF1 := hF.next hb1
  go_wp2_with fail
  go_ret
  exact ⟨rfl, hF1.1⟩

set_option maxRecDepth 10000 in
set_option maxHeartbeats 1000000 in
theorem vless_s (a b : VoteV) (w : World) (hp : nmEq a.parent b.parent = true) (h0 : (a.slot == b.slot) = true) (h1 : (a.round == b.round) = true) (h2 : (a.kind == b.kind) = true) (h3 : (a.signer == b.signer) = true) (h4 : (a.choice == b.choice) = true) (hv : nmEq a.value b.value = true) :
    Calls Try.prog 24 #[vV a, vV b] w fun e w' => e = .returned (.bool (decide (a.sup < b.sup))) ∧ Below w.heap.size w w' := by
  obtain ⟨hA, hB, hF⟩ := twoW_facts w a b
  go_enter Try.func24, Try.ntmps24
  go_wp2_with fail
  go_ret
  exact ⟨rfl, hF.1⟩

theorem vless_any (a b : VoteV) (w : World) : Calls Try.prog 24 #[vV a, vV b] w fun e w' => e = .returned (.bool (lessF a b)) ∧ Below w.heap.size w w' := by
  unfold lessF
  by_cases hp : a.parent = b.parent
  case neg => rw [if_neg hp]; exact vless_p a b w _ (Lib.hid rfl) (nmEq_ne hp)
  rw [if_pos hp]
  have p : nmEq a.parent b.parent = true := by rw [hp]; exact nmEq_self _
  unfold fiveF
  by_cases h0 : a.slot = b.slot
  case neg => rw [lexI, if_neg h0]; exact vless_0 a b w p (beq_eq_false_iff_ne.2 h0)
  have e0 : (a.slot == b.slot) = true := by simp [h0]
  rw [lexI, if_pos h0]
  by_cases h1 : a.round = b.round
  case neg => rw [lexI, if_neg h1]; exact vless_1 a b w p e0 (beq_eq_false_iff_ne.2 h1)
  have e1 : (a.round == b.round) = true := by simp [h1]
  rw [lexI, if_pos h1]
  by_cases h2 : a.kind = b.kind
  case neg => rw [lexI, if_neg h2]; exact vless_2 a b w p e0 e1 (beq_eq_false_iff_ne.2 h2)
  have e2 : (a.kind == b.kind) = true := by simp [h2]
  rw [lexI, if_pos h2]
  by_cases h3 : a.signer = b.signer
  case neg => rw [lexI, if_neg h3]; exact vless_3 a b w p e0 e1 e2 (beq_eq_false_iff_ne.2 h3)
  have e3 : (a.signer == b.signer) = true := by simp [h3]
  rw [lexI, if_pos h3]
  by_cases h4 : a.choice = b.choice
  case neg => rw [lexI, if_neg h4]; exact vless_4 a b w p e0 e1 e2 e3 (beq_eq_false_iff_ne.2 h4)
  have e4 : (a.choice == b.choice) = true := by simp [h4]
  rw [lexI, if_pos h4]
  rw [lexI]
  · show Calls _ _ _ _ fun e w' => e = .returned (.bool (if a.value = b.value then decide (a.sup < b.sup) else ltB a.value b.value)) ∧ _
    by_cases hv : a.value = b.value
    · rw [if_pos hv]; exact vless_s a b w p e0 e1 e2 e3 e4 (by rw [hv]; exact nmEq_self _)
    · rw [if_neg hv]; exact vless_v a b w _ (Lib.hid rfl) p e0 e1 e2 e3 e4 (nmEq_ne hv)
  · simp
end Go.Proofs.Ytpnmmfacnflngaa
