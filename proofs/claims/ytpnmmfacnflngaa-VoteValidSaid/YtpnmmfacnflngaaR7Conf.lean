/-
  forkledgerref6: Conflict, Less.
-/
import Derived.Test.YtpnmmfacnflngaaR7Same
import Derived.Test.YtpnmmfacnflngaaR1Less
namespace Go.Proofs.Ytpnmmfacnflngaa
open Go.ChangeShapes Go.WideShapes Go.ChangeAt Go.RowKit Go.Fl

attribute [local go_sem] equal_nm eqGuard_nm

attribute [local go_sem] eqGuard_vote

theorem rvalid_h (v : VoteV) (hv : v.I) (r : Bool) (h : Hid (validF v = r)) (w : World) : Calls Try.prog 11 #[vV v] w fun e w' => e = .returned (.bool r) ∧ Below w.heap.size w w' := by
  rw [← h.out]
  exact rvalid_any v hv w
theorem rsame_h (a b : VoteV) (r : Bool) (h : Hid (sameF a b = r)) (w : World) : Calls Try.prog 21 #[vV a, vV b] w fun e w' => e = .returned (.bool r) ∧ Below w.heap.size w w' := by
  rw [← h.out]
  exact rsame_any a b w
theorem rvalid_l (v : VoteV) (hv : v.I) (r : Bool) (h : Hid (validF v = r)) (w : World) : Calls Try.prog 11 #[.agg (voteL v).toArray] w fun e w' => e = .returned (.bool r) ∧ Below w.heap.size w w' := rvalid_h v hv r h w
theorem rsame_l (a b : VoteV) (r : Bool) (h : Hid (sameF a b = r)) (w : World) : Calls Try.prog 21 #[.agg (voteL a).toArray, .agg (voteL b).toArray] w fun e w' => e = .returned (.bool r) ∧ Below w.heap.size w w' := rsame_h a b r h w
attribute [local go_sem high] equal_voteL
set_option maxRecDepth 10000 in
set_option maxHeartbeats 1000000 in
theorem rconf_1 (a b : VoteV) (ha : a.I) (hb : b.I) (w : World) (h0 : Hid (validF a = false)) :
    Calls Try.prog 23 #[vV a, vV b] w fun e w' => e = .returned (.bool false) ∧ Below w.heap.size w w' := by
  obtain ⟨hA, hB, hF⟩ := twoW_facts w a b
  have HA := Lib.hid ha
  have HB := Lib.hid hb
  clear ha hb
  go_enter Try.func23, Try.ntmps23
  go_wp2_with (refine wpList_load_mid rfl 26 (.tmp 2) rfl w.heap.size 0 (by rfl) (voteL a) _ (vote_range hA) Try.underlying26 rfl (by rw [voteL_len]; exact vote_size) ?_)
  refine (rvalid_l a HA.out _ h0 (twoW w a b)).mono ?_
  rintro e w1 ⟨rfl, hb1⟩
  have hA1 := hA.next hb1
  have hB1 := hB.next hb1
  have hF1 := hF.next hb1
  go_wp2_with (refine wpList_load_w (by rfl) 26 (.tmp 3) rfl (w.heap.size + 1) 0 (by rfl) (voteL b) _ (vote_range hB1) Try.underlying26 rfl (by rw [voteL_len]; exact vote_size) ?_)
  go_ret
  exact ⟨rfl, hF1.1⟩

set_option maxRecDepth 10000 in
set_option maxHeartbeats 1000000 in
theorem rconf_2 (a b : VoteV) (ha : a.I) (hb : b.I) (w : World) (h0 : Hid (validF a = true)) (h1 : Hid (validF b = false)) :
    Calls Try.prog 23 #[vV a, vV b] w fun e w' => e = .returned (.bool false) ∧ Below w.heap.size w w' := by
  obtain ⟨hA, hB, hF⟩ := twoW_facts w a b
  have HA := Lib.hid ha
  have HB := Lib.hid hb
  clear ha hb
  go_enter Try.func23, Try.ntmps23
  go_wp2_with (refine wpList_load_mid rfl 26 (.tmp 2) rfl w.heap.size 0 (by rfl) (voteL a) _ (vote_range hA) Try.underlying26 rfl (by rw [voteL_len]; exact vote_size) ?_)
  refine (rvalid_l a HA.out _ h0 (twoW w a b)).mono ?_
  rintro e w1 ⟨rfl, hb1⟩
  have hA1 := hA.next hb1
  have hB1 := hB.next hb1
  have hF1 := hF.next hb1
  go_wp2_with (refine wpList_load_w (by rfl) 26 (.tmp 3) rfl (w.heap.size + 1) 0 (by rfl) (voteL b) _ (vote_range hB1) Try.underlying26 rfl (by rw [voteL_len]; exact vote_size) ?_)
  refine (rvalid_l b HB.out _ h1 w1).mono ?_
  rintro e w2 ⟨rfl, hb2⟩
  have hA2 := hA1.next hb2
  have hB2 := hB1.next hb2
  have hF2 := hF1.next hb2
  go_wp2_with (first | (refine wpList_load_w (by rfl) 26 (.tmp 2) rfl w.heap.size 0 (by rfl) (voteL a) _ (vote_range hA2) Try.underlying26 rfl (by rw [voteL_len]; exact vote_size) ?_) | (refine wpList_load_w (by rfl) 26 (.tmp 3) rfl (w.heap.size + 1) 0 (by rfl) (voteL b) _ (vote_range hB2) Try.underlying26 rfl (by rw [voteL_len]; exact vote_size) ?_))
  go_ret
  exact ⟨rfl, hF2.1⟩

set_option maxRecDepth 10000 in
set_option maxHeartbeats 1000000 in
theorem rconf_3 (a b : VoteV) (ha : a.I) (hb : b.I) (w : World) (h0 : Hid (validF a = true)) (h1 : Hid (validF b = true)) (h2 : Hid (sameF a b = false)) :
    Calls Try.prog 23 #[vV a, vV b] w fun e w' => e = .returned (.bool false) ∧ Below w.heap.size w w' := by
  obtain ⟨hA, hB, hF⟩ := twoW_facts w a b
  have HA := Lib.hid ha
  have HB := Lib.hid hb
  clear ha hb
  go_enter Try.func23, Try.ntmps23
  go_wp2_with (refine wpList_load_mid rfl 26 (.tmp 2) rfl w.heap.size 0 (by rfl) (voteL a) _ (vote_range hA) Try.underlying26 rfl (by rw [voteL_len]; exact vote_size) ?_)
  refine (rvalid_l a HA.out _ h0 (twoW w a b)).mono ?_
  rintro e w1 ⟨rfl, hb1⟩
  have hA1 := hA.next hb1
  have hB1 := hB.next hb1
  have hF1 := hF.next hb1
  go_wp2_with (refine wpList_load_w (by rfl) 26 (.tmp 3) rfl (w.heap.size + 1) 0 (by rfl) (voteL b) _ (vote_range hB1) Try.underlying26 rfl (by rw [voteL_len]; exact vote_size) ?_)
  refine (rvalid_l b HB.out _ h1 w1).mono ?_
  rintro e w2 ⟨rfl, hb2⟩
  have hA2 := hA1.next hb2
  have hB2 := hB1.next hb2
  have hF2 := hF1.next hb2
  go_wp2_with (first | (refine wpList_load_w (by rfl) 26 (.tmp 2) rfl w.heap.size 0 (by rfl) (voteL a) _ (vote_range hA2) Try.underlying26 rfl (by rw [voteL_len]; exact vote_size) ?_) | (refine wpList_load_w (by rfl) 26 (.tmp 3) rfl (w.heap.size + 1) 0 (by rfl) (voteL b) _ (vote_range hB2) Try.underlying26 rfl (by rw [voteL_len]; exact vote_size) ?_))
  refine (rsame_l a b _ h2 w2).mono ?_
  rintro e w3 ⟨rfl, hb3⟩
  have hA3 := hA2.next hb3
  have hB3 := hB2.next hb3
  have hF3 := hF2.next hb3
  go_wp2_with (first | (refine wpList_load_w (by rfl) 26 (.tmp 2) rfl w.heap.size 0 (by rfl) (voteL a) _ (vote_range hA3) Try.underlying26 rfl (by rw [voteL_len]; exact vote_size) ?_) | (refine wpList_load_w (by rfl) 26 (.tmp 3) rfl (w.heap.size + 1) 0 (by rfl) (voteL b) _ (vote_range hB3) Try.underlying26 rfl (by rw [voteL_len]; exact vote_size) ?_))
  go_ret
  exact ⟨rfl, hF3.1⟩

set_option maxRecDepth 10000 in
set_option maxHeartbeats 1000000 in
theorem rconf_4 (a b : VoteV) (ha : a.I) (hb : b.I) (w : World) (h0 : Hid (validF a = true)) (h1 : Hid (validF b = true)) (h2 : Hid (sameF a b = true)) (h3 : vtEq a b = true) :
    Calls Try.prog 23 #[vV a, vV b] w fun e w' => e = .returned (.bool false) ∧ Below w.heap.size w w' := by
  obtain ⟨hA, hB, hF⟩ := twoW_facts w a b
  have HA := Lib.hid ha
  have HB := Lib.hid hb
  clear ha hb
  go_enter Try.func23, Try.ntmps23
  go_wp2_with (refine wpList_load_mid rfl 26 (.tmp 2) rfl w.heap.size 0 (by rfl) (voteL a) _ (vote_range hA) Try.underlying26 rfl (by rw [voteL_len]; exact vote_size) ?_)
  refine (rvalid_l a HA.out _ h0 (twoW w a b)).mono ?_
  rintro e w1 ⟨rfl, hb1⟩
  have hA1 := hA.next hb1
  have hB1 := hB.next hb1
  have hF1 := hF.next hb1
  go_wp2_with (refine wpList_load_w (by rfl) 26 (.tmp 3) rfl (w.heap.size + 1) 0 (by rfl) (voteL b) _ (vote_range hB1) Try.underlying26 rfl (by rw [voteL_len]; exact vote_size) ?_)
  refine (rvalid_l b HB.out _ h1 w1).mono ?_
  rintro e w2 ⟨rfl, hb2⟩
  have hA2 := hA1.next hb2
  have hB2 := hB1.next hb2
  have hF2 := hF1.next hb2
  go_wp2_with (first | (refine wpList_load_w (by rfl) 26 (.tmp 2) rfl w.heap.size 0 (by rfl) (voteL a) _ (vote_range hA2) Try.underlying26 rfl (by rw [voteL_len]; exact vote_size) ?_) | (refine wpList_load_w (by rfl) 26 (.tmp 3) rfl (w.heap.size + 1) 0 (by rfl) (voteL b) _ (vote_range hB2) Try.underlying26 rfl (by rw [voteL_len]; exact vote_size) ?_))
  refine (rsame_l a b _ h2 w2).mono ?_
  rintro e w3 ⟨rfl, hb3⟩
  have hA3 := hA2.next hb3
  have hB3 := hB2.next hb3
  have hF3 := hF2.next hb3
  go_wp2_with (first | (refine wpList_load_w (by rfl) 26 (.tmp 2) rfl w.heap.size 0 (by rfl) (voteL a) _ (vote_range hA3) Try.underlying26 rfl (by rw [voteL_len]; exact vote_size) ?_) | (refine wpList_load_w (by rfl) 26 (.tmp 3) rfl (w.heap.size + 1) 0 (by rfl) (voteL b) _ (vote_range hB3) Try.underlying26 rfl (by rw [voteL_len]; exact vote_size) ?_))
  go_ret
  exact ⟨rfl, hF3.1⟩

set_option maxRecDepth 10000 in
set_option maxHeartbeats 1000000 in
theorem rconf_5 (a b : VoteV) (ha : a.I) (hb : b.I) (w : World) (h0 : Hid (validF a = true)) (h1 : Hid (validF b = true)) (h2 : Hid (sameF a b = true)) (h3 : vtEq a b = false) :
    Calls Try.prog 23 #[vV a, vV b] w fun e w' => e = .returned (.bool true) ∧ Below w.heap.size w w' := by
  obtain ⟨hA, hB, hF⟩ := twoW_facts w a b
  have HA := Lib.hid ha
  have HB := Lib.hid hb
  clear ha hb
  go_enter Try.func23, Try.ntmps23
  go_wp2_with (refine wpList_load_mid rfl 26 (.tmp 2) rfl w.heap.size 0 (by rfl) (voteL a) _ (vote_range hA) Try.underlying26 rfl (by rw [voteL_len]; exact vote_size) ?_)
  refine (rvalid_l a HA.out _ h0 (twoW w a b)).mono ?_
  rintro e w1 ⟨rfl, hb1⟩
  have hA1 := hA.next hb1
  have hB1 := hB.next hb1
  have hF1 := hF.next hb1
  go_wp2_with (refine wpList_load_w (by rfl) 26 (.tmp 3) rfl (w.heap.size + 1) 0 (by rfl) (voteL b) _ (vote_range hB1) Try.underlying26 rfl (by rw [voteL_len]; exact vote_size) ?_)
  refine (rvalid_l b HB.out _ h1 w1).mono ?_
  rintro e w2 ⟨rfl, hb2⟩
  have hA2 := hA1.next hb2
  have hB2 := hB1.next hb2
  have hF2 := hF1.next hb2
  go_wp2_with (first | (refine wpList_load_w (by rfl) 26 (.tmp 2) rfl w.heap.size 0 (by rfl) (voteL a) _ (vote_range hA2) Try.underlying26 rfl (by rw [voteL_len]; exact vote_size) ?_) | (refine wpList_load_w (by rfl) 26 (.tmp 3) rfl (w.heap.size + 1) 0 (by rfl) (voteL b) _ (vote_range hB2) Try.underlying26 rfl (by rw [voteL_len]; exact vote_size) ?_))
  refine (rsame_l a b _ h2 w2).mono ?_
  rintro e w3 ⟨rfl, hb3⟩
  have hA3 := hA2.next hb3
  have hB3 := hB2.next hb3
  have hF3 := hF2.next hb3
  go_wp2_with (first | (refine wpList_load_w (by rfl) 26 (.tmp 2) rfl w.heap.size 0 (by rfl) (voteL a) _ (vote_range hA3) Try.underlying26 rfl (by rw [voteL_len]; exact vote_size) ?_) | (refine wpList_load_w (by rfl) 26 (.tmp 3) rfl (w.heap.size + 1) 0 (by rfl) (voteL b) _ (vote_range hB3) Try.underlying26 rfl (by rw [voteL_len]; exact vote_size) ?_))
  go_ret
  exact ⟨rfl, hF3.1⟩

theorem rconf_any (a b : VoteV) (ha : a.I) (hb : b.I) (w : World) : Calls Try.prog 23 #[vV a, vV b] w fun e w' => e = .returned (.bool (conflictF a b)) ∧ Below w.heap.size w w' := by
  have e : conflictF a b = (validF a && validF b && sameF a b && !vtEq a b) := rfl
  rw [e]
  cases h0 : validF a
  · exact rconf_1 a b ha hb w (Lib.hid h0)
  cases h1 : validF b
  · exact rconf_2 a b ha hb w (Lib.hid h0) (Lib.hid h1)
  cases h2 : sameF a b
  · exact rconf_3 a b ha hb w (Lib.hid h0) (Lib.hid h1) (Lib.hid h2)
  cases h3 : vtEq a b
  · exact rconf_5 a b ha hb w (Lib.hid h0) (Lib.hid h1) (Lib.hid h2) h3
  · exact rconf_4 a b ha hb w (Lib.hid h0) (Lib.hid h1) (Lib.hid h2) h3
end Go.Proofs.Ytpnmmfacnflngaa
