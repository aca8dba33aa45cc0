/-
  forkledgerref6: cases of Valid.
-/
import Derived.Test.YtpnmmfacnflngaaR7Va0
import Derived.Test.YtpnmmfacnflngaaSeat
import Derived.BigQuiet
namespace Go.Proofs.Ytpnmmfacnflngaa
open Go.ChangeShapes Go.WideShapes Go.ChangeAt Go.RowKit Go.Fl

attribute [local go_sem] equal_nm eqGuard_nm

set_option maxRecDepth 10000 in
set_option maxHeartbeats 1000000 in
theorem rvalid_1 (v : VoteV) (w : World) (h : v.kind < 1) :
    Calls Try.prog 11 #[vV v] w fun e w' => e = .returned (.bool false) ∧ Below w.heap.size w w' := by
  obtain ⟨kind, slot, round, choice, signer, sup, parent, value⟩ := v
  dsimp only at *
  have hb := Is.new w 26 (voteC ⟨kind, slot, round, choice, signer, sup, parent, value⟩)
  have hF := (Fr.refl w).alloc (.cells (voteC ⟨kind, slot, round, choice, signer, sup, parent, value⟩) 26)
  go_enter Try.func11, Try.ntmps11
  go_wp2_with fail
  go_ret
  exact ⟨rfl, hF.1⟩

set_option maxRecDepth 10000 in
set_option maxHeartbeats 1000000 in
theorem rvalid_2 (v : VoteV) (w : World) (k1 : 1 ≤ v.kind) (h : 7 < v.kind) :
    Calls Try.prog 11 #[vV v] w fun e w' => e = .returned (.bool false) ∧ Below w.heap.size w w' := by
  obtain ⟨kind, slot, round, choice, signer, sup, parent, value⟩ := v
  dsimp only at *
  have hb := Is.new w 26 (voteC ⟨kind, slot, round, choice, signer, sup, parent, value⟩)
  have hF := (Fr.refl w).alloc (.cells (voteC ⟨kind, slot, round, choice, signer, sup, parent, value⟩) 26)
  go_enter Try.func11, Try.ntmps11
  go_wp2_with fail
  go_ret
  exact ⟨rfl, hF.1⟩

set_option maxRecDepth 10000 in
set_option maxHeartbeats 1000000 in
theorem rvalid_3 (v : VoteV) (w : World) (k1 : 1 ≤ v.kind) (k7 : v.kind ≤ 7) (h : v.signer < 0) :
    Calls Try.prog 11 #[vV v] w fun e w' => e = .returned (.bool false) ∧ Below w.heap.size w w' := by
  obtain ⟨kind, slot, round, choice, signer, sup, parent, value⟩ := v
  dsimp only at *
  have hb := Is.new w 26 (voteC ⟨kind, slot, round, choice, signer, sup, parent, value⟩)
  have hF := (Fr.refl w).alloc (.cells (voteC ⟨kind, slot, round, choice, signer, sup, parent, value⟩) 26)
  go_enter Try.func11, Try.ntmps11
  go_wp2_with fail
  go_ret
  exact ⟨rfl, hF.1⟩

set_option maxRecDepth 10000 in
set_option maxHeartbeats 1000000 in
theorem rvalid_4 (v : VoteV) (w : World) (k1 : 1 ≤ v.kind) (k7 : v.kind ≤ 7) (s0 : 0 ≤ v.signer) (h : 10 ≤ v.signer) :
    Calls Try.prog 11 #[vV v] w fun e w' => e = .returned (.bool false) ∧ Below w.heap.size w w' := by
  obtain ⟨kind, slot, round, choice, signer, sup, parent, value⟩ := v
  dsimp only at *
  have hb := Is.new w 26 (voteC ⟨kind, slot, round, choice, signer, sup, parent, value⟩)
  have hF := (Fr.refl w).alloc (.cells (voteC ⟨kind, slot, round, choice, signer, sup, parent, value⟩) 26)
  go_enter Try.func11, Try.ntmps11
  go_wp2_with fail
  go_ret
  exact ⟨rfl, hF.1⟩

set_option maxRecDepth 10000 in
set_option maxHeartbeats 1000000 in
theorem rvalid_5 (v : VoteV) (w : World) (k1 : 1 ≤ v.kind) (k7 : v.kind ≤ 7) (s0 : 0 ≤ v.signer) (s9 : v.signer < 10) (h : (bits .andNot .i64 v.sup 1023 != 0) = true) :
    Calls Try.prog 11 #[vV v] w fun e w' => e = .returned (.bool false) ∧ Below w.heap.size w w' := by
  obtain ⟨kind, slot, round, choice, signer, sup, parent, value⟩ := v
  dsimp only at *
  have hb := Is.new w 26 (voteC ⟨kind, slot, round, choice, signer, sup, parent, value⟩)
  have hF := (Fr.refl w).alloc (.cells (voteC ⟨kind, slot, round, choice, signer, sup, parent, value⟩) 26)
  go_enter Try.func11, Try.ntmps11
  go_wp2_with fail
  go_ret
  exact ⟨rfl, hF.1⟩

set_option maxRecDepth 10000 in
set_option maxHeartbeats 1000000 in
theorem rvalid_6 (v : VoteV) (w : World) (k1 : 1 ≤ v.kind) (k7 : v.kind ≤ 7) (s0 : 0 ≤ v.signer) (s9 : v.signer < 10) (an : bits .andNot .i64 v.sup 1023 = 0) (ag : v.kind ≤ 4) (h : v.slot < 0) :
    Calls Try.prog 11 #[vV v] w fun e w' => e = .returned (.bool false) ∧ Below w.heap.size w w' := by
  obtain ⟨kind, slot, round, choice, signer, sup, parent, value⟩ := v
  dsimp only at *
  have hb := Is.new w 26 (voteC ⟨kind, slot, round, choice, signer, sup, parent, value⟩)
  have hF := (Fr.refl w).alloc (.cells (voteC ⟨kind, slot, round, choice, signer, sup, parent, value⟩) 26)
  have hag : agreeF kind = true := by unfold agreeF; exact decide_eq_true (by omega)
  go_enter Try.func11, Try.ntmps11
  go_wp2_with fail
  change Calls _ _ _ (w.alloc (.cells (voteC ⟨kind, slot, round, choice, signer, sup, parent, value⟩) 26)) _
  generalize w.alloc (.cells (voteC ⟨kind, slot, round, choice, signer, sup, parent, value⟩) 26) = W at *
  have hc := hb.cell
  refine (ragree_any kind _).mono ?_
  rintro e w0 ⟨rfl, rfl⟩
  rw [hag]
  go_wp2_with fail
  go_ret
  exact ⟨rfl, hF.1⟩

set_option maxRecDepth 10000 in
set_option maxHeartbeats 1000000 in
theorem rvalid_7 (v : VoteV) (w : World) (k1 : 1 ≤ v.kind) (k7 : v.kind ≤ 7) (s0 : 0 ≤ v.signer) (s9 : v.signer < 10) (an : bits .andNot .i64 v.sup 1023 = 0) (ag : v.kind ≤ 4) (sl0 : 0 ≤ v.slot) (h : 10 ≤ v.slot) :
    Calls Try.prog 11 #[vV v] w fun e w' => e = .returned (.bool false) ∧ Below w.heap.size w w' := by
  obtain ⟨kind, slot, round, choice, signer, sup, parent, value⟩ := v
  dsimp only at *
  have hb := Is.new w 26 (voteC ⟨kind, slot, round, choice, signer, sup, parent, value⟩)
  have hF := (Fr.refl w).alloc (.cells (voteC ⟨kind, slot, round, choice, signer, sup, parent, value⟩) 26)
  have hag : agreeF kind = true := by unfold agreeF; exact decide_eq_true (by omega)
  go_enter Try.func11, Try.ntmps11
  go_wp2_with fail
  change Calls _ _ _ (w.alloc (.cells (voteC ⟨kind, slot, round, choice, signer, sup, parent, value⟩) 26)) _
  generalize w.alloc (.cells (voteC ⟨kind, slot, round, choice, signer, sup, parent, value⟩) 26) = W at *
  have hc := hb.cell
  refine (ragree_any kind _).mono ?_
  rintro e w0 ⟨rfl, rfl⟩
  rw [hag]
  go_wp2_with fail
  go_ret
  exact ⟨rfl, hF.1⟩

set_option maxRecDepth 10000 in
set_option maxHeartbeats 1000000 in
theorem rvalid_8 (v : VoteV) (w : World) (k1 : 1 ≤ v.kind) (k7 : v.kind ≤ 7) (s0 : 0 ≤ v.signer) (s9 : v.signer < 10) (an : bits .andNot .i64 v.sup 1023 = 0) (na : 4 < v.kind) (h : (v.slot != 0) = true) :
    Calls Try.prog 11 #[vV v] w fun e w' => e = .returned (.bool false) ∧ Below w.heap.size w w' := by
  obtain ⟨kind, slot, round, choice, signer, sup, parent, value⟩ := v
  dsimp only at *
  have hb := Is.new w 26 (voteC ⟨kind, slot, round, choice, signer, sup, parent, value⟩)
  have hF := (Fr.refl w).alloc (.cells (voteC ⟨kind, slot, round, choice, signer, sup, parent, value⟩) 26)
  have hag : agreeF kind = false := by unfold agreeF; exact decide_eq_false (by omega)
  go_enter Try.func11, Try.ntmps11
  go_wp2_with fail
  change Calls _ _ _ (w.alloc (.cells (voteC ⟨kind, slot, round, choice, signer, sup, parent, value⟩) 26)) _
  generalize w.alloc (.cells (voteC ⟨kind, slot, round, choice, signer, sup, parent, value⟩) 26) = W at *
  have hc := hb.cell
  refine (ragree_any kind _).mono ?_
  rintro e w0 ⟨rfl, rfl⟩
  rw [hag]
  go_wp2_with fail
  refine (ragree_any kind _).mono ?_
  rintro e w1 ⟨rfl, rfl⟩
  rw [hag]
  go_wp2_with fail
  go_ret
  exact ⟨rfl, hF.1⟩

end Go.Proofs.Ytpnmmfacnflngaa
