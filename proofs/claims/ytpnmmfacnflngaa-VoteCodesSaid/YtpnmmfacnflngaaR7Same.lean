/-
  forkledgerref6: SameKey, Conflict.
-/
import Derived.Test.YtpnmmfacnflngaaR7Val
import Derived.Test.YtpnmmfacnflngaaVoteM
namespace Go.Proofs.Ytpnmmfacnflngaa
open Go.ChangeShapes Go.WideShapes Go.ChangeAt Go.RowKit Go.Fl

attribute [local go_sem] equal_nm eqGuard_nm

set_option maxRecDepth 10000 in
set_option maxHeartbeats 1000000 in
theorem rsame_0 (a b : VoteV) (w : World) (h0 : (a.kind == b.kind) = false) :
    Calls Try.prog 21 #[vV a, vV b] w fun e w' => e = .returned (.bool false) ∧ Below w.heap.size w w' := by
  have hF := ((Fr.refl w).alloc (.cells (voteC a) 26)).alloc (.cells (voteC b) 26)
  go_enter Try.func21, Try.ntmps21
  go_wp2_with fail
  go_ret
  exact ⟨rfl, hF.1⟩

set_option maxRecDepth 10000 in
set_option maxHeartbeats 1000000 in
theorem rsame_1 (a b : VoteV) (w : World) (h0 : (a.kind == b.kind) = true) (h1 : nmEq a.parent b.parent = false) :
    Calls Try.prog 21 #[vV a, vV b] w fun e w' => e = .returned (.bool false) ∧ Below w.heap.size w w' := by
  have hF := ((Fr.refl w).alloc (.cells (voteC a) 26)).alloc (.cells (voteC b) 26)
  go_enter Try.func21, Try.ntmps21
  go_wp2_with fail
  go_ret
  exact ⟨rfl, hF.1⟩

set_option maxRecDepth 10000 in
set_option maxHeartbeats 1000000 in
theorem rsame_2 (a b : VoteV) (w : World) (h0 : (a.kind == b.kind) = true) (h1 : nmEq a.parent b.parent = true) (h2 : (a.slot == b.slot) = false) :
    Calls Try.prog 21 #[vV a, vV b] w fun e w' => e = .returned (.bool false) ∧ Below w.heap.size w w' := by
  have hF := ((Fr.refl w).alloc (.cells (voteC a) 26)).alloc (.cells (voteC b) 26)
  go_enter Try.func21, Try.ntmps21
  go_wp2_with fail
  go_ret
  exact ⟨rfl, hF.1⟩

set_option maxRecDepth 10000 in
set_option maxHeartbeats 1000000 in
theorem rsame_3 (a b : VoteV) (w : World) (h0 : (a.kind == b.kind) = true) (h1 : nmEq a.parent b.parent = true) (h2 : (a.slot == b.slot) = true) (h3 : (a.round == b.round) = false) :
    Calls Try.prog 21 #[vV a, vV b] w fun e w' => e = .returned (.bool false) ∧ Below w.heap.size w w' := by
  have hF := ((Fr.refl w).alloc (.cells (voteC a) 26)).alloc (.cells (voteC b) 26)
  go_enter Try.func21, Try.ntmps21
  go_wp2_with fail
  go_ret
  exact ⟨rfl, hF.1⟩

set_option maxRecDepth 10000 in
set_option maxHeartbeats 1000000 in
theorem rsame_4 (a b : VoteV) (w : World) (h0 : (a.kind == b.kind) = true) (h1 : nmEq a.parent b.parent = true) (h2 : (a.slot == b.slot) = true) (h3 : (a.round == b.round) = true) (h4 : (a.signer == b.signer) = false) :
    Calls Try.prog 21 #[vV a, vV b] w fun e w' => e = .returned (.bool false) ∧ Below w.heap.size w w' := by
  have hF := ((Fr.refl w).alloc (.cells (voteC a) 26)).alloc (.cells (voteC b) 26)
  go_enter Try.func21, Try.ntmps21
  go_wp2_with fail
  go_ret
  exact ⟨rfl, hF.1⟩

set_option maxRecDepth 10000 in
set_option maxHeartbeats 1000000 in
theorem rsame_5 (a b : VoteV) (w : World) (h0 : (a.kind == b.kind) = true) (h1 : nmEq a.parent b.parent = true) (h2 : (a.slot == b.slot) = true) (h3 : (a.round == b.round) = true) (h4 : (a.signer == b.signer) = true) :
    Calls Try.prog 21 #[vV a, vV b] w fun e w' => e = .returned (.bool true) ∧ Below w.heap.size w w' := by
  have hF := ((Fr.refl w).alloc (.cells (voteC a) 26)).alloc (.cells (voteC b) 26)
  go_enter Try.func21, Try.ntmps21
  go_wp2_with fail
  go_ret
  exact ⟨rfl, hF.1⟩

theorem rsame_any (a b : VoteV) (w : World) : Calls Try.prog 21 #[vV a, vV b] w fun e w' => e = .returned (.bool (sameF a b)) ∧ Below w.heap.size w w' := by
  by_cases h0 : a.kind = b.kind
  case neg => rw [show sameF a b = false from decide_eq_false (fun h => h0 h.1)]; exact rsame_0 a b w (beq_eq_false_iff_ne.2 h0)
  by_cases h1 : a.parent = b.parent
  case neg => rw [show sameF a b = false from decide_eq_false (fun h => h1 h.2.1)]; exact rsame_1 a b w (by simp [h0]) (nmEq_ne h1)
  have p1 : nmEq a.parent b.parent = true := by rw [h1]; exact nmEq_self _
  by_cases h2 : a.slot = b.slot
  case neg => rw [show sameF a b = false from decide_eq_false (fun h => h2 h.2.2.1)]; exact rsame_2 a b w (by simp [h0]) p1 (beq_eq_false_iff_ne.2 h2)
  by_cases h3 : a.round = b.round
  case neg => rw [show sameF a b = false from decide_eq_false (fun h => h3 h.2.2.2.1)]; exact rsame_3 a b w (by simp [h0]) p1 (by simp [h2]) (beq_eq_false_iff_ne.2 h3)
  by_cases h4 : a.signer = b.signer
  case neg => rw [show sameF a b = false from decide_eq_false (fun h => h4 h.2.2.2.2)]; exact rsame_4 a b w (by simp [h0]) p1 (by simp [h2]) (by simp [h3]) (beq_eq_false_iff_ne.2 h4)
  rw [show sameF a b = true from decide_eq_true ⟨h0, h1, h2, h3, h4⟩]
  exact rsame_5 a b w (by simp [h0]) p1 (by simp [h2]) (by simp [h3]) (by simp [h4])
end Go.Proofs.Ytpnmmfacnflngaa
