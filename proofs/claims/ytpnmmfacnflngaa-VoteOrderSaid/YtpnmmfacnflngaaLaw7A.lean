/-
  The small functions beside the laws of layer 7: awake; a vote that came in; the contracts with a vote's cells closed.
-/
import Derived.Test.YtpnmmfacnflngaaVoteC
import Derived.Test.YtpnmmfacnflngaaVote3
namespace Go.Proofs.Ytpnmmfacnflngaa
open Go.ChangeShapes Go.WideShapes Go.ChangeAt Go.RowKit Go.Fl

attribute [local go_sem] eqGuard_nm eqGuard_vote
abbrev awA : VoteV := ⟨4, 0, 1, 0, 2, 0, 0, 0⟩
abbrev awB : VoteV := ⟨4, 0, 1, 2, 2, 0, 0, 0⟩
abbrev awC : VoteV := ⟨4, 0, 2, 2, 2, 0, 0, 0⟩
theorem aw_I (k s r c g u : Int) (x y : BitVec 64) (h : (0 ≤ k ∧ k ≤ 9) ∧ (0 ≤ s ∧ s ≤ 9) ∧ (0 ≤ r ∧ r ≤ 9) ∧ (0 ≤ c ∧ c ≤ 9) ∧ (0 ≤ g ∧ g ≤ 9) ∧ (0 ≤ u ∧ u ≤ 9)) : VoteV.I ⟨k, s, r, c, g, u, x, y⟩ :=
  ⟨⟨by show _ ≤ k; omega, by show k ≤ _; omega⟩, ⟨by show _ ≤ s; omega, by show s ≤ _; omega⟩, ⟨by show _ ≤ r; omega, by show r ≤ _; omega⟩, ⟨by show _ ≤ c; omega, by show c ≤ _; omega⟩, ⟨by show _ ≤ g; omega, by show g ≤ _; omega⟩, ⟨by show _ ≤ u; omega, by show u ≤ _; omega⟩⟩
theorem awA_I : awA.I := aw_I _ _ _ _ _ _ _ _ (by omega)
theorem awB_I : awB.I := aw_I _ _ _ _ _ _ _ _ (by omega)
theorem awC_I : awC.I := aw_I _ _ _ _ _ _ _ _ (by omega)
theorem aw_valid : Hid (validF awA = true) := Lib.hid (by decide +kernel)
theorem aw_ab : Hid (conflictF awA awB = true) := Lib.hid (by decide +kernel)
theorem aw_aa : Hid (conflictF awA awA = false) := Lib.hid (by decide +kernel)
theorem aw_ac : Hid (conflictF awA awC = false) := Lib.hid (by decide +kernel)
set_option maxRecDepth 10000 in
set_option maxHeartbeats 1000000 in
theorem awake_any (w : World) : Calls Try.prog 12 #[] w fun e w' => e = .returned (.bool true) ∧ Below w.heap.size w w' := by
  obtain ⟨hI1, hF1⟩ : Is (w.alloc (.cells #[.int .i64 0, .int .i64 0, .int .i64 0, .int .i64 0, .int .i64 0, .int .i64 0, .int .u8 0, .int .u8 0, .int .u8 0, .int .u8 0, .int .u8 0, .int .u8 0, .int .u8 0, .int .u8 0, .int .u8 0, .int .u8 0, .int .u8 0, .int .u8 0, .int .u8 0, .int .u8 0, .int .u8 0, .int .u8 0] 26)) w.heap.size 26 (voteC ⟨0, 0, 0, 0, 0, 0, 0, 0⟩) ∧ Fr w 1 (w.alloc (.cells #[.int .i64 0, .int .i64 0, .int .i64 0, .int .i64 0, .int .i64 0, .int .i64 0, .int .u8 0, .int .u8 0, .int .u8 0, .int .u8 0, .int .u8 0, .int .u8 0, .int .u8 0, .int .u8 0, .int .u8 0, .int .u8 0, .int .u8 0, .int .u8 0, .int .u8 0, .int .u8 0, .int .u8 0, .int .u8 0] 26)) := ⟨Is.new w 26 (voteC ⟨0, 0, 0, 0, 0, 0, 0, 0⟩), (Fr.refl w).alloc _⟩
  go_enter Try.func12, Try.ntmps12
  go_wp2_with (first
    | (refine wpList_store_is rfl 26 (.tmp 1) (.tmp 4) rfl w.heap.size 26 _ (voteL awA).toArray rfl rfl hI1 rfl vote_size (voteC_one awA) ?_; intro w1 h1 hb1; have hF1 := hF1.step hb1 (Nat.le_refl _); have hI2 : Is (w1.alloc (.cells #[.int .i64 0, .int .i64 0, .int .i64 0, .int .i64 0, .int .i64 0, .int .i64 0, .int .u8 0, .int .u8 0, .int .u8 0, .int .u8 0, .int .u8 0, .int .u8 0, .int .u8 0, .int .u8 0, .int .u8 0, .int .u8 0, .int .u8 0, .int .u8 0, .int .u8 0, .int .u8 0, .int .u8 0, .int .u8 0] 26)) w1.heap.size 26 (voteC ⟨0, 0, 0, 0, 0, 0, 0, 0⟩) := Is.new w1 26 (voteC ⟨0, 0, 0, 0, 0, 0, 0, 0⟩); have hl1 := h1.lt)
    | (refine wpList_load_w rfl 26 (.tmp 1) rfl w.heap.size 0 (by rfl) (voteL awA) _ (range_is h1) Try.underlying26 rfl vote_size ?_)
    | (refine wpList_store_far rfl 26 (.tmp 2) (.tmp 5) rfl w1.heap.size 26 _ (voteL awA).toArray rfl rfl hI2 rfl vote_size (voteC_one awA) ?_; intro w2 h2 hb2 hfar2; have hF2 := (hF1.alloc (.cells #[.int .i64 0, .int .i64 0, .int .i64 0, .int .i64 0, .int .i64 0, .int .i64 0, .int .u8 0, .int .u8 0, .int .u8 0, .int .u8 0, .int .u8 0, .int .u8 0, .int .u8 0, .int .u8 0, .int .u8 0, .int .u8 0, .int .u8 0, .int .u8 0, .int .u8 0, .int .u8 0, .int .u8 0, .int .u8 0] 26)).step hb2 (by have := hF1.2; omega); have h1 : Is w2 w.heap.size 26 (voteL awA).toArray := (hfar2 w.heap.size (by omega)).trans (h1.old _); have hl2 := h2.lt)
    | (refine wpList_store_int rfl 3 (.tmp 6) _ rfl w1.heap.size 3 26 (voteL awA) .i64 2 rfl rfl h2 (by decide) int_size ?_; intro w3 h3 hb3 hfar3; rw [show (voteL awA).set 3 (.int .i64 2) = voteL awB by rfl] at h3; have hF3 := hF2.step hb3 (by have := hF1.2; omega); have h1 : Is w3 w.heap.size 26 (voteL awA).toArray := (hfar3 w.heap.size (by omega)).trans h1; have hI4 : Is (w3.alloc (.cells #[.int .i64 0, .int .i64 0, .int .i64 0, .int .i64 0, .int .i64 0, .int .i64 0, .int .u8 0, .int .u8 0, .int .u8 0, .int .u8 0, .int .u8 0, .int .u8 0, .int .u8 0, .int .u8 0, .int .u8 0, .int .u8 0, .int .u8 0, .int .u8 0, .int .u8 0, .int .u8 0, .int .u8 0, .int .u8 0] 26)) w3.heap.size 26 (voteC ⟨0, 0, 0, 0, 0, 0, 0, 0⟩) := Is.new w3 26 (voteC ⟨0, 0, 0, 0, 0, 0, 0, 0⟩); have hl3 := h3.lt)
    | (refine wpList_load_w rfl 26 (.tmp 2) rfl w1.heap.size 0 (by rfl) (voteL awB) _ (range_is h3) Try.underlying26 rfl vote_size ?_)
    | (refine wpList_store_far rfl 26 (.tmp 3) (.tmp 7) rfl w3.heap.size 26 _ (voteL awB).toArray rfl rfl hI4 rfl vote_size (voteC_one awB) ?_; intro w4 h4 hb4 hfar4; have hF4 := (hF3.alloc (.cells #[.int .i64 0, .int .i64 0, .int .i64 0, .int .i64 0, .int .i64 0, .int .i64 0, .int .u8 0, .int .u8 0, .int .u8 0, .int .u8 0, .int .u8 0, .int .u8 0, .int .u8 0, .int .u8 0, .int .u8 0, .int .u8 0, .int .u8 0, .int .u8 0, .int .u8 0, .int .u8 0, .int .u8 0, .int .u8 0] 26)).step hb4 (by have := hF3.2; omega); have h1 : Is w4 w.heap.size 26 (voteL awA).toArray := (hfar4 w.heap.size (by omega)).trans (h1.old _); have h3 : Is w4 w1.heap.size 26 (voteL awB).toArray := (hfar4 w1.heap.size (by omega)).trans (h3.old _))
    | (refine wpList_store_int rfl 3 (.tmp 8) _ rfl w3.heap.size 2 26 (voteL awB) .i64 2 rfl rfl h4 (by decide) int_size ?_; intro w5 h5 hb5 hfar5; rw [show (voteL awB).set 2 (.int .i64 2) = voteL awC by rfl] at h5; have hF5 := hF4.step hb5 (by have := hF3.2; omega); have h1 : Is w5 w.heap.size 26 (voteL awA).toArray := (hfar5 w.heap.size (by omega)).trans h1; have h3 : Is w5 w1.heap.size 26 (voteL awB).toArray := (hfar5 w1.heap.size (by omega)).trans h3)
    | fail)
  have HA := vote_later (a := awA) h1
  have HB := vote_later (a := awB) h3
  have HC := vote_later (a := awC) h5
  have hB0 := Below.refl w5.heap.size w5
  clear hI1 hI2 hI4 h2 h4 hfar2 hfar3 hfar4 hfar5 hb1 hb2 hb3 hb4 hb5
  go_wp2_with (first | (refine wpList_load_w (by rfl) 26 (.tmp 1) rfl w.heap.size 0 (by rfl) (voteL awA) _ (HA _ hB0) Try.underlying26 rfl vote_size ?_) | (refine wpList_load_w (by rfl) 26 (.tmp 2) rfl w1.heap.size 0 (by rfl) (voteL awB) _ (HB _ hB0) Try.underlying26 rfl vote_size ?_) | (refine wpList_load_w (by rfl) 26 (.tmp 3) rfl w3.heap.size 0 (by rfl) (voteL awC) _ (HC _ hB0) Try.underlying26 rfl vote_size ?_) | fail)
  refine (coValid awA awA_I true aw_valid _).mono ?_
  rintro e w6 ⟨rfl, hb6⟩
  have hB6 := Below.trans hB0 (hb6.mono (Below.size hB0))
  go_wp2_with (first | (refine wpList_load_w (by rfl) 26 (.tmp 1) rfl w.heap.size 0 (by rfl) (voteL awA) _ (HA _ hB6) Try.underlying26 rfl vote_size ?_) | (refine wpList_load_w (by rfl) 26 (.tmp 2) rfl w1.heap.size 0 (by rfl) (voteL awB) _ (HB _ hB6) Try.underlying26 rfl vote_size ?_) | (refine wpList_load_w (by rfl) 26 (.tmp 3) rfl w3.heap.size 0 (by rfl) (voteL awC) _ (HC _ hB6) Try.underlying26 rfl vote_size ?_) | fail)
  refine (coConf awA awB awA_I awB_I true aw_ab _).mono ?_
  rintro e w7 ⟨rfl, hb7⟩
  have hB7 := Below.trans hB6 (hb7.mono (Below.size hB6))
  go_wp2_with (first | (refine wpList_load_w (by rfl) 26 (.tmp 1) rfl w.heap.size 0 (by rfl) (voteL awA) _ (HA _ hB7) Try.underlying26 rfl vote_size ?_) | (refine wpList_load_w (by rfl) 26 (.tmp 2) rfl w1.heap.size 0 (by rfl) (voteL awB) _ (HB _ hB7) Try.underlying26 rfl vote_size ?_) | (refine wpList_load_w (by rfl) 26 (.tmp 3) rfl w3.heap.size 0 (by rfl) (voteL awC) _ (HC _ hB7) Try.underlying26 rfl vote_size ?_) | fail)
  refine (coConf awA awA awA_I awA_I false aw_aa _).mono ?_
  rintro e w8 ⟨rfl, hb8⟩
  have hB8 := Below.trans hB7 (hb8.mono (Below.size hB7))
  go_wp2_with (first | (refine wpList_load_w (by rfl) 26 (.tmp 1) rfl w.heap.size 0 (by rfl) (voteL awA) _ (HA _ hB8) Try.underlying26 rfl vote_size ?_) | (refine wpList_load_w (by rfl) 26 (.tmp 2) rfl w1.heap.size 0 (by rfl) (voteL awB) _ (HB _ hB8) Try.underlying26 rfl vote_size ?_) | (refine wpList_load_w (by rfl) 26 (.tmp 3) rfl w3.heap.size 0 (by rfl) (voteL awC) _ (HC _ hB8) Try.underlying26 rfl vote_size ?_) | fail)
  refine (coConf awA awC awA_I awC_I false aw_ac _).mono ?_
  rintro e w9 ⟨rfl, hb9⟩
  have hB9 := Below.trans hB8 (hb9.mono (Below.size hB8))
  go_wp2_with (first | (refine wpList_load_w (by rfl) 26 (.tmp 1) rfl w.heap.size 0 (by rfl) (voteL awA) _ (HA _ hB9) Try.underlying26 rfl vote_size ?_) | (refine wpList_load_w (by rfl) 26 (.tmp 2) rfl w1.heap.size 0 (by rfl) (voteL awB) _ (HB _ hB9) Try.underlying26 rfl vote_size ?_) | (refine wpList_load_w (by rfl) 26 (.tmp 3) rfl w3.heap.size 0 (by rfl) (voteL awC) _ (HC _ hB9) Try.underlying26 rfl vote_size ?_) | fail)
  go_ret
  exact ⟨rfl, hF5.1.trans (hB9.mono (by have := hF5.2; omega))⟩
end Go.Proofs.Ytpnmmfacnflngaa
