/-
  The statement VoteNeighbors, proved for all votes, with no condition: a vote between two votes with one key has that key.
-/
import Derived.Test.YtpnmmfacnflngaaLaw7A
namespace Go.Proofs.Ytpnmmfacnflngaa.voteNeighbors
open Go.ChangeShapes Go.WideShapes Go.ChangeAt Go.RowKit Go.Fl

attribute [local go_sem] equal_nm eqGuard_nm eqGuard_vote
attribute [local go_sem high] equal_voteL

set_option maxRecDepth 10000 in
set_option maxHeartbeats 1000000 in
theorem walk_A (w : World) (a b c : VoteV) (_ha : a.I) (_hb : b.I) (_hc : c.I) (h1 : Hid (lessF a b = false)) :
    Calls Try.prog 8 #[vV a, vV b, vV c] w fun e w' => e = .returned (.bool true) ∧ Below w.heap.size w w' := by
  obtain ⟨hIa, hIb, hIc, hF⟩ := threeW_facts w a b c
  have HA := vote_later hIa
  have HB := vote_later hIb
  have HC := vote_later hIc
  have hB0 := Below.refl (threeW w a b c).heap.size (threeW w a b c)
  clear hIa hIb hIc
  go_enter Try.func8, Try.ntmps8
  go_wp2_with (first | (refine wpList_load_w (by rfl) 26 (.tmp 3) rfl w.heap.size 0 (by rfl) (voteL a) _ (HA _ hB0) Try.underlying26 rfl vote_size ?_) | (refine wpList_load_w (by rfl) 26 (.tmp 4) rfl (w.heap.size + 1) 0 (by rfl) (voteL b) _ (HB _ hB0) Try.underlying26 rfl vote_size ?_) | (refine wpList_load_w (by rfl) 26 (.tmp 5) rfl (w.heap.size + 2) 0 (by rfl) (voteL c) _ (HC _ hB0) Try.underlying26 rfl vote_size ?_) | fail)
  refine (coLess a b false h1 _).mono ?_
  rintro e w1 ⟨rfl, hb1⟩
  have hB1 := Below.trans hB0 (hb1.mono (Below.size hB0))
  go_wp2_with (first | (refine wpList_load_w (by rfl) 26 (.tmp 3) rfl w.heap.size 0 (by rfl) (voteL a) _ (HA _ hB1) Try.underlying26 rfl vote_size ?_) | (refine wpList_load_w (by rfl) 26 (.tmp 4) rfl (w.heap.size + 1) 0 (by rfl) (voteL b) _ (HB _ hB1) Try.underlying26 rfl vote_size ?_) | (refine wpList_load_w (by rfl) 26 (.tmp 5) rfl (w.heap.size + 2) 0 (by rfl) (voteL c) _ (HC _ hB1) Try.underlying26 rfl vote_size ?_) | fail)
  refine (awake_any _).mono ?_
  rintro e w2 ⟨rfl, hb2⟩
  have hB2 := Below.trans hB1 (hb2.mono (Below.size hB1))
  go_wp2_with fail
  go_ret
  exact ⟨rfl, hF.1.trans (Below.mono hB2 (by have := hF.2; omega))⟩

set_option maxRecDepth 10000 in
set_option maxHeartbeats 1000000 in
theorem walk_B (w : World) (a b c : VoteV) (_ha : a.I) (_hb : b.I) (_hc : c.I) (h1 : Hid (lessF a b = true)) (h2 : Hid (lessF b c = false)) :
    Calls Try.prog 8 #[vV a, vV b, vV c] w fun e w' => e = .returned (.bool true) ∧ Below w.heap.size w w' := by
  obtain ⟨hIa, hIb, hIc, hF⟩ := threeW_facts w a b c
  have HA := vote_later hIa
  have HB := vote_later hIb
  have HC := vote_later hIc
  have hB0 := Below.refl (threeW w a b c).heap.size (threeW w a b c)
  clear hIa hIb hIc
  go_enter Try.func8, Try.ntmps8
  go_wp2_with (first | (refine wpList_load_w (by rfl) 26 (.tmp 3) rfl w.heap.size 0 (by rfl) (voteL a) _ (HA _ hB0) Try.underlying26 rfl vote_size ?_) | (refine wpList_load_w (by rfl) 26 (.tmp 4) rfl (w.heap.size + 1) 0 (by rfl) (voteL b) _ (HB _ hB0) Try.underlying26 rfl vote_size ?_) | (refine wpList_load_w (by rfl) 26 (.tmp 5) rfl (w.heap.size + 2) 0 (by rfl) (voteL c) _ (HC _ hB0) Try.underlying26 rfl vote_size ?_) | fail)
  refine (coLess a b true h1 _).mono ?_
  rintro e w1 ⟨rfl, hb1⟩
  have hB1 := Below.trans hB0 (hb1.mono (Below.size hB0))
  go_wp2_with (first | (refine wpList_load_w (by rfl) 26 (.tmp 3) rfl w.heap.size 0 (by rfl) (voteL a) _ (HA _ hB1) Try.underlying26 rfl vote_size ?_) | (refine wpList_load_w (by rfl) 26 (.tmp 4) rfl (w.heap.size + 1) 0 (by rfl) (voteL b) _ (HB _ hB1) Try.underlying26 rfl vote_size ?_) | (refine wpList_load_w (by rfl) 26 (.tmp 5) rfl (w.heap.size + 2) 0 (by rfl) (voteL c) _ (HC _ hB1) Try.underlying26 rfl vote_size ?_) | fail)
  refine (coLess b c false h2 _).mono ?_
  rintro e w2 ⟨rfl, hb2⟩
  have hB2 := Below.trans hB1 (hb2.mono (Below.size hB1))
  go_wp2_with (first | (refine wpList_load_w (by rfl) 26 (.tmp 3) rfl w.heap.size 0 (by rfl) (voteL a) _ (HA _ hB2) Try.underlying26 rfl vote_size ?_) | (refine wpList_load_w (by rfl) 26 (.tmp 4) rfl (w.heap.size + 1) 0 (by rfl) (voteL b) _ (HB _ hB2) Try.underlying26 rfl vote_size ?_) | (refine wpList_load_w (by rfl) 26 (.tmp 5) rfl (w.heap.size + 2) 0 (by rfl) (voteL c) _ (HC _ hB2) Try.underlying26 rfl vote_size ?_) | fail)
  refine (awake_any _).mono ?_
  rintro e w3 ⟨rfl, hb3⟩
  have hB3 := Below.trans hB2 (hb3.mono (Below.size hB2))
  go_wp2_with fail
  go_ret
  exact ⟨rfl, hF.1.trans (Below.mono hB3 (by have := hF.2; omega))⟩

set_option maxRecDepth 10000 in
set_option maxHeartbeats 1000000 in
theorem walk_C (w : World) (a b c : VoteV) (_ha : a.I) (_hb : b.I) (_hc : c.I) (h1 : Hid (lessF a b = true)) (h2 : Hid (lessF b c = true)) (h3 : Hid (sameF a c = false)) :
    Calls Try.prog 8 #[vV a, vV b, vV c] w fun e w' => e = .returned (.bool true) ∧ Below w.heap.size w w' := by
  obtain ⟨hIa, hIb, hIc, hF⟩ := threeW_facts w a b c
  have HA := vote_later hIa
  have HB := vote_later hIb
  have HC := vote_later hIc
  have hB0 := Below.refl (threeW w a b c).heap.size (threeW w a b c)
  clear hIa hIb hIc
  go_enter Try.func8, Try.ntmps8
  go_wp2_with (first | (refine wpList_load_w (by rfl) 26 (.tmp 3) rfl w.heap.size 0 (by rfl) (voteL a) _ (HA _ hB0) Try.underlying26 rfl vote_size ?_) | (refine wpList_load_w (by rfl) 26 (.tmp 4) rfl (w.heap.size + 1) 0 (by rfl) (voteL b) _ (HB _ hB0) Try.underlying26 rfl vote_size ?_) | (refine wpList_load_w (by rfl) 26 (.tmp 5) rfl (w.heap.size + 2) 0 (by rfl) (voteL c) _ (HC _ hB0) Try.underlying26 rfl vote_size ?_) | fail)
  refine (coLess a b true h1 _).mono ?_
  rintro e w1 ⟨rfl, hb1⟩
  have hB1 := Below.trans hB0 (hb1.mono (Below.size hB0))
  go_wp2_with (first | (refine wpList_load_w (by rfl) 26 (.tmp 3) rfl w.heap.size 0 (by rfl) (voteL a) _ (HA _ hB1) Try.underlying26 rfl vote_size ?_) | (refine wpList_load_w (by rfl) 26 (.tmp 4) rfl (w.heap.size + 1) 0 (by rfl) (voteL b) _ (HB _ hB1) Try.underlying26 rfl vote_size ?_) | (refine wpList_load_w (by rfl) 26 (.tmp 5) rfl (w.heap.size + 2) 0 (by rfl) (voteL c) _ (HC _ hB1) Try.underlying26 rfl vote_size ?_) | fail)
  refine (coLess b c true h2 _).mono ?_
  rintro e w2 ⟨rfl, hb2⟩
  have hB2 := Below.trans hB1 (hb2.mono (Below.size hB1))
  go_wp2_with (first | (refine wpList_load_w (by rfl) 26 (.tmp 3) rfl w.heap.size 0 (by rfl) (voteL a) _ (HA _ hB2) Try.underlying26 rfl vote_size ?_) | (refine wpList_load_w (by rfl) 26 (.tmp 4) rfl (w.heap.size + 1) 0 (by rfl) (voteL b) _ (HB _ hB2) Try.underlying26 rfl vote_size ?_) | (refine wpList_load_w (by rfl) 26 (.tmp 5) rfl (w.heap.size + 2) 0 (by rfl) (voteL c) _ (HC _ hB2) Try.underlying26 rfl vote_size ?_) | fail)
  refine (coSame a c false h3 _).mono ?_
  rintro e w3 ⟨rfl, hb3⟩
  have hB3 := Below.trans hB2 (hb3.mono (Below.size hB2))
  go_wp2_with (first | (refine wpList_load_w (by rfl) 26 (.tmp 3) rfl w.heap.size 0 (by rfl) (voteL a) _ (HA _ hB3) Try.underlying26 rfl vote_size ?_) | (refine wpList_load_w (by rfl) 26 (.tmp 4) rfl (w.heap.size + 1) 0 (by rfl) (voteL b) _ (HB _ hB3) Try.underlying26 rfl vote_size ?_) | (refine wpList_load_w (by rfl) 26 (.tmp 5) rfl (w.heap.size + 2) 0 (by rfl) (voteL c) _ (HC _ hB3) Try.underlying26 rfl vote_size ?_) | fail)
  refine (awake_any _).mono ?_
  rintro e w4 ⟨rfl, hb4⟩
  have hB4 := Below.trans hB3 (hb4.mono (Below.size hB3))
  go_wp2_with fail
  go_ret
  exact ⟨rfl, hF.1.trans (Below.mono hB4 (by have := hF.2; omega))⟩

set_option maxRecDepth 10000 in
set_option maxHeartbeats 1000000 in
theorem walk_D (w : World) (a b c : VoteV) (_ha : a.I) (_hb : b.I) (_hc : c.I) (h1 : Hid (lessF a b = true)) (h2 : Hid (lessF b c = true)) (h3 : Hid (sameF a c = true)) (h4 : Hid (sameF a b = true)) (h5 : Hid (sameF b c = true)) :
    Calls Try.prog 8 #[vV a, vV b, vV c] w fun e w' => e = .returned (.bool true) ∧ Below w.heap.size w w' := by
  obtain ⟨hIa, hIb, hIc, hF⟩ := threeW_facts w a b c
  have HA := vote_later hIa
  have HB := vote_later hIb
  have HC := vote_later hIc
  have hB0 := Below.refl (threeW w a b c).heap.size (threeW w a b c)
  clear hIa hIb hIc
  go_enter Try.func8, Try.ntmps8
  go_wp2_with (first | (refine wpList_load_w (by rfl) 26 (.tmp 3) rfl w.heap.size 0 (by rfl) (voteL a) _ (HA _ hB0) Try.underlying26 rfl vote_size ?_) | (refine wpList_load_w (by rfl) 26 (.tmp 4) rfl (w.heap.size + 1) 0 (by rfl) (voteL b) _ (HB _ hB0) Try.underlying26 rfl vote_size ?_) | (refine wpList_load_w (by rfl) 26 (.tmp 5) rfl (w.heap.size + 2) 0 (by rfl) (voteL c) _ (HC _ hB0) Try.underlying26 rfl vote_size ?_) | fail)
  refine (coLess a b true h1 _).mono ?_
  rintro e w1 ⟨rfl, hb1⟩
  have hB1 := Below.trans hB0 (hb1.mono (Below.size hB0))
  go_wp2_with (first | (refine wpList_load_w (by rfl) 26 (.tmp 3) rfl w.heap.size 0 (by rfl) (voteL a) _ (HA _ hB1) Try.underlying26 rfl vote_size ?_) | (refine wpList_load_w (by rfl) 26 (.tmp 4) rfl (w.heap.size + 1) 0 (by rfl) (voteL b) _ (HB _ hB1) Try.underlying26 rfl vote_size ?_) | (refine wpList_load_w (by rfl) 26 (.tmp 5) rfl (w.heap.size + 2) 0 (by rfl) (voteL c) _ (HC _ hB1) Try.underlying26 rfl vote_size ?_) | fail)
  refine (coLess b c true h2 _).mono ?_
  rintro e w2 ⟨rfl, hb2⟩
  have hB2 := Below.trans hB1 (hb2.mono (Below.size hB1))
  go_wp2_with (first | (refine wpList_load_w (by rfl) 26 (.tmp 3) rfl w.heap.size 0 (by rfl) (voteL a) _ (HA _ hB2) Try.underlying26 rfl vote_size ?_) | (refine wpList_load_w (by rfl) 26 (.tmp 4) rfl (w.heap.size + 1) 0 (by rfl) (voteL b) _ (HB _ hB2) Try.underlying26 rfl vote_size ?_) | (refine wpList_load_w (by rfl) 26 (.tmp 5) rfl (w.heap.size + 2) 0 (by rfl) (voteL c) _ (HC _ hB2) Try.underlying26 rfl vote_size ?_) | fail)
  refine (coSame a c true h3 _).mono ?_
  rintro e w3 ⟨rfl, hb3⟩
  have hB3 := Below.trans hB2 (hb3.mono (Below.size hB2))
  go_wp2_with (first | (refine wpList_load_w (by rfl) 26 (.tmp 3) rfl w.heap.size 0 (by rfl) (voteL a) _ (HA _ hB3) Try.underlying26 rfl vote_size ?_) | (refine wpList_load_w (by rfl) 26 (.tmp 4) rfl (w.heap.size + 1) 0 (by rfl) (voteL b) _ (HB _ hB3) Try.underlying26 rfl vote_size ?_) | (refine wpList_load_w (by rfl) 26 (.tmp 5) rfl (w.heap.size + 2) 0 (by rfl) (voteL c) _ (HC _ hB3) Try.underlying26 rfl vote_size ?_) | fail)
  refine (coSame a b true h4 _).mono ?_
  rintro e w4 ⟨rfl, hb4⟩
  have hB4 := Below.trans hB3 (hb4.mono (Below.size hB3))
  go_wp2_with (first | (refine wpList_load_w (by rfl) 26 (.tmp 3) rfl w.heap.size 0 (by rfl) (voteL a) _ (HA _ hB4) Try.underlying26 rfl vote_size ?_) | (refine wpList_load_w (by rfl) 26 (.tmp 4) rfl (w.heap.size + 1) 0 (by rfl) (voteL b) _ (HB _ hB4) Try.underlying26 rfl vote_size ?_) | (refine wpList_load_w (by rfl) 26 (.tmp 5) rfl (w.heap.size + 2) 0 (by rfl) (voteL c) _ (HC _ hB4) Try.underlying26 rfl vote_size ?_) | fail)
  refine (coSame b c true h5 _).mono ?_
  rintro e w5 ⟨rfl, hb5⟩
  have hB5 := Below.trans hB4 (hb5.mono (Below.size hB4))
  go_wp2_with (first | (refine wpList_load_w (by rfl) 26 (.tmp 3) rfl w.heap.size 0 (by rfl) (voteL a) _ (HA _ hB5) Try.underlying26 rfl vote_size ?_) | (refine wpList_load_w (by rfl) 26 (.tmp 4) rfl (w.heap.size + 1) 0 (by rfl) (voteL b) _ (HB _ hB5) Try.underlying26 rfl vote_size ?_) | (refine wpList_load_w (by rfl) 26 (.tmp 5) rfl (w.heap.size + 2) 0 (by rfl) (voteL c) _ (HC _ hB5) Try.underlying26 rfl vote_size ?_) | fail)
  refine (awake_any _).mono ?_
  rintro e w6 ⟨rfl, hb6⟩
  have hB6 := Below.trans hB5 (hb6.mono (Below.size hB5))
  go_wp2_with fail
  go_ret
  exact ⟨rfl, hF.1.trans (Below.mono hB6 (by have := hF.2; omega))⟩

theorem walk (w : World) (a b c : VoteV) (ha : a.I) (hb : b.I) (hc : c.I) : Calls Try.prog 8 #[vV a, vV b, vV c] w fun e w' => e = .returned (.bool true) ∧ Below w.heap.size w w' := by
  cases h1 : lessF a b
  · exact walk_A w a b c ha hb hc (Lib.hid h1)
  cases h2 : lessF b c
  · exact walk_B w a b c ha hb hc (Lib.hid h1) (Lib.hid h2)
  cases h3 : sameF a c
  · exact walk_C w a b c ha hb hc (Lib.hid h1) (Lib.hid h2) (Lib.hid h3)
  · obtain ⟨h4, h5⟩ := same_mid h1 h2 h3
    exact walk_D w a b c ha hb hc (Lib.hid h1) (Lib.hid h2) (Lib.hid h3) (Lib.hid h4) (Lib.hid h5)

set_option maxRecDepth 100000 in
/-- The law's step, at every reading. -/
theorem lifted (os : Os) (started : os.Started) (H : Type) (enc : TypeId × Value → H) :
    ReturnsInHanded {} Try.checked os 8 .any (Rows.voteNeighborsSpec.pre6 enc Try.prog Try.f8 Rows.voteNeighborsRow.domain false) (Rows.voteNeighborsSpec.post enc Try.prog Try.f8 false true false false) := by
  refine law_lifted (C := Try.checked) (n := 3) (tb := 4) own started (by kernel_rfl) Try.func8 rfl (by kernel_rfl)
    (of_decide_eq_true (by kernel_rfl)) (by kernel_rfl) (by kernel_rfl) Try.underlying4
    (fun ds hd => by match ds, hd with | [_, _, _], _ => rfl)
    (ChangeSpec.witness6 (enc := enc) (C := Try.checked) false ⟨#[], #[.agg #[.int .i64 0, .int .i64 0, .int .i64 0, .int .i64 0, .int .i64 0, .int .i64 0, .int .u8 0, .int .u8 0, .int .u8 0, .int .u8 0, .int .u8 0, .int .u8 0, .int .u8 0, .int .u8 0, .int .u8 0, .int .u8 0, .int .u8 0, .int .u8 0, .int .u8 0, .int .u8 0, .int .u8 0, .int .u8 0], .agg #[.int .i64 0, .int .i64 0, .int .i64 0, .int .i64 0, .int .i64 0, .int .i64 0, .int .u8 0, .int .u8 0, .int .u8 0, .int .u8 0, .int .u8 0, .int .u8 0, .int .u8 0, .int .u8 0, .int .u8 0, .int .u8 0, .int .u8 0, .int .u8 0, .int .u8 0, .int .u8 0, .int .u8 0, .int .u8 0], .agg #[.int .i64 0, .int .i64 0, .int .i64 0, .int .i64 0, .int .i64 0, .int .i64 0, .int .u8 0, .int .u8 0, .int .u8 0, .int .u8 0, .int .u8 0, .int .u8 0, .int .u8 0, .int .u8 0, .int .u8 0, .int .u8 0, .int .u8 0, .int .u8 0, .int .u8 0, .int .u8 0, .int .u8 0, .int .u8 0]], []⟩ 8 (by kernel_rfl) (by kernel_rfl) (by kernel_rfl) (by kernel_rfl)) ?_
  intro W base args ds ps hval hA hlt hsz
  rw [Try.params8] at hA hval
  obtain ⟨v0, vs0, d0, ds0, p0, q0, hargs, rfl, rfl, h0, r0⟩ := trodAll_cons hA
  obtain ⟨v1, vs1, d1, ds1, p1, q1, rfl, rfl, rfl, h1, r1⟩ := trodAll_cons r0
  obtain ⟨v2, vs2, d2, ds2, p2, q2, rfl, rfl, rfl, h2, r2⟩ := trodAll_cons r1
  obtain ⟨rfl, rfl, rfl⟩ := trodAll_nil r2
  obtain rfl : args = #[v0, v1, v2] := by cases args; simp_all
  obtain ⟨x0, rfl, hx0⟩ := open_vote (hval 0 _ v0 rfl rfl) h0 (fun x hx => hlt x (by simp [hx])) hsz (j := 0) (by rw [Try.params8]; rfl) rfl
  obtain ⟨x1, rfl, hx1⟩ := open_vote (hval 1 _ v1 rfl rfl) h1 (fun x hx => hlt x (by simp [hx])) hsz (j := 1) (by rw [Try.params8]; rfl) rfl
  obtain ⟨x2, rfl, hx2⟩ := open_vote (hval 2 _ v2 rfl rfl) h2 (fun x hx => hlt x (by simp [hx])) hsz (j := 2) (by rw [Try.params8]; rfl) rfl
  exact walk W x0 x1 x2 hx0 hx1 hx2

theorem proved : Rows.VoteNeighborsSaid :=
  OpenClaim.holds_of_wide 8 Try.f8 rfl rfl rfl rfl rfl rfl rfl ⟨rfl, rfl, rfl, rfl, rfl⟩ rfl rfl rfl rfl rfl (by kernel_rfl) Try.func8 (by kernel_rfl)
    (of_decide_eq_true (by kernel_rfl)) (by unfold Func.isWrapper; first | (rw [if_pos (by decide +kernel)]; kernel_rfl) | (rw [if_neg (by decide +kernel)]; exact ⟨rfl, rfl⟩))
    (fun os started H enc _ => lifted os started H enc)
#print axioms proved
end Go.Proofs.Ytpnmmfacnflngaa.voteNeighbors
