/-
  The statement VoteValid, proved for every vote, with no condition: Valid is as documented.
-/
import Derived.Test.YtpnmmfacnflngaaLaw7A
namespace Go.Proofs.Ytpnmmfacnflngaa.voteValid
open Go.ChangeShapes Go.WideShapes Go.ChangeAt Go.RowKit Go.Fl

attribute [local go_sem] equal_nm eqGuard_nm eqGuard_vote
attribute [local go_sem high] equal_voteL

set_option maxRecDepth 10000 in
set_option maxHeartbeats 1000000 in
theorem walk_r (w : World) (a : VoteV) (ha : a.I) (r : Bool) (HR : Hid (validF a = r)) :
    Calls Try.prog 3 #[vV a] w fun e w' => e = .returned (.bool true) ∧ Below w.heap.size w w' := by
  obtain ⟨hIa, hF⟩ := oneW_facts w a
  go_enter Try.func3, Try.ntmps3
  go_wp2_with fail
  change Code.wp _ _ _ _ (oneW w a)
  generalize oneW w a = W at *
  have HA := vote_later hIa
  clear hIa
  refine wp_region_held_drew (S := fun w' => Below W.heap.size W w') (by kernel_rfl) (Below.refl _ _).drew (fun hHeld => ?_)
  refine held_load 0 3 rfl 26 (.tmp 1) rfl w.heap.size 0 rfl (voteL a) (fun w' h => HA _ h) Try.underlying26 vote_size hHeld ?_
  try simp only [Act.put, List.setIfInBounds_toArray, List.set_cons_zero, List.set_cons_succ]
  refine held_load 2 5 rfl 26 (.tmp 1) rfl w.heap.size 0 rfl (voteL a) (fun w' h => HA _ h) Try.underlying26 vote_size hHeld ?_
  try simp only [Act.put, List.setIfInBounds_toArray, List.set_cons_zero, List.set_cons_succ]
  refine held_one (i := 1) (by kernel_rfl) rfl (by rfl) (fun KK hK => ?_)
  go_wp2_with fail
  refine (coValid a ha r HR _).mono ?_
  rintro e w1 ⟨rfl, hb⟩
  go_wp2_with fail
  refine hK.out _ _ (hHeld.trans (hb.mono hHeld.size)) (fun hHeld1 => ?_)
  clear hK KK
  try simp only [Act.put, List.setIfInBounds_toArray, List.set_cons_zero, List.set_cons_succ]
  refine held_one (i := 3) (by kernel_rfl) rfl (by rfl) (fun KK hK => ?_)
  go_wp2_with fail
  refine (rfValid a ha r HR _).mono ?_
  rintro e w2 ⟨rfl, hb⟩
  go_wp2_with fail
  refine hK.out _ _ (hHeld1.trans (hb.mono hHeld1.size)) (fun hHeld2 => ?_)
  clear hK KK
  try simp only [Act.put, List.setIfInBounds_toArray, List.set_cons_zero, List.set_cons_succ]
  refine held_pure 4 7 (.bool true) rfl (fun W => by go_simp) hHeld2 ?_
  try simp only [Act.put, List.setIfInBounds_toArray, List.set_cons_zero, List.set_cons_succ]
  refine held_pure 5 8 (.bool true) rfl (fun W => by rfl) hHeld2 ?_
  try simp only [Act.put, List.setIfInBounds_toArray, List.set_cons_zero, List.set_cons_succ]
  refine held_one (i := 6) (by kernel_rfl) rfl (by rfl) (fun KK hK => ?_)
  go_wp2_with fail
  refine (awake_any _).mono ?_
  rintro e w3 ⟨rfl, hb⟩
  go_wp2_with fail
  refine hK.out _ _ (hHeld2.trans (hb.mono hHeld2.size)) (fun hHeld3 => ?_)
  clear hK KK
  try simp only [Act.put, List.setIfInBounds_toArray, List.set_cons_zero, List.set_cons_succ]
  refine held_pure 7 10 (.bool true) rfl (fun W => by rfl) hHeld3 ?_
  try simp only [Act.put, List.setIfInBounds_toArray, List.set_cons_zero, List.set_cons_succ]
  refine held_pure 8 2 (.bool true) rfl (fun W => by rfl) hHeld3 ?_
  try simp only [Act.put, List.setIfInBounds_toArray, List.set_cons_zero, List.set_cons_succ]
  refine wpAnyH_done (by kernel_rfl) ?_ _
  try simp only [Act.put, List.setIfInBounds_toArray, List.set_cons_zero, List.set_cons_succ]
  go_wp2_with fail
  go_ret
  exact ⟨rfl, hF.1.trans (Below.mono hHeld3 (by have := hF.2; omega))⟩

theorem walk (w : World) (a : VoteV) (ha : a.I) : Calls Try.prog 3 #[vV a] w fun e w' => e = .returned (.bool true) ∧ Below w.heap.size w w' := walk_r w a ha _ (Lib.hid rfl)

set_option maxRecDepth 100000 in
/-- The law's step, at every reading. -/
theorem lifted (os : Os) (started : os.Started) (H : Type) (enc : TypeId × Value → H) :
    ReturnsInHanded {} Try.checked os 3 .any (Rows.voteValidSpec.pre6 enc Try.prog Try.f3 Rows.voteValidRow.domain false) (Rows.voteValidSpec.post enc Try.prog Try.f3 false true false false) := by
  refine law_lifted (C := Try.checked) (n := 1) (tb := 4) own started (by kernel_rfl) Try.func3 rfl (by kernel_rfl)
    (of_decide_eq_true (by kernel_rfl)) (by kernel_rfl) (by kernel_rfl) Try.underlying4
    (fun ds hd => by match ds, hd with | [_], _ => rfl)
    (ChangeSpec.witness6 (enc := enc) (C := Try.checked) false ⟨#[], #[.agg #[.int .i64 0, .int .i64 0, .int .i64 0, .int .i64 0, .int .i64 0, .int .i64 0, .int .u8 0, .int .u8 0, .int .u8 0, .int .u8 0, .int .u8 0, .int .u8 0, .int .u8 0, .int .u8 0, .int .u8 0, .int .u8 0, .int .u8 0, .int .u8 0, .int .u8 0, .int .u8 0, .int .u8 0, .int .u8 0]], []⟩ 8 (by kernel_rfl) (by kernel_rfl) (by kernel_rfl) (by kernel_rfl)) ?_
  intro W base args ds ps hval hA hlt hsz
  rw [Try.params3] at hA hval
  obtain ⟨v0, vs0, d0, ds0, p0, q0, hargs, rfl, rfl, h0, r0⟩ := trodAll_cons hA
  obtain ⟨rfl, rfl, rfl⟩ := trodAll_nil r0
  obtain rfl : args = #[v0] := by cases args; simp_all
  obtain ⟨x0, rfl, hx0⟩ := open_vote (hval 0 _ v0 rfl rfl) h0 (fun x hx => hlt x (by simp [hx])) hsz (j := 0) (by rw [Try.params3]; rfl) rfl
  exact walk W x0 hx0

theorem proved : Rows.VoteValidSaid :=
  OpenClaim.holds_of_wide 3 Try.f3 rfl rfl rfl rfl rfl rfl rfl ⟨rfl, rfl, rfl, rfl, rfl⟩ rfl rfl rfl rfl rfl (by kernel_rfl) Try.func3 (by kernel_rfl)
    (of_decide_eq_true (by kernel_rfl)) (by unfold Func.isWrapper; first | (rw [if_pos (by decide +kernel)]; kernel_rfl) | (rw [if_neg (by decide +kernel)]; exact ⟨rfl, rfl⟩))
    (fun os started H enc _ => lifted os started H enc)
#print axioms proved
end Go.Proofs.Ytpnmmfacnflngaa.voteValid
