/-
  Package vote: Decode.
-/
import Derived.Test.YtpnmmfacnflngaaVd3
import Derived.Test.YtpnmmfacnflngaaCopy
namespace Go.Fl
open Go.ChangeShapes Go.WideShapes Go.ChangeAt Go.RowKit
theorem voteCd_one (v : VoteV) : (voteC v).all (·.oneCell') = true := by simp [Value.oneCell']
end Go.Fl
namespace Go.Proofs.Ytpnmmfacnflngaa
open Go.ChangeShapes Go.WideShapes Go.ChangeAt Go.RowKit Go.Fl

theorem vbyte_size : (Try.prog.info? 5).map (·.size) = some 1 := by kernel_rfl
theorem vuint (b0 b1 b2 b3 b4 b5 b6 b7 b8 b9 b10 b11 b12 b13 b14 b15 b16 b17 b18 b19 b20 b21 b22 : UInt8) (A : Option Addr) (c : Nat) (hc : 23 ≤ c) (w : World) (hr : RB w w.heap.size A [b0, b1, b2, b3, b4, b5, b6, b7, b8, b9, b10, b11, b12, b13, b14, b15, b16, b17, b18, b19, b20, b21, b22]) :
    Calls Try.prog 36 #[.slice A 23 c, .int .i64 5, .int .i64 2] w fun e w' => e = .returned (.tuple #[.int .u64 (ub b5 * 256 + ub b6), .bool true]) ∧ w = w' := by
  have h := uint_yes A [b0, b1, b2, b3, b4, b5, b6, b7, b8, b9, b10, b11, b12, b13, b14, b15, b16, b17, b18, b19, b20, b21, b22] c 5 2 (by omega) (by omega) (by simp) hc (by simp) w hr
  have e : U (uintV (([b0, b1, b2, b3, b4, b5, b6, b7, b8, b9, b10, b11, b12, b13, b14, b15, b16, b17, b18, b19, b20, b21, b22].drop 5).take 2)) = .int .u64 (ub b5 * 256 + ub b6) := by
    have e1 : ([b0, b1, b2, b3, b4, b5, b6, b7, b8, b9, b10, b11, b12, b13, b14, b15, b16, b17, b18, b19, b20, b21, b22].drop 5).take 2 = [b5, b6] := rfl
    rw [e1]
    show Value.int .u64 (iu _) = _
    rw [uintV_iu _ (by simp)]
    simp [beI]
  rw [e] at h
  exact h
set_option maxRecDepth 10000 in
set_option maxHeartbeats 2000000 in
theorem vdec_23 (b0 b1 b2 b3 b4 b5 b6 b7 b8 b9 b10 b11 b12 b13 b14 b15 b16 b17 b18 b19 b20 b21 b22 : UInt8) (A : Option Addr) (c : Nat) (hc : 23 ≤ c) (hm : c ≤ 9223372036854775807) (w : World) (hr : RB w w.heap.size A [b0, b1, b2, b3, b4, b5, b6, b7, b8, b9, b10, b11, b12, b13, b14, b15, b16, b17, b18, b19, b20, b21, b22])
    (P V : BitVec 64) (hP : Hid (nmL P = [b7, b8, b9, b10, b11, b12, b13, b14])) (hV : Hid (nmL V = [b15, b16, b17, b18, b19, b20, b21, b22])) (ok : Bool) (HI : (⟨ub b0, ub b1, ub b2, ub b3, ub b4, ub b5 * 256 + ub b6, P, V⟩ : VoteV).I) (hok : Hid (validF ⟨ub b0, ub b1, ub b2, ub b3, ub b4, ub b5 * 256 + ub b6, P, V⟩ = ok)) :
    Calls Try.prog 17 #[.slice A 23 c] w fun e w' => e = .returned (.tuple #[if ok then vV ⟨ub b0, ub b1, ub b2, ub b3, ub b4, ub b5 * 256 + ub b6, P, V⟩ else vV ⟨0, 0, 0, 0, 0, 0, 0, 0⟩, .int .i64 (if ok then 0 else 11)]) ∧ Below w.heap.size w w' := by
  have hr2 := Lib.hid hr
  obtain ⟨g, off, rfl, hg0, hcell⟩ := hr (by simp)
  have hz := Is.new w 26 (voteC ⟨0, 0, 0, 0, 0, 0, 0, 0⟩)
  have hF := (Fr.refl w).alloc (.cells (voteC ⟨0, 0, 0, 0, 0, 0, 0, 0⟩) 26)
  have hg : g < (w.alloc (.cells (voteC ⟨0, 0, 0, 0, 0, 0, 0, 0⟩) 26)).heap.size := by have := hF.2; omega
  have H0 : Hid ((w.alloc (.cells (voteC ⟨0, 0, 0, 0, 0, 0, 0, 0⟩) 26)).cell? ⟨g, off, none⟩ = some (B b0)) := Lib.hid ((hF.1.cell (p := ⟨g, off, none⟩) hg0).trans (hcell 0 b0 rfl))
  have H1 : Hid ((w.alloc (.cells (voteC ⟨0, 0, 0, 0, 0, 0, 0, 0⟩) 26)).cell? ⟨g, off + 1, none⟩ = some (B b1)) := Lib.hid ((hF.1.cell (p := ⟨g, off + 1, none⟩) hg0).trans (hcell 1 b1 rfl))
  have H2 : Hid ((w.alloc (.cells (voteC ⟨0, 0, 0, 0, 0, 0, 0, 0⟩) 26)).cell? ⟨g, off + 2, none⟩ = some (B b2)) := Lib.hid ((hF.1.cell (p := ⟨g, off + 2, none⟩) hg0).trans (hcell 2 b2 rfl))
  have H3 : Hid ((w.alloc (.cells (voteC ⟨0, 0, 0, 0, 0, 0, 0, 0⟩) 26)).cell? ⟨g, off + 3, none⟩ = some (B b3)) := Lib.hid ((hF.1.cell (p := ⟨g, off + 3, none⟩) hg0).trans (hcell 3 b3 rfl))
  have H4 : Hid ((w.alloc (.cells (voteC ⟨0, 0, 0, 0, 0, 0, 0, 0⟩) 26)).cell? ⟨g, off + 4, none⟩ = some (B b4)) := Lib.hid ((hF.1.cell (p := ⟨g, off + 4, none⟩) hg0).trans (hcell 4 b4 rfl))
  have lo5 := ub_lo b5
  have hi5 := ub_hi b5
  have lo6 := ub_lo b6
  have hi6 := ub_hi b6
  have hwM : IntKind.i64.wrap (ub b5 * 256 + ub b6) = ub b5 * 256 + ub b6 := by rw [IntKind.wrap_i64]; omega
  have hw0k : IntKind.i64.wrap (ub b0) = ub b0 := by rw [IntKind.wrap_i64]; have := ub_lo b0; have := ub_hi b0; omega
  have hw1k : IntKind.i64.wrap (ub b1) = ub b1 := by rw [IntKind.wrap_i64]; have := ub_lo b1; have := ub_hi b1; omega
  have hw2k : IntKind.i64.wrap (ub b2) = ub b2 := by rw [IntKind.wrap_i64]; have := ub_lo b2; have := ub_hi b2; omega
  have hw3k : IntKind.i64.wrap (ub b3) = ub b3 := by rw [IntKind.wrap_i64]; have := ub_lo b3; have := ub_hi b3; omega
  have hw4k : IntKind.i64.wrap (ub b4) = ub b4 := by rw [IntKind.wrap_i64]; have := ub_lo b4; have := ub_hi b4; omega
  have hc15 : (15 : Int) ≤ (c : Int) := by omega
  have hc7 : (7 : Int) ≤ (c : Int) := by omega
  have hc23 : (23 : Int) ≤ (c : Int) := by omega
  have hn7 : ¬ c = 7 := by omega
  have hn15 : ¬ c = 15 := by omega
  have HU := Lib.hid (vuint b0 b1 b2 b3 b4 b5 b6 b7 b8 b9 b10 b11 b12 b13 b14 b15 b16 b17 b18 b19 b20 b21 b22 (some ⟨g, off, none⟩) c hc _ ((hr2.out.keep hF.1).mono hF.1.size))
  clear hr hr2 lo5 hi5 lo6 hi6 hc
  go_enter Try.func17, Try.ntmps17
  go_wp2_with fail
  refine HU.out.mono ?_
  rintro e W ⟨rfl, hW⟩
  clear HU
  change w.alloc (.cells (voteC ⟨0, 0, 0, 0, 0, 0, 0, 0⟩) 26) = W at hW
  subst hW
  generalize w.alloc (.cells (voteC ⟨0, 0, 0, 0, 0, 0, 0, 0⟩) 26) = W at *
  go_wp2_with fail
  refine wp_region_held_drew (S := fun w' => Below W.heap.size W w') (by kernel_rfl) (Below.refl _ _).drew (fun hHeld => ?_)
  refine held_pure 0 20 (.slice (some ⟨g, off, none⟩) 23 c) rfl (fun W => by rfl) hHeld ?_
  try simp only [Act.put, List.setIfInBounds_toArray, List.set_cons_zero, List.set_cons_succ]
  refine held_pure 1 21 (.pointer (some ⟨g, off, none⟩)) rfl (fun W => by go_simp) hHeld ?_
  try simp only [Act.put, List.setIfInBounds_toArray, List.set_cons_zero, List.set_cons_succ]
  refine held_if 2 22 (B b0) rfl (fun w' h => by (have hc := (h.cell (p := ⟨g, off, none⟩) hg).trans H0.out; go_simp)) hHeld ?_
  try simp only [Act.put, List.setIfInBounds_toArray, List.set_cons_zero, List.set_cons_succ]
  refine held_pure 3 23 (.int .i64 (ub b0)) rfl (fun W => by go_simp) hHeld ?_
  try simp only [Act.put, List.setIfInBounds_toArray, List.set_cons_zero, List.set_cons_succ]
  refine held_pure 4 24 (.slice (some ⟨g, off, none⟩) 23 c) rfl (fun W => by rfl) hHeld ?_
  try simp only [Act.put, List.setIfInBounds_toArray, List.set_cons_zero, List.set_cons_succ]
  refine held_pure 5 25 (.pointer (some ⟨g, off + 1, none⟩)) rfl (fun W => by go_simp) hHeld ?_
  try simp only [Act.put, List.setIfInBounds_toArray, List.set_cons_zero, List.set_cons_succ]
  refine held_if 6 26 (B b1) rfl (fun w' h => by (have hc := (h.cell (p := ⟨g, off + 1, none⟩) hg).trans H1.out; go_simp)) hHeld ?_
  try simp only [Act.put, List.setIfInBounds_toArray, List.set_cons_zero, List.set_cons_succ]
  refine held_pure 7 27 (.int .i64 (ub b1)) rfl (fun W => by go_simp) hHeld ?_
  try simp only [Act.put, List.setIfInBounds_toArray, List.set_cons_zero, List.set_cons_succ]
  refine held_pure 8 28 (.slice (some ⟨g, off, none⟩) 23 c) rfl (fun W => by rfl) hHeld ?_
  try simp only [Act.put, List.setIfInBounds_toArray, List.set_cons_zero, List.set_cons_succ]
  refine held_pure 9 29 (.pointer (some ⟨g, off + 2, none⟩)) rfl (fun W => by go_simp) hHeld ?_
  try simp only [Act.put, List.setIfInBounds_toArray, List.set_cons_zero, List.set_cons_succ]
  refine held_if 10 30 (B b2) rfl (fun w' h => by (have hc := (h.cell (p := ⟨g, off + 2, none⟩) hg).trans H2.out; go_simp)) hHeld ?_
  try simp only [Act.put, List.setIfInBounds_toArray, List.set_cons_zero, List.set_cons_succ]
  refine held_pure 11 31 (.int .i64 (ub b2)) rfl (fun W => by go_simp) hHeld ?_
  try simp only [Act.put, List.setIfInBounds_toArray, List.set_cons_zero, List.set_cons_succ]
  refine held_pure 12 32 (.slice (some ⟨g, off, none⟩) 23 c) rfl (fun W => by rfl) hHeld ?_
  try simp only [Act.put, List.setIfInBounds_toArray, List.set_cons_zero, List.set_cons_succ]
  refine held_pure 13 33 (.pointer (some ⟨g, off + 3, none⟩)) rfl (fun W => by go_simp) hHeld ?_
  try simp only [Act.put, List.setIfInBounds_toArray, List.set_cons_zero, List.set_cons_succ]
  refine held_if 14 34 (B b3) rfl (fun w' h => by (have hc := (h.cell (p := ⟨g, off + 3, none⟩) hg).trans H3.out; go_simp)) hHeld ?_
  try simp only [Act.put, List.setIfInBounds_toArray, List.set_cons_zero, List.set_cons_succ]
  refine held_pure 15 35 (.int .i64 (ub b3)) rfl (fun W => by go_simp) hHeld ?_
  try simp only [Act.put, List.setIfInBounds_toArray, List.set_cons_zero, List.set_cons_succ]
  refine held_pure 16 36 (.slice (some ⟨g, off, none⟩) 23 c) rfl (fun W => by rfl) hHeld ?_
  try simp only [Act.put, List.setIfInBounds_toArray, List.set_cons_zero, List.set_cons_succ]
  refine held_pure 17 37 (.pointer (some ⟨g, off + 4, none⟩)) rfl (fun W => by go_simp) hHeld ?_
  try simp only [Act.put, List.setIfInBounds_toArray, List.set_cons_zero, List.set_cons_succ]
  refine held_if 18 38 (B b4) rfl (fun w' h => by (have hc := (h.cell (p := ⟨g, off + 4, none⟩) hg).trans H4.out; go_simp)) hHeld ?_
  try simp only [Act.put, List.setIfInBounds_toArray, List.set_cons_zero, List.set_cons_succ]
  refine held_pure 19 39 (.int .i64 (ub b4)) rfl (fun W => by go_simp) hHeld ?_
  try simp only [Act.put, List.setIfInBounds_toArray, List.set_cons_zero, List.set_cons_succ]
  refine held_pure 20 40 (.int .u64 (ub b5 * 256 + ub b6)) rfl (fun W => by rfl) hHeld ?_
  try simp only [Act.put, List.setIfInBounds_toArray, List.set_cons_zero, List.set_cons_succ]
  refine held_pure 21 41 (.int .i64 (ub b5 * 256 + ub b6)) rfl (fun W => by go_simp) hHeld ?_
  try simp only [Act.put, List.setIfInBounds_toArray, List.set_cons_zero, List.set_cons_succ]
  refine held_pure 22 42 (vV ⟨ub b0, ub b1, ub b2, ub b3, ub b4, ub b5 * 256 + ub b6, 0, 0⟩) rfl (fun W => by (first | rfl | kernel_rfl)) hHeld ?_
  try simp only [Act.put, List.setIfInBounds_toArray, List.set_cons_zero, List.set_cons_succ]
  refine held_one (i := 23) (by kernel_rfl) rfl (by rfl) (fun KK hK => ?_)
  go_wp2_with fail
  refine hK.out _ _ (hHeld.trans ((Below.refl _ _).alloc hHeld.size _)) (fun hHeld1 => ?_)
  clear hK KK
  try simp only [Act.put, List.setIfInBounds_toArray, List.set_cons_zero, List.set_cons_succ]
  refine held_one (i := 24) (by kernel_rfl) rfl (by rfl) (fun KK hK => ?_)
  refine oper_store_is 26 (.tmp 6) (.tmp 42) rfl W.heap.size 26 (voteC ⟨0, 0, 0, 0, 0, 0, 0, 0⟩) (voteC ⟨ub b0, ub b1, ub b2, ub b3, ub b4, ub b5 * 256 + ub b6, 0, 0⟩) (by rfl) (by rfl) (Is.drew (Is.new W 26 (voteC ⟨0, 0, 0, 0, 0, 0, 0, 0⟩))) rfl vote_size (voteCd_one _) (fun w3 I3 B3 _ => ?_)
  refine hK.out _ _ (hHeld1.trans B3) (fun hHeld2 => ?_)
  clear hK KK
  try simp only [Act.put, List.setIfInBounds_toArray]
  refine wpAnyH_done (by kernel_rfl) ?_ _
  try simp only [Act.put, List.setIfInBounds_toArray, List.set_cons_zero, List.set_cons_succ]
  go_wp2_with fail
  refine wp_region_held_drew (S := fun w' => Below W.heap.size W w') (by kernel_rfl) (hHeld2).drew (fun hS => ?_)
  refine held_pure 0 43 (.pointer (some ⟨W.heap.size, 6, none⟩)) rfl (fun W => by go_simp) hS ?_
  try simp only [Act.put, List.setIfInBounds_toArray, List.set_cons_zero, List.set_cons_succ]
  refine held_pure 1 44 (.slice (some ⟨W.heap.size, 6, none⟩) 8 8) rfl (fun W => by go_simp) hS ?_
  try simp only [Act.put, List.setIfInBounds_toArray, List.set_cons_zero, List.set_cons_succ]
  refine held_pure 2 45 (.slice (some ⟨g, off, none⟩) 23 c) rfl (fun W => by rfl) hS ?_
  try simp only [Act.put, List.setIfInBounds_toArray, List.set_cons_zero, List.set_cons_succ]
  refine held_pure 3 46 (.slice (some ⟨g, off + 7, none⟩) 16 (c - 7)) rfl (fun W => by go_simp) hS ?_
  try simp only [Act.put, List.setIfInBounds_toArray, List.set_cons_zero, List.set_cons_succ]
  refine held_one (i := 4) (by kernel_rfl) rfl (by rfl) (fun KK hK => ?_)
  refine oper_copy_is 47 (.tmp 44) (.tmp 46) 29 rfl 5 Try.underlying29 vbyte_size W.heap.size 6 8 8 26 (voteC ⟨ub b0, ub b1, ub b2, ub b3, ub b4, ub b5 * 256 + ub b6, 0, 0⟩) ⟨g, off + 7, none⟩ 16 (c - 7) (nmR P) (by rfl) (by rfl) I3.drew rfl (src_cells hcell hg0 (hF.1.trans (Below.mono hS (by have := hF.2; omega))) 7 (nmL P) (by rw [hP.out]; rfl)) (by show _ + 8 ≤ 22; decide) (by simp [Value.oneCell']) (voteC ⟨ub b0, ub b1, ub b2, ub b3, ub b4, ub b5 * 256 + ub b6, P, 0⟩) (by rfl) (fun w4 I4 B5 _ => ?_)
  refine hK.out _ _ (hS.trans B5) (fun hS1 => ?_)
  clear hK KK
  try simp only [Act.put, List.setIfInBounds_toArray, List.set_cons_zero, List.set_cons_succ]
  refine wpAnyH_done (by kernel_rfl) ?_ _
  try simp only [Act.put, List.setIfInBounds_toArray, List.set_cons_zero, List.set_cons_succ]
  go_wp2_with fail
  refine wp_region_held_drew (S := fun w' => Below W.heap.size W w') (by kernel_rfl) (hS1).drew (fun hU => ?_)
  refine held_pure 0 48 (.pointer (some ⟨W.heap.size, 14, none⟩)) rfl (fun W => by go_simp) hU ?_
  try simp only [Act.put, List.setIfInBounds_toArray, List.set_cons_zero, List.set_cons_succ]
  refine held_pure 1 49 (.slice (some ⟨W.heap.size, 14, none⟩) 8 8) rfl (fun W => by go_simp) hU ?_
  try simp only [Act.put, List.setIfInBounds_toArray, List.set_cons_zero, List.set_cons_succ]
  refine held_pure 2 50 (.slice (some ⟨g, off, none⟩) 23 c) rfl (fun W => by rfl) hU ?_
  try simp only [Act.put, List.setIfInBounds_toArray, List.set_cons_zero, List.set_cons_succ]
  refine held_pure 3 51 (.slice (some ⟨g, off + 15, none⟩) 8 (c - 15)) rfl (fun W => by go_simp) hU ?_
  try simp only [Act.put, List.setIfInBounds_toArray, List.set_cons_zero, List.set_cons_succ]
  refine held_one (i := 4) (by kernel_rfl) rfl (by rfl) (fun KK hK => ?_)
  refine oper_copy_is 52 (.tmp 49) (.tmp 51) 29 rfl 5 Try.underlying29 vbyte_size W.heap.size 14 8 8 26 (voteC ⟨ub b0, ub b1, ub b2, ub b3, ub b4, ub b5 * 256 + ub b6, P, 0⟩) ⟨g, off + 15, none⟩ 8 (c - 15) (nmR V) (by rfl) (by rfl) I4.drew rfl (src_cells hcell hg0 (hF.1.trans (Below.mono hU (by have := hF.2; omega))) 15 (nmL V) (by rw [hV.out]; rfl)) (by show _ + 8 ≤ 22; decide) (by simp [Value.oneCell']) (voteC ⟨ub b0, ub b1, ub b2, ub b3, ub b4, ub b5 * 256 + ub b6, P, V⟩) (by rfl) (fun w5 I5 B5 _ => ?_)
  refine hK.out _ _ (hU.trans B5) (fun hU1 => ?_)
  clear hK KK
  try simp only [Act.put, List.setIfInBounds_toArray, List.set_cons_zero, List.set_cons_succ]
  refine wpAnyH_done (by kernel_rfl) ?_ _
  try simp only [Act.put, List.setIfInBounds_toArray, List.set_cons_zero, List.set_cons_succ]
  have hz5 : Is w5 w.heap.size 26 (voteC ⟨0, 0, 0, 0, 0, 0, 0, 0⟩) := hz.keep hU1 (by have := hF.2; omega)
  have hF5 : Fr w 1 w5 := hF.step hU1 (by have := hF.2; omega)
  go_wp2_with (refine wpList_load_w (by rfl) 26 (.tmp 6) rfl W.heap.size 0 (by rfl) (voteL ⟨ub b0, ub b1, ub b2, ub b3, ub b4, ub b5 * 256 + ub b6, P, V⟩) _ (vote_range I5) Try.underlying26 rfl (by rw [voteL_len]; exact vote_size) ?_)
  refine (vvalid_l ⟨ub b0, ub b1, ub b2, ub b3, ub b4, ub b5 * 256 + ub b6, P, V⟩ HI ok hok _).mono ?_
  rintro e w6 ⟨rfl, hb6⟩
  have hz6 := hz5.next hb6
  have I6 := I5.next hb6
  have hF6 := hF5.next hb6
  have hVL : (voteL ⟨ub b0, ub b1, ub b2, ub b3, ub b4, ub b5 * 256 + ub b6, P, V⟩).toArray = voteC ⟨ub b0, ub b1, ub b2, ub b3, ub b4, ub b5 * 256 + ub b6, P, V⟩ := Array.toArray_toList
  cases ok
  · go_wp2_with (refine wpList_store_is rfl 26 (.tmp 2) (.tmp 56) rfl w.heap.size 26 _ (voteC ⟨0, 0, 0, 0, 0, 0, 0, 0⟩) rfl (by rfl) hz6 rfl vote_size (voteCd_one _) ?_; intro w7 hz7 hb7)
    exact ret_is_tmp rfl w.heap.size 26 _ rfl hz7 Try.underlying26 rfl vote_size rfl ⟨rfl, hF6.1.trans hb7⟩
  · go_wp2_with (first
      | refine wpList_load_w (by rfl) 26 (.tmp 6) rfl W.heap.size 0 (by rfl) (voteL ⟨ub b0, ub b1, ub b2, ub b3, ub b4, ub b5 * 256 + ub b6, P, V⟩) _ (vote_range I6) Try.underlying26 rfl (by rw [voteL_len]; exact vote_size) ?_
      | (refine wpList_store_is rfl 26 (.tmp 2) (.tmp 57) rfl w.heap.size 26 _ (voteL ⟨ub b0, ub b1, ub b2, ub b3, ub b4, ub b5 * 256 + ub b6, P, V⟩).toArray rfl rfl hz6 (by rw [hVL]; rfl) (by rw [hVL]; exact vote_size) (by rw [hVL]; exact voteCd_one _) ?_; intro w7 hz7 hb7))
    rw [hVL] at hz7
    exact ret_is_tmp rfl w.heap.size 26 _ rfl hz7 Try.underlying26 rfl vote_size rfl ⟨rfl, hF6.1.trans hb7⟩

theorem vdec_short (A : Option Addr) (n c : Nat) (hn : n < 23) (w : World) : Calls Try.prog 17 #[.slice A n c] w fun e w' => e = .returned (.tuple #[vV ⟨0, 0, 0, 0, 0, 0, 0, 0⟩, .int .i64 2]) ∧ Below w.heap.size w w' := by
  have hz := Is.new w 26 (voteC ⟨0, 0, 0, 0, 0, 0, 0, 0⟩)
  have hF := (Fr.refl w).alloc (.cells (voteC ⟨0, 0, 0, 0, 0, 0, 0, 0⟩) 26)
  have h1 : decide ((n : Int) < 23) = true := by simp; omega
  have h1' : (n : Int) < 23 := by omega
  clear hn
  go_enter Try.func17, Try.ntmps17
  go_wp2_with (refine wpList_store_is rfl 26 (.tmp 2) (.tmp 10) rfl w.heap.size 26 _ (voteC ⟨0, 0, 0, 0, 0, 0, 0, 0⟩) rfl (by rfl) hz rfl vote_size (voteCd_one _) ?_; intro w7 hz7 hb7)
  exact ret_is_tmp rfl w.heap.size 26 _ rfl hz7 Try.underlying26 rfl vote_size rfl ⟨rfl, hF.1.trans hb7⟩
theorem vdec_long (A : Option Addr) (n c : Nat) (hn : 23 < n) (w : World) : Calls Try.prog 17 #[.slice A n c] w fun e w' => e = .returned (.tuple #[vV ⟨0, 0, 0, 0, 0, 0, 0, 0⟩, .int .i64 3]) ∧ Below w.heap.size w w' := by
  have hz := Is.new w 26 (voteC ⟨0, 0, 0, 0, 0, 0, 0, 0⟩)
  have hF := (Fr.refl w).alloc (.cells (voteC ⟨0, 0, 0, 0, 0, 0, 0, 0⟩) 26)
  have h1 : decide ((n : Int) < 23) = false := by simp; omega
  have h1' : ¬ (n : Int) < 23 := by omega
  have h2 : decide ((n : Int) > 23) = true := by simp; omega
  have h2' : (23 : Int) < (n : Int) := by omega
  clear hn
  go_enter Try.func17, Try.ntmps17
  go_wp2_with (refine wpList_store_is rfl 26 (.tmp 2) (.tmp 14) rfl w.heap.size 26 _ (voteC ⟨0, 0, 0, 0, 0, 0, 0, 0⟩) rfl (by rfl) hz rfl vote_size (voteCd_one _) ?_; intro w7 hz7 hb7)
  exact ret_is_tmp rfl w.heap.size 26 _ rfl hz7 Try.underlying26 rfl vote_size rfl ⟨rfl, hF.1.trans hb7⟩
/-- Decode, for any bytes. -/
theorem vdec_any (v : Value) (l : List UInt8) (w : World) (h : VB w v l) : Calls Try.prog 17 #[v] w fun e w' => e = .returned (.tuple #[vV (decF l).1, .int .i64 (decF l).2]) ∧ Below w.heap.size w w' := by
  obtain ⟨A, c, rfl, h1, h2, hr⟩ := h
  by_cases hs : l.length < 23
  · have e : decF l = (⟨0, 0, 0, 0, 0, 0, 0, 0⟩, 2) := by unfold decF; rw [if_pos hs]
    rw [e]
    exact vdec_short A _ c hs w
  by_cases hg : 23 < l.length
  · have e : decF l = (⟨0, 0, 0, 0, 0, 0, 0, 0⟩, 3) := by unfold decF; rw [if_neg hs, if_pos hg]
    rw [e]
    exact vdec_long A _ c hg w
  have hl : l.length = 23 := by omega
  obtain ⟨ok, hok⟩ : ∃ ok, validF (voteOf l) = ok := ⟨_, rfl⟩
  have e : decF l = (if ok then voteOf l else ⟨0, 0, 0, 0, 0, 0, 0, 0⟩, if ok then 0 else 11) := by
    unfold decF
    rw [if_neg hs, if_neg hg, hok]
    cases ok <;> rfl
  rw [e]
  have hI := voteOf_I l
  rw [hl]
  rw [hl] at h1
  obtain ⟨b0, b1, b2, b3, b4, b5, b6, b7, b8, b9, b10, b11, b12, b13, b14, b15, b16, b17, b18, b19, b20, b21, b22, rfl⟩ := list_23 l hl
  have hP : nmL (wordOf ([b0, b1, b2, b3, b4, b5, b6, b7, b8, b9, b10, b11, b12, b13, b14, b15, b16, b17, b18, b19, b20, b21, b22].drop 7)) = [b7, b8, b9, b10, b11, b12, b13, b14] := by rw [nmL_wordOf]; rfl
  have hV : nmL (wordOf ([b0, b1, b2, b3, b4, b5, b6, b7, b8, b9, b10, b11, b12, b13, b14, b15, b16, b17, b18, b19, b20, b21, b22].drop 15)) = [b15, b16, b17, b18, b19, b20, b21, b22] := by rw [nmL_wordOf]; rfl
  refine (vdec_23 b0 b1 b2 b3 b4 b5 b6 b7 b8 b9 b10 b11 b12 b13 b14 b15 b16 b17 b18 b19 b20 b21 b22 A c h1 h2 w hr _ _ (Lib.hid hP) (Lib.hid hV) ok hI (Lib.hid hok)).mono ?_
  rintro e1 w1 ⟨rfl, hb⟩
  exact ⟨by cases ok <;> rfl, hb⟩
end Go.Proofs.Ytpnmmfacnflngaa
