/-
  forkledgerref6: Decode.
-/
import Derived.Test.YtpnmmfacnflngaaR7Enc
import Derived.Test.YtpnmmfacnflngaaVoteS
import Derived.Test.YtpnmmfacnflngaaCopy
namespace Go.Fl
open Go.ChangeShapes Go.WideShapes Go.ChangeAt Go.RowKit
theorem or_i64v (a b : UInt8) : bits .or .i64 (ub a * 256) (ub b) = ub a * 256 + ub b := by
  have e : ∀ x y : Nat, x < 256 → y < 256 → bits .or .i64 ((x * 256 : Nat) : Int) (y : Int) = ((x * 256 + y : Nat) : Int) := fun x y hx hy => by
    have h1 : (BitVec.ofInt 64 ((x * 256 : Nat) : Int)).toNat = x * 256 := by
      rw [BitVec.ofInt_natCast, BitVec.toNat_ofNat]; exact Nat.mod_eq_of_lt (by omega)
    have h2 : (BitVec.ofInt 64 (y : Int)).toNat = y := by
      rw [BitVec.ofInt_natCast, BitVec.toNat_ofNat]; exact Nat.mod_eq_of_lt (by omega)
    show IntKind.i64.wrap ((BitVec.ofInt 64 ((x * 256 : Nat) : Int) ||| BitVec.ofInt 64 (y : Int)).toNat : Nat) = _
    rw [BitVec.toNat_or, h1, h2, IntKind.wrap_i64]
    have h3 : x * 256 ||| y = x * 256 + y := by
      have := Nat.two_pow_add_eq_or_of_lt (i := 8) (b := y) (by omega) x
      rw [Nat.mul_comm] at this
      exact this.symm
    rw [h3]
    omega
  have := e a.toNat b.toNat a.toNat_lt b.toNat_lt
  unfold ub
  simpa using this
theorem voteC_size (v : VoteV) : (voteC v).size = 22 := rfl
theorem voteC_one (v : VoteV) : (voteC v).all (·.oneCell') = true := by simp [Value.oneCell']
end Go.Fl
namespace Go.Proofs.Ytpnmmfacnflngaa
open Go.ChangeShapes Go.WideShapes Go.ChangeAt Go.RowKit Go.Fl

theorem byte_size : (Try.prog.info? 5).map (·.size) = some 1 := by kernel_rfl
set_option maxRecDepth 10000 in
set_option maxHeartbeats 2000000 in
theorem rdec_23 (b0 b1 b2 b3 b4 b5 b6 b7 b8 b9 b10 b11 b12 b13 b14 b15 b16 b17 b18 b19 b20 b21 b22 : UInt8) (A : Option Addr) (c : Nat) (hc : 23 ≤ c) (hm : c ≤ 9223372036854775807) (w : World) (hr : RB w w.heap.size A [b0, b1, b2, b3, b4, b5, b6, b7, b8, b9, b10, b11, b12, b13, b14, b15, b16, b17, b18, b19, b20, b21, b22])
    (P V : BitVec 64) (hP : Hid (nmL P = [b7, b8, b9, b10, b11, b12, b13, b14])) (hV : Hid (nmL V = [b15, b16, b17, b18, b19, b20, b21, b22])) (ok : Bool) (HI : (⟨ub b0, ub b1, ub b2, ub b3, ub b4, ub b5 * 256 + ub b6, P, V⟩ : VoteV).I) (hok : Hid (validF ⟨ub b0, ub b1, ub b2, ub b3, ub b4, ub b5 * 256 + ub b6, P, V⟩ = ok)) :
    Calls Try.prog 18 #[.slice A 23 c] w fun e w' => e = .returned (.tuple #[if ok then vV ⟨ub b0, ub b1, ub b2, ub b3, ub b4, ub b5 * 256 + ub b6, P, V⟩ else vV ⟨0, 0, 0, 0, 0, 0, 0, 0⟩, .int .i64 (if ok then 0 else 11)]) ∧ Below w.heap.size w w' := by
  obtain ⟨g, off, rfl, hg0, hcell⟩ := hr (by simp)
  have hz := Is.new w 26 (voteC ⟨0, 0, 0, 0, 0, 0, 0, 0⟩)
  have hF := (Fr.refl w).alloc (.cells (voteC ⟨0, 0, 0, 0, 0, 0, 0, 0⟩) 26)
  have hg : g < (w.alloc (.cells (voteC ⟨0, 0, 0, 0, 0, 0, 0, 0⟩) 26)).heap.size := by have := hF.2; omega
  have H0 : Hid ((w.alloc (.cells (voteC ⟨0, 0, 0, 0, 0, 0, 0, 0⟩) 26)).cell? ⟨g, off, none⟩ = some (B b0)) := Lib.hid ((hF.1.cell (p := ⟨g, off, none⟩) hg0).trans (hcell 0 b0 rfl))
  have H1 : Hid ((w.alloc (.cells (voteC ⟨0, 0, 0, 0, 0, 0, 0, 0⟩) 26)).cell? ⟨g, off + 1, none⟩ = some (B b1)) := Lib.hid ((hF.1.cell (p := ⟨g, off + 1, none⟩) hg0).trans (hcell 1 b1 rfl))
  have H2 : Hid ((w.alloc (.cells (voteC ⟨0, 0, 0, 0, 0, 0, 0, 0⟩) 26)).cell? ⟨g, off + 2, none⟩ = some (B b2)) := Lib.hid ((hF.1.cell (p := ⟨g, off + 2, none⟩) hg0).trans (hcell 2 b2 rfl))
  have H3 : Hid ((w.alloc (.cells (voteC ⟨0, 0, 0, 0, 0, 0, 0, 0⟩) 26)).cell? ⟨g, off + 3, none⟩ = some (B b3)) := Lib.hid ((hF.1.cell (p := ⟨g, off + 3, none⟩) hg0).trans (hcell 3 b3 rfl))
  have H4 : Hid ((w.alloc (.cells (voteC ⟨0, 0, 0, 0, 0, 0, 0, 0⟩) 26)).cell? ⟨g, off + 4, none⟩ = some (B b4)) := Lib.hid ((hF.1.cell (p := ⟨g, off + 4, none⟩) hg0).trans (hcell 4 b4 rfl))
  have H5 : Hid ((w.alloc (.cells (voteC ⟨0, 0, 0, 0, 0, 0, 0, 0⟩) 26)).cell? ⟨g, off + 5, none⟩ = some (B b5)) := Lib.hid ((hF.1.cell (p := ⟨g, off + 5, none⟩) hg0).trans (hcell 5 b5 rfl))
  have H6 : Hid ((w.alloc (.cells (voteC ⟨0, 0, 0, 0, 0, 0, 0, 0⟩) 26)).cell? ⟨g, off + 6, none⟩ = some (B b6)) := Lib.hid ((hF.1.cell (p := ⟨g, off + 6, none⟩) hg0).trans (hcell 6 b6 rfl))
  have hor := or_i64v b5 b6
  have lo5 := ub_lo b5
  have hi5 := ub_hi b5
  have hw5 : IntKind.i64.wrap (ub b5 * 256) = ub b5 * 256 := by rw [IntKind.wrap_i64]; omega
  have hw0k : IntKind.i64.wrap (ub b0) = ub b0 := by rw [IntKind.wrap_i64]; have := ub_lo b0; have := ub_hi b0; omega
  have hw1k : IntKind.i64.wrap (ub b1) = ub b1 := by rw [IntKind.wrap_i64]; have := ub_lo b1; have := ub_hi b1; omega
  have hw2k : IntKind.i64.wrap (ub b2) = ub b2 := by rw [IntKind.wrap_i64]; have := ub_lo b2; have := ub_hi b2; omega
  have hw3k : IntKind.i64.wrap (ub b3) = ub b3 := by rw [IntKind.wrap_i64]; have := ub_lo b3; have := ub_hi b3; omega
  have hw4k : IntKind.i64.wrap (ub b4) = ub b4 := by rw [IntKind.wrap_i64]; have := ub_lo b4; have := ub_hi b4; omega
  have hw5k : IntKind.i64.wrap (ub b5) = ub b5 := by rw [IntKind.wrap_i64]; have := ub_lo b5; have := ub_hi b5; omega
  have hw6k : IntKind.i64.wrap (ub b6) = ub b6 := by rw [IntKind.wrap_i64]; have := ub_lo b6; have := ub_hi b6; omega
  have hc15 : (15 : Int) ≤ (c : Int) := by omega
  have hc23 : (23 : Int) ≤ (c : Int) := by omega
  have hn7 : ¬ c = 7 := by omega
  have hn15 : ¬ c = 15 := by omega
  clear hr
  go_enter Try.func18, Try.ntmps18
  go_wp2_with fail
  change Code.wp _ _ _ _ (w.alloc (.cells (voteC ⟨0, 0, 0, 0, 0, 0, 0, 0⟩) 26))
  generalize w.alloc (.cells (voteC ⟨0, 0, 0, 0, 0, 0, 0, 0⟩) 26) = W at *
  refine wp_region_held_drew (S := fun w' => Below W.heap.size W w') (by kernel_rfl) (Below.refl _ _).drew (fun hHeld => ?_)
  refine held_pure 0 13 (.slice (some ⟨g, off, none⟩) 23 c) rfl (fun W => by rfl) hHeld ?_
  try simp only [Act.put, List.setIfInBounds_toArray, List.set_cons_zero, List.set_cons_succ]
  refine held_pure 1 14 (.pointer (some ⟨g, off, none⟩)) rfl (fun W => by go_simp) hHeld ?_
  try simp only [Act.put, List.setIfInBounds_toArray, List.set_cons_zero, List.set_cons_succ]
  refine held_if 2 15 (B b0) rfl (fun w' h => by (have hc := (h.cell (p := ⟨g, off, none⟩) hg).trans H0.out; go_simp)) hHeld ?_
  try simp only [Act.put, List.setIfInBounds_toArray, List.set_cons_zero, List.set_cons_succ]
  refine held_pure 3 16 (.int .i64 (ub b0)) rfl (fun W => by go_simp) hHeld ?_
  try simp only [Act.put, List.setIfInBounds_toArray, List.set_cons_zero, List.set_cons_succ]
  refine held_pure 4 17 (.slice (some ⟨g, off, none⟩) 23 c) rfl (fun W => by rfl) hHeld ?_
  try simp only [Act.put, List.setIfInBounds_toArray, List.set_cons_zero, List.set_cons_succ]
  refine held_pure 5 18 (.pointer (some ⟨g, off + 1, none⟩)) rfl (fun W => by go_simp) hHeld ?_
  try simp only [Act.put, List.setIfInBounds_toArray, List.set_cons_zero, List.set_cons_succ]
  refine held_if 6 19 (B b1) rfl (fun w' h => by (have hc := (h.cell (p := ⟨g, off + 1, none⟩) hg).trans H1.out; go_simp)) hHeld ?_
  try simp only [Act.put, List.setIfInBounds_toArray, List.set_cons_zero, List.set_cons_succ]
  refine held_pure 7 20 (.int .i64 (ub b1)) rfl (fun W => by go_simp) hHeld ?_
  try simp only [Act.put, List.setIfInBounds_toArray, List.set_cons_zero, List.set_cons_succ]
  refine held_pure 8 21 (.slice (some ⟨g, off, none⟩) 23 c) rfl (fun W => by rfl) hHeld ?_
  try simp only [Act.put, List.setIfInBounds_toArray, List.set_cons_zero, List.set_cons_succ]
  refine held_pure 9 22 (.pointer (some ⟨g, off + 2, none⟩)) rfl (fun W => by go_simp) hHeld ?_
  try simp only [Act.put, List.setIfInBounds_toArray, List.set_cons_zero, List.set_cons_succ]
  refine held_if 10 23 (B b2) rfl (fun w' h => by (have hc := (h.cell (p := ⟨g, off + 2, none⟩) hg).trans H2.out; go_simp)) hHeld ?_
  try simp only [Act.put, List.setIfInBounds_toArray, List.set_cons_zero, List.set_cons_succ]
  refine held_pure 11 24 (.int .i64 (ub b2)) rfl (fun W => by go_simp) hHeld ?_
  try simp only [Act.put, List.setIfInBounds_toArray, List.set_cons_zero, List.set_cons_succ]
  refine held_pure 12 25 (.slice (some ⟨g, off, none⟩) 23 c) rfl (fun W => by rfl) hHeld ?_
  try simp only [Act.put, List.setIfInBounds_toArray, List.set_cons_zero, List.set_cons_succ]
  refine held_pure 13 26 (.pointer (some ⟨g, off + 3, none⟩)) rfl (fun W => by go_simp) hHeld ?_
  try simp only [Act.put, List.setIfInBounds_toArray, List.set_cons_zero, List.set_cons_succ]
  refine held_if 14 27 (B b3) rfl (fun w' h => by (have hc := (h.cell (p := ⟨g, off + 3, none⟩) hg).trans H3.out; go_simp)) hHeld ?_
  try simp only [Act.put, List.setIfInBounds_toArray, List.set_cons_zero, List.set_cons_succ]
  refine held_pure 15 28 (.int .i64 (ub b3)) rfl (fun W => by go_simp) hHeld ?_
  try simp only [Act.put, List.setIfInBounds_toArray, List.set_cons_zero, List.set_cons_succ]
  refine held_pure 16 29 (.slice (some ⟨g, off, none⟩) 23 c) rfl (fun W => by rfl) hHeld ?_
  try simp only [Act.put, List.setIfInBounds_toArray, List.set_cons_zero, List.set_cons_succ]
  refine held_pure 17 30 (.pointer (some ⟨g, off + 4, none⟩)) rfl (fun W => by go_simp) hHeld ?_
  try simp only [Act.put, List.setIfInBounds_toArray, List.set_cons_zero, List.set_cons_succ]
  refine held_if 18 31 (B b4) rfl (fun w' h => by (have hc := (h.cell (p := ⟨g, off + 4, none⟩) hg).trans H4.out; go_simp)) hHeld ?_
  try simp only [Act.put, List.setIfInBounds_toArray, List.set_cons_zero, List.set_cons_succ]
  refine held_pure 19 32 (.int .i64 (ub b4)) rfl (fun W => by go_simp) hHeld ?_
  try simp only [Act.put, List.setIfInBounds_toArray, List.set_cons_zero, List.set_cons_succ]
  refine held_pure 20 33 (.slice (some ⟨g, off, none⟩) 23 c) rfl (fun W => by rfl) hHeld ?_
  try simp only [Act.put, List.setIfInBounds_toArray, List.set_cons_zero, List.set_cons_succ]
  refine held_pure 21 34 (.pointer (some ⟨g, off + 5, none⟩)) rfl (fun W => by go_simp) hHeld ?_
  try simp only [Act.put, List.setIfInBounds_toArray, List.set_cons_zero, List.set_cons_succ]
  refine held_if 22 35 (B b5) rfl (fun w' h => by (have hc := (h.cell (p := ⟨g, off + 5, none⟩) hg).trans H5.out; go_simp)) hHeld ?_
  try simp only [Act.put, List.setIfInBounds_toArray, List.set_cons_zero, List.set_cons_succ]
  refine held_pure 23 36 (.int .i64 (ub b5)) rfl (fun W => by go_simp) hHeld ?_
  try simp only [Act.put, List.setIfInBounds_toArray, List.set_cons_zero, List.set_cons_succ]
  refine held_pure 24 37 (.int .i64 (ub b5 * 256)) rfl (fun W => by go_simp) hHeld ?_
  try simp only [Act.put, List.setIfInBounds_toArray, List.set_cons_zero, List.set_cons_succ]
  refine held_pure 25 38 (.slice (some ⟨g, off, none⟩) 23 c) rfl (fun W => by rfl) hHeld ?_
  try simp only [Act.put, List.setIfInBounds_toArray, List.set_cons_zero, List.set_cons_succ]
  refine held_pure 26 39 (.pointer (some ⟨g, off + 6, none⟩)) rfl (fun W => by go_simp) hHeld ?_
  try simp only [Act.put, List.setIfInBounds_toArray, List.set_cons_zero, List.set_cons_succ]
  refine held_if 27 40 (B b6) rfl (fun w' h => by (have hc := (h.cell (p := ⟨g, off + 6, none⟩) hg).trans H6.out; go_simp)) hHeld ?_
  try simp only [Act.put, List.setIfInBounds_toArray, List.set_cons_zero, List.set_cons_succ]
  refine held_pure 28 41 (.int .i64 (ub b6)) rfl (fun W => by go_simp) hHeld ?_
  try simp only [Act.put, List.setIfInBounds_toArray, List.set_cons_zero, List.set_cons_succ]
  refine held_pure 29 42 (.int .i64 (ub b5 * 256 + ub b6)) rfl (fun W => by go_simp) hHeld ?_
  try simp only [Act.put, List.setIfInBounds_toArray, List.set_cons_zero, List.set_cons_succ]
  refine held_pure 30 43 (vV ⟨ub b0, ub b1, ub b2, ub b3, ub b4, ub b5 * 256 + ub b6, 0, 0⟩) rfl (fun W => by (first | rfl | kernel_rfl)) hHeld ?_
  try simp only [Act.put, List.setIfInBounds_toArray, List.set_cons_zero, List.set_cons_succ]
  refine held_one (i := 31) (by kernel_rfl) rfl (by rfl) (fun KK hK => ?_)
  go_wp2_with fail
  refine hK.out _ _ (hHeld.trans ((Below.refl _ _).alloc hHeld.size _)) (fun hHeld1 => ?_)
  clear hK KK
  try simp only [Act.put, List.setIfInBounds_toArray, List.set_cons_zero, List.set_cons_succ]
  refine held_one (i := 32) (by kernel_rfl) rfl (by rfl) (fun KK hK => ?_)
  refine oper_store_is 26 (.tmp 4) (.tmp 43) rfl W.heap.size 26 (voteC ⟨0, 0, 0, 0, 0, 0, 0, 0⟩) (voteC ⟨ub b0, ub b1, ub b2, ub b3, ub b4, ub b5 * 256 + ub b6, 0, 0⟩) (by rfl) (by rfl) (Is.drew (Is.new W 26 (voteC ⟨0, 0, 0, 0, 0, 0, 0, 0⟩))) rfl vote_size (voteC_one _) (fun w3 I3 B3 _ => ?_)
  refine hK.out _ _ (hHeld1.trans B3) (fun hHeld2 => ?_)
  clear hK KK
  try simp only [Act.put, List.setIfInBounds_toArray]
  refine wpAnyH_done (by kernel_rfl) ?_ _
  try simp only [Act.put, List.setIfInBounds_toArray, List.set_cons_zero, List.set_cons_succ]
  go_wp2_with fail
  refine wp_region_held_drew (S := fun w' => Below W.heap.size W w') (by kernel_rfl) (hHeld2).drew (fun hS => ?_)
  refine held_pure 0 44 (.pointer (some ⟨W.heap.size, 6, none⟩)) rfl (fun W => by go_simp) hS ?_
  try simp only [Act.put, List.setIfInBounds_toArray, List.set_cons_zero, List.set_cons_succ]
  refine held_pure 1 45 (.slice (some ⟨W.heap.size, 6, none⟩) 8 8) rfl (fun W => by go_simp) hS ?_
  try simp only [Act.put, List.setIfInBounds_toArray, List.set_cons_zero, List.set_cons_succ]
  refine held_pure 2 46 (.slice (some ⟨g, off, none⟩) 23 c) rfl (fun W => by rfl) hS ?_
  try simp only [Act.put, List.setIfInBounds_toArray, List.set_cons_zero, List.set_cons_succ]
  refine held_pure 3 47 (.slice (some ⟨g, off + 7, none⟩) 8 (c - 7)) rfl (fun W => by go_simp) hS ?_
  try simp only [Act.put, List.setIfInBounds_toArray, List.set_cons_zero, List.set_cons_succ]
  refine held_one (i := 4) (by kernel_rfl) rfl (by rfl) (fun KK hK => ?_)
  refine oper_copy_is 48 (.tmp 45) (.tmp 47) 29 rfl 5 Try.underlying29 byte_size W.heap.size 6 8 8 26 (voteC ⟨ub b0, ub b1, ub b2, ub b3, ub b4, ub b5 * 256 + ub b6, 0, 0⟩) ⟨g, off + 7, none⟩ 8 (c - 7) (nmR P) (by rfl) (by rfl) I3.drew rfl (src_cells hcell hg0 (hF.1.trans (Below.mono hS (by have := hF.2; omega))) 7 (nmL P) (by rw [hP.out]; rfl)) (by show _ + 8 ≤ 22; decide) (by simp [Value.oneCell']) (voteC ⟨ub b0, ub b1, ub b2, ub b3, ub b4, ub b5 * 256 + ub b6, P, 0⟩) (by rfl) (fun w4 I4 B5 _ => ?_)
  refine hK.out _ _ (hS.trans B5) (fun hS1 => ?_)
  clear hK KK
  try simp only [Act.put, List.setIfInBounds_toArray, List.set_cons_zero, List.set_cons_succ]
  refine wpAnyH_done (by kernel_rfl) ?_ _
  try simp only [Act.put, List.setIfInBounds_toArray, List.set_cons_zero, List.set_cons_succ]
  go_wp2_with fail
  refine wp_region_held_drew (S := fun w' => Below W.heap.size W w') (by kernel_rfl) (hS1).drew (fun hU => ?_)
  refine held_pure 0 49 (.pointer (some ⟨W.heap.size, 14, none⟩)) rfl (fun W => by go_simp) hU ?_
  try simp only [Act.put, List.setIfInBounds_toArray, List.set_cons_zero, List.set_cons_succ]
  refine held_pure 1 50 (.slice (some ⟨W.heap.size, 14, none⟩) 8 8) rfl (fun W => by go_simp) hU ?_
  try simp only [Act.put, List.setIfInBounds_toArray, List.set_cons_zero, List.set_cons_succ]
  refine held_pure 2 51 (.slice (some ⟨g, off, none⟩) 23 c) rfl (fun W => by rfl) hU ?_
  try simp only [Act.put, List.setIfInBounds_toArray, List.set_cons_zero, List.set_cons_succ]
  refine held_pure 3 52 (.slice (some ⟨g, off + 15, none⟩) 8 (c - 15)) rfl (fun W => by go_simp) hU ?_
  try simp only [Act.put, List.setIfInBounds_toArray, List.set_cons_zero, List.set_cons_succ]
  refine held_one (i := 4) (by kernel_rfl) rfl (by rfl) (fun KK hK => ?_)
  refine oper_copy_is 53 (.tmp 50) (.tmp 52) 29 rfl 5 Try.underlying29 byte_size W.heap.size 14 8 8 26 (voteC ⟨ub b0, ub b1, ub b2, ub b3, ub b4, ub b5 * 256 + ub b6, P, 0⟩) ⟨g, off + 15, none⟩ 8 (c - 15) (nmR V) (by rfl) (by rfl) I4.drew rfl (src_cells hcell hg0 (hF.1.trans (Below.mono hU (by have := hF.2; omega))) 15 (nmL V) (by rw [hV.out]; rfl)) (by show _ + 8 ≤ 22; decide) (by simp [Value.oneCell']) (voteC ⟨ub b0, ub b1, ub b2, ub b3, ub b4, ub b5 * 256 + ub b6, P, V⟩) (by rfl) (fun w5 I5 B5 _ => ?_)
  refine hK.out _ _ (hU.trans B5) (fun hU1 => ?_)
  clear hK KK
  try simp only [Act.put, List.setIfInBounds_toArray, List.set_cons_zero, List.set_cons_succ]
  refine wpAnyH_done (by kernel_rfl) ?_ _
  try simp only [Act.put, List.setIfInBounds_toArray, List.set_cons_zero, List.set_cons_succ]
  have hz5 : Is w5 w.heap.size 26 (voteC ⟨0, 0, 0, 0, 0, 0, 0, 0⟩) := hz.keep hU1 (by have := hF.2; omega)
  have hF5 : Fr w 1 w5 := hF.step hU1 (by have := hF.2; omega)
  go_wp2_with (refine wpList_load_w (by rfl) 26 (.tmp 4) rfl W.heap.size 0 (by rfl) (voteL ⟨ub b0, ub b1, ub b2, ub b3, ub b4, ub b5 * 256 + ub b6, P, V⟩) _ (vote_range I5) Try.underlying26 rfl (by rw [voteL_len]; exact vote_size) ?_)
  refine (rvalid_l ⟨ub b0, ub b1, ub b2, ub b3, ub b4, ub b5 * 256 + ub b6, P, V⟩ HI ok hok _).mono ?_
  rintro e w6 ⟨rfl, hb6⟩
  have hz6 := hz5.next hb6
  have I6 := I5.next hb6
  have hF6 := hF5.next hb6
  have hVL : (voteL ⟨ub b0, ub b1, ub b2, ub b3, ub b4, ub b5 * 256 + ub b6, P, V⟩).toArray = voteC ⟨ub b0, ub b1, ub b2, ub b3, ub b4, ub b5 * 256 + ub b6, P, V⟩ := Array.toArray_toList
  cases ok
  · go_wp2_with (refine wpList_store_is rfl 26 (.tmp 2) (.tmp 57) rfl w.heap.size 26 _ (voteC ⟨0, 0, 0, 0, 0, 0, 0, 0⟩) rfl (by rfl) hz6 rfl vote_size (voteC_one _) ?_; intro w7 hz7 hb7)
    exact ret_is_tmp rfl w.heap.size 26 _ rfl hz7 Try.underlying26 rfl vote_size rfl ⟨rfl, hF6.1.trans hb7⟩
  · go_wp2_with (first
      | refine wpList_load_w (by rfl) 26 (.tmp 4) rfl W.heap.size 0 (by rfl) (voteL ⟨ub b0, ub b1, ub b2, ub b3, ub b4, ub b5 * 256 + ub b6, P, V⟩) _ (vote_range I6) Try.underlying26 rfl (by rw [voteL_len]; exact vote_size) ?_
      | (refine wpList_store_is rfl 26 (.tmp 2) (.tmp 58) rfl w.heap.size 26 _ (voteL ⟨ub b0, ub b1, ub b2, ub b3, ub b4, ub b5 * 256 + ub b6, P, V⟩).toArray rfl rfl hz6 (by rw [hVL]; rfl) (by rw [hVL]; exact vote_size) (by rw [hVL]; exact voteC_one _) ?_; intro w7 hz7 hb7))
    rw [hVL] at hz7
    exact ret_is_tmp rfl w.heap.size 26 _ rfl hz7 Try.underlying26 rfl vote_size rfl ⟨rfl, hF6.1.trans hb7⟩

theorem rdec_short (A : Option Addr) (n c : Nat) (hn : n < 23) (w : World) : Calls Try.prog 18 #[.slice A n c] w fun e w' => e = .returned (.tuple #[vV ⟨0, 0, 0, 0, 0, 0, 0, 0⟩, .int .i64 2]) ∧ Below w.heap.size w w' := by
  have hz := Is.new w 26 (voteC ⟨0, 0, 0, 0, 0, 0, 0, 0⟩)
  have hF := (Fr.refl w).alloc (.cells (voteC ⟨0, 0, 0, 0, 0, 0, 0, 0⟩) 26)
  have h1 : decide ((n : Int) < 23) = true := by simp; omega
  have h1' : (n : Int) < 23 := by omega
  clear hn
  go_enter Try.func18, Try.ntmps18
  go_wp2_with (refine wpList_store_is rfl 26 (.tmp 2) (.tmp 8) rfl w.heap.size 26 _ (voteC ⟨0, 0, 0, 0, 0, 0, 0, 0⟩) rfl (by rfl) hz rfl vote_size (voteC_one _) ?_; intro w7 hz7 hb7)
  exact ret_is_tmp rfl w.heap.size 26 _ rfl hz7 Try.underlying26 rfl vote_size rfl ⟨rfl, hF.1.trans hb7⟩
theorem rdec_long (A : Option Addr) (n c : Nat) (hn : 23 < n) (w : World) : Calls Try.prog 18 #[.slice A n c] w fun e w' => e = .returned (.tuple #[vV ⟨0, 0, 0, 0, 0, 0, 0, 0⟩, .int .i64 3]) ∧ Below w.heap.size w w' := by
  have hz := Is.new w 26 (voteC ⟨0, 0, 0, 0, 0, 0, 0, 0⟩)
  have hF := (Fr.refl w).alloc (.cells (voteC ⟨0, 0, 0, 0, 0, 0, 0, 0⟩) 26)
  have h1 : decide ((n : Int) < 23) = false := by simp; omega
  have h1' : ¬ (n : Int) < 23 := by omega
  have h2 : decide ((n : Int) > 23) = true := by simp; omega
  have h2' : (23 : Int) < (n : Int) := by omega
  clear hn
  go_enter Try.func18, Try.ntmps18
  go_wp2_with (refine wpList_store_is rfl 26 (.tmp 2) (.tmp 12) rfl w.heap.size 26 _ (voteC ⟨0, 0, 0, 0, 0, 0, 0, 0⟩) rfl (by rfl) hz rfl vote_size (voteC_one _) ?_; intro w7 hz7 hb7)
  exact ret_is_tmp rfl w.heap.size 26 _ rfl hz7 Try.underlying26 rfl vote_size rfl ⟨rfl, hF.1.trans hb7⟩
/-- Decode, for any bytes. -/
theorem rdec_any (v : Value) (l : List UInt8) (w : World) (h : VB w v l) : Calls Try.prog 18 #[v] w fun e w' => e = .returned (.tuple #[vV (decF l).1, .int .i64 (decF l).2]) ∧ Below w.heap.size w w' := by
  obtain ⟨A, c, rfl, h1, h2, hr⟩ := h
  by_cases hs : l.length < 23
  · have e : decF l = (⟨0, 0, 0, 0, 0, 0, 0, 0⟩, 2) := by unfold decF; rw [if_pos hs]
    rw [e]
    exact rdec_short A _ c hs w
  by_cases hg : 23 < l.length
  · have e : decF l = (⟨0, 0, 0, 0, 0, 0, 0, 0⟩, 3) := by unfold decF; rw [if_neg hs, if_pos hg]
    rw [e]
    exact rdec_long A _ c hg w
  have hl : l.length = 23 := by omega
  obtain ⟨ok, hok⟩ : ∃ ok, validF (voteOf l) = ok := ⟨_, rfl⟩
  have e : decF l = (if ok then voteOf l else ⟨0, 0, 0, 0, 0, 0, 0, 0⟩, if ok then 0 else 11) := by
    unfold decF
    rw [if_neg hs, if_neg hg, hok]
    cases ok <;> rfl
  rw [e]
  have hI := voteOf_I l
  rw [hl]
  rw [hl] at h1
  obtain ⟨b0, b1, b2, b3, b4, b5, b6, b7, b8, b9, b10, b11, b12, b13, b14, b15, b16, b17, b18, b19, b20, b21, b22, rfl⟩ := list_23 l hl
  have hP : nmL (wordOf ([b0, b1, b2, b3, b4, b5, b6, b7, b8, b9, b10, b11, b12, b13, b14, b15, b16, b17, b18, b19, b20, b21, b22].drop 7)) = [b7, b8, b9, b10, b11, b12, b13, b14] := by rw [nmL_wordOf]; rfl
  have hV : nmL (wordOf ([b0, b1, b2, b3, b4, b5, b6, b7, b8, b9, b10, b11, b12, b13, b14, b15, b16, b17, b18, b19, b20, b21, b22].drop 15)) = [b15, b16, b17, b18, b19, b20, b21, b22] := by rw [nmL_wordOf]; rfl
  refine (rdec_23 b0 b1 b2 b3 b4 b5 b6 b7 b8 b9 b10 b11 b12 b13 b14 b15 b16 b17 b18 b19 b20 b21 b22 A c h1 h2 w hr _ _ (Lib.hid hP) (Lib.hid hV) ok hI (Lib.hid hok)).mono ?_
  rintro e1 w1 ⟨rfl, hb⟩
  exact ⟨by cases ok <;> rfl, hb⟩
end Go.Proofs.Ytpnmmfacnflngaa
