/-
  forkledgerref1's one-time signatures: Digits.
-/
import Derived.Test.YtjfmccehiaeggaaR4Chain
import Derived.Test.YtjfmccehiaeggaaInts
namespace Go.Proofs.Ytjfmccehiaeggaa
open Go.ChangeShapes Go.WideShapes Go.ChangeAt Go.RowKit Go.Fl

theorem info_int : (Try.prog.info? 3).map (fun i => (i.zero, i.size, i.bytes)) = some (some (.int .i64 0), 1, 8) := by kernel_rfl

/-- What Digits answers. -/
def RetI (w : World) (l : List Nat) (e : Ending) (w' : World) : Prop := ∃ v, e = .returned v ∧ OI w' w.heap.size 3 v l ∧ Below w.heap.size w w'

set_option maxHeartbeats 1000000 in
theorem rdigits_any (m : BitVec 64) (w : World) :
    Calls Try.prog 10 #[nm m] w (RetI w (digF m)) := by
  obtain ⟨i0, hi, hz0, hz1, hz2⟩ := info_parts info_int
  have HI := Lib.hid hi
  have HZ0 := Lib.hid hz0
  have HZ1 := Lib.hid hz1
  have HZ2 := Lib.hid hz2
  have hb := Is.new w 23 (nmC m)
  have hF := (Fr.refl w).alloc (.cells (nmC m) 23)
  clear hi hz0 hz1 hz2
  go_enter Try.func10, Try.ntmps10
  go_wp2
  generalize w.alloc (.cells (nmC m) 23) = W at *
  go_loopw [3, 4, 5] (fun v s i wr => ∃ k S : Nat, k ≤ 8 ∧ i = .int .i64 (k : Int) ∧ s = .int .i64 ((240 : Int) - (S : Int)) ∧ S ≤ 240 ∧ Hid (S = ((halfs m).take (2 * k)).sum) ∧ OI wr (w.heap.size + 1) 3 v ((halfs m).take (2 * k)) ∧ Is wr w.heap.size 23 (nmC m) ∧ Fr w 1 wr) (fun _ _ i _ => 8 - (intOf i).toNat)
  case atStart => exact ⟨0, 0, by omega, rfl, by simp, by omega, Lib.hid rfl, OI.nil _ _ _, hb, hF⟩
  case round =>
    clear hb hF
    obtain ⟨k, S, hk, rfl, rfl, hS, hSS, hob, hb, hF⟩ := hrel
    have S0 : (0 : Int) ≤ (S : Int) := by omega
    have S1 : (S : Int) ≤ 240 := by omega
    by_cases hlt : k < 8
    · have s1 : (k : Int) < 8 := by omega
      have k0 : (0 : Int) ≤ (k : Int) := by omega
      obtain ⟨b, hbk⟩ : ∃ b, nb m k = b := ⟨_, rfl⟩
      have hcell := nmC_at m k hlt
      have hsn := halfs_snoc m k hlt
      have hle := half_sum m (k + 1) (by omega)
      rw [hbk] at hcell hsn
      obtain ⟨p, hp⟩ : ∃ p, b.toNat / 16 = p := ⟨_, rfl⟩
      obtain ⟨q, hq⟩ : ∃ q, b.toNat % 16 = q := ⟨_, rfl⟩
      have hsh := shr_4 b
      have han := and_15 b
      rw [hp] at hsn hsh
      rw [hq] at hsn han
      have hb255 := b.toNat_lt
      have hp15 : p ≤ 15 := by omega
      have hq15 : q ≤ 15 := by omega
      have hsum : S + p + q = ((halfs m).take (2 * (k + 1))).sum := by rw [← hsn, List.sum_append, ← hSS.out]; simp; omega
      have hs240 : S + p + q ≤ 240 := by omega
      have HSUM := Lib.hid hsum
      have HSN := Lib.hid hsn
      have HC : Hid ((nmC m)[k]? = some (B b)) := Lib.hid hcell
      have blo := ub_lo b
      have bhi := ub_hi b
      have p0 : (0 : Int) ≤ (p : Int) := by omega
      have p1 : (p : Int) ≤ 15 := by omega
      have q0 : (0 : Int) ≤ (q : Int) := by omega
      have q1 : (q : Int) ≤ 15 := by omega
      have hwp : IntKind.i64.wrap (p : Int) = (p : Int) := by rw [IntKind.wrap_i64]; omega
      have hwq : IntKind.i64.wrap (q : Int) = (q : Int) := by rw [IntKind.wrap_i64]; omega
      have hw8p : IntKind.u8.wrap (p : Int) = (p : Int) := by rw [IntKind.wrap_u8]; omega
      have hw8q : IntKind.u8.wrap (q : Int) = (q : Int) := by rw [IntKind.wrap_u8]; omega
      have hws : IntKind.i64.wrap ((240 : Int) - (S : Int) - (p : Int)) = (240 : Int) - (S : Int) - (p : Int) := by rw [IntKind.wrap_i64]; omega
      have hws2 : IntKind.i64.wrap ((240 : Int) - (S : Int) - (p : Int) - (q : Int)) = (240 : Int) - (S : Int) - (p : Int) - (q : Int) := by rw [IntKind.wrap_i64]; omega
      obtain ⟨A1, n1, c1, rfl, hn1, hc1, hm1, -⟩ := hob.form_n
      have hol : Hid (((halfs m).take (2 * k)).length = n1) := Lib.hid hn1.out.symm
      have hlen : ((halfs m).take (2 * k)).length ≤ 16 := by rw [List.length_take, halfs_len]; omega
      have HLEN := Lib.hid hlen
      clear hcell hsn hle hbk hp hq hsum hlen
      go_wp2
      refine wp_region_held_drew (S := fun w' => Is w' w.heap.size 23 (nmC m) ∧ Fr w 1 w') (by kernel_rfl) ⟨hb.drew, hF.drew⟩ (fun hHeld => ?_)
      refine held_pure 0 10 (.slice A1 n1 c1) rfl (fun W => by rfl) hHeld ?_
      try simp only [Act.put, List.setIfInBounds_toArray, List.set_cons_zero, List.set_cons_succ]
      refine held_pure 1 11 (.int .i64 (k : Int)) rfl (fun W => by rfl) hHeld ?_
      try simp only [Act.put, List.setIfInBounds_toArray, List.set_cons_zero, List.set_cons_succ]
      refine held_pure 2 12 (.pointer (some ⟨w.heap.size, k, none⟩)) rfl (fun W => by go_simp) hHeld ?_
      try simp only [Act.put, List.setIfInBounds_toArray, List.set_cons_zero, List.set_cons_succ]
      refine held_if 3 13 (B b) rfl (fun w' h => by (have hc := (h.1.cell k).trans HC.out; go_simp)) hHeld ?_
      try simp only [Act.put, List.setIfInBounds_toArray, List.set_cons_zero, List.set_cons_succ]
      refine held_pure 4 14 (.int .u8 (p : Int)) rfl (fun W => by go_simp) hHeld ?_
      try simp only [Act.put, List.setIfInBounds_toArray, List.set_cons_zero, List.set_cons_succ]
      refine held_pure 5 15 (.int .i64 (p : Int)) rfl (fun W => by go_simp) hHeld ?_
      try simp only [Act.put, List.setIfInBounds_toArray, List.set_cons_zero, List.set_cons_succ]
      refine held_pure 6 16 (.int .i64 (k : Int)) rfl (fun W => by rfl) hHeld ?_
      try simp only [Act.put, List.setIfInBounds_toArray, List.set_cons_zero, List.set_cons_succ]
      refine held_pure 7 17 (.pointer (some ⟨w.heap.size, k, none⟩)) rfl (fun W => by go_simp) hHeld ?_
      try simp only [Act.put, List.setIfInBounds_toArray, List.set_cons_zero, List.set_cons_succ]
      refine held_if 8 18 (B b) rfl (fun w' h => by (have hc := (h.1.cell k).trans HC.out; go_simp)) hHeld ?_
      try simp only [Act.put, List.setIfInBounds_toArray, List.set_cons_zero, List.set_cons_succ]
      refine held_pure 9 19 (.int .u8 (q : Int)) rfl (fun W => by go_simp) hHeld ?_
      try simp only [Act.put, List.setIfInBounds_toArray, List.set_cons_zero, List.set_cons_succ]
      refine held_pure 10 20 (.int .i64 (q : Int)) rfl (fun W => by go_simp) hHeld ?_
      try simp only [Act.put, List.setIfInBounds_toArray, List.set_cons_zero, List.set_cons_succ]
      refine held_one (i := 11) (by kernel_rfl) rfl (by rfl) (fun KK hK => ?_)
      go_wp2_with fail
      refine hK.out _ _ ⟨hHeld.1.old _, (hHeld.2.alloc _).le (by omega)⟩ (fun hHeld1 => ?_)
      clear hK KK
      try simp only [Act.put, List.setIfInBounds_toArray, List.set_cons_zero, List.set_cons_succ]
      have hn9 : Is (wr.drew.alloc (.cells (iC [p, q]).toArray 3)) wr.heap.size 3 (iC [p, q]).toArray := Is.new wr.drew _ _
      have hob9 : OI (wr.drew.alloc (.cells (iC [p, q]).toArray 3)) (w.heap.size + 1) 3 (.slice A1 n1 c1) ((halfs m).take (2 * k)) := OI.keep (w := wr.drew) hob ((Below.refl _ _).alloc (Nat.le_refl _) _)
      have hFb := hHeld1.2.2
      refine held_one (i := 12) (by kernel_rfl) rfl (by rfl) (fun KK hK => ?_)
      refine oper_append_oi 22 (.tmp 10) (.tmp 21) 24 rfl (w.heap.size + 1) 3 i0 _ Try.underlying24 HI.out HZ0.out rfl HZ1.out HZ2.out (.slice A1 n1 c1) ((halfs m).take (2 * k)) rfl hob9 [p, q] wr.heap.size 2 3 rfl rfl hn9 (by (have := HLEN.out; simp; omega)) hFb ?_
      intro v2 w2 hob2 hg2
      refine hK.out _ _ ⟨hHeld1.1.grown hg2 (fun z hz => by have := hob9.own z hz; omega), hHeld1.2.grown hg2 (fun z hz => by have := hob9.own z hz; omega)⟩ (fun hHeld2 => ?_)
      clear hK KK
      try simp only [Act.put, List.setIfInBounds_toArray, List.set_cons_zero, List.set_cons_succ]
      refine held_pure 13 3 (v2) rfl (fun W => by rfl) hHeld2 ?_
      try simp only [Act.put, List.setIfInBounds_toArray, List.set_cons_zero, List.set_cons_succ]
      refine wpAnyH_done (by kernel_rfl) ?_ _
      try simp only [Act.put, List.setIfInBounds_toArray, List.set_cons_zero, List.set_cons_succ]
      have hb3 := hHeld2.1
      have hF3 := hHeld2.2
      rw [HSN.out] at hob2
      clear hn9 hob9 hFb hob hb hF
      go_wp2_with fail
      refine wp_region_held_drew (S := fun w' => Is w' w.heap.size 23 (nmC m) ∧ Fr w 1 w') (by kernel_rfl) ⟨hb3.drew, hF3.drew⟩ (fun hG => ?_)
      refine held_pure 0 23 (.int .i64 ((240 : Int) - (S : Int))) rfl (fun W => by rfl) hG ?_
      try simp only [Act.put, List.setIfInBounds_toArray, List.set_cons_zero, List.set_cons_succ]
      refine held_pure 1 24 (.int .i64 (k : Int)) rfl (fun W => by rfl) hG ?_
      try simp only [Act.put, List.setIfInBounds_toArray, List.set_cons_zero, List.set_cons_succ]
      refine held_pure 2 25 (.pointer (some ⟨w.heap.size, k, none⟩)) rfl (fun W => by go_simp) hG ?_
      try simp only [Act.put, List.setIfInBounds_toArray, List.set_cons_zero, List.set_cons_succ]
      refine held_if 3 26 (B b) rfl (fun w' h => by (have hc := (h.1.cell k).trans HC.out; go_simp)) hG ?_
      try simp only [Act.put, List.setIfInBounds_toArray, List.set_cons_zero, List.set_cons_succ]
      refine held_pure 4 27 (.int .u8 (p : Int)) rfl (fun W => by go_simp) hG ?_
      try simp only [Act.put, List.setIfInBounds_toArray, List.set_cons_zero, List.set_cons_succ]
      refine held_pure 5 28 (.int .i64 (p : Int)) rfl (fun W => by go_simp) hG ?_
      try simp only [Act.put, List.setIfInBounds_toArray, List.set_cons_zero, List.set_cons_succ]
      refine held_pure 6 29 (.int .i64 ((240 : Int) - (S : Int) - (p : Int))) rfl (fun W => by go_simp) hG ?_
      try simp only [Act.put, List.setIfInBounds_toArray, List.set_cons_zero, List.set_cons_succ]
      refine held_pure 7 30 (.int .i64 (k : Int)) rfl (fun W => by rfl) hG ?_
      try simp only [Act.put, List.setIfInBounds_toArray, List.set_cons_zero, List.set_cons_succ]
      refine held_pure 8 31 (.pointer (some ⟨w.heap.size, k, none⟩)) rfl (fun W => by go_simp) hG ?_
      try simp only [Act.put, List.setIfInBounds_toArray, List.set_cons_zero, List.set_cons_succ]
      refine held_if 9 32 (B b) rfl (fun w' h => by (have hc := (h.1.cell k).trans HC.out; go_simp)) hG ?_
      try simp only [Act.put, List.setIfInBounds_toArray, List.set_cons_zero, List.set_cons_succ]
      refine held_pure 10 33 (.int .u8 (q : Int)) rfl (fun W => by go_simp) hG ?_
      try simp only [Act.put, List.setIfInBounds_toArray, List.set_cons_zero, List.set_cons_succ]
      refine held_pure 11 34 (.int .i64 (q : Int)) rfl (fun W => by go_simp) hG ?_
      try simp only [Act.put, List.setIfInBounds_toArray, List.set_cons_zero, List.set_cons_succ]
      refine held_pure 12 35 (.int .i64 ((240 : Int) - (S : Int) - (p : Int) - (q : Int))) rfl (fun W => by go_simp) hG ?_
      try simp only [Act.put, List.setIfInBounds_toArray, List.set_cons_zero, List.set_cons_succ]
      refine held_pure 13 4 (.int .i64 ((240 : Int) - (S : Int) - (p : Int) - (q : Int))) rfl (fun W => by rfl) hG ?_
      try simp only [Act.put, List.setIfInBounds_toArray, List.set_cons_zero, List.set_cons_succ]
      refine wpAnyH_done (by kernel_rfl) ?_ _
      try simp only [Act.put, List.setIfInBounds_toArray, List.set_cons_zero, List.set_cons_succ]
      go_wp2_with fail
      go_roundw
      case rel => exact ⟨k + 1, S + p + q, by omega, by go_num, by go_num, by omega, Lib.hid HSUM.out, hob2, hb3.drew, hF3.drew⟩
      case measure => simp [intOf]; omega
    · obtain rfl : k = 8 := by omega
      have hR : restF m = 240 - S := by unfold restF; rw [hSS.out]; rfl
      obtain ⟨R, hRR⟩ : ∃ R, 240 - S = R := ⟨_, rfl⟩
      rw [hRR] at hR
      have e1 : (240 : Int) - (S : Int) = (R : Int) := by omega
      have hR2 : R ≤ 240 := by omega
      have t1 : ((R : Int)).tdiv 16 = ((R / 16 : Nat) : Int) := by rw [Int.tdiv_eq_ediv_of_nonneg (by omega)]; omega
      have t2 : ((R : Int)).tmod 16 = ((R % 16 : Nat) : Int) := by rw [Int.tmod_eq_emod_of_nonneg (by omega)]; omega
      have hD : Hid (halfs m ++ [R / 16, R % 16] = digF m) := Lib.hid (by unfold digF; rw [hR])
      have hob8 : OI wr (w.heap.size + 1) 3 _ (halfs m) := hob
      obtain ⟨x1, hx1⟩ : ∃ x, R / 16 = x := ⟨_, rfl⟩
      obtain ⟨x2, hx2⟩ : ∃ x, R % 16 = x := ⟨_, rfl⟩
      rw [hx1] at t1 hD
      rw [hx2] at t2 hD
      have y1 : (x1 : Int) ≤ 15 := by omega
      have y2 : (x2 : Int) ≤ 15 := by omega
      have y3 : (0 : Int) ≤ (x1 : Int) := by omega
      have y4 : (0 : Int) ≤ (x2 : Int) := by omega
      have hFb := hF.2
      rw [e1]
      clear hSS hob hb hR hRR e1 hx1 hx2
      go_wp2_with (first
        | (at_builtin; refine wpList_append_oi rfl 42 (.tmp 36) (.tmp 41) 24 rfl (w.heap.size + 1) 3 i0 _ Try.underlying24 HI.out HZ0.out rfl HZ1.out HZ2.out _ (halfs m) rfl (hob8.keep ((Below.refl _ _).alloc (Nat.le_refl _) _)) [x1, x2] wr.heap.size 2 3 rfl rfl (Is.new wr 3 _) (by (have := halfs_len m; simp; omega)) (by simp; omega) ?_; intro v2 w2 hob2 hg2; have hF2 := (hF.alloc _).grown hg2 (fun z hz => by (have := hob8.own z hz; omega)))
        | fail)
      go_ret
      exact ⟨_, rfl, by rw [hD.out] at hob2; exact hob2.base_le (by omega), hF2.1⟩
end Go.Proofs.Ytjfmccehiaeggaa
