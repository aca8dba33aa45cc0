/-
  7 texts in one file: R4Dig, R4Sign, OneS, R4Ref, HNum, HMix, HAbs.
-/
import Derived.Test.YtjghengkpbokaaaG2
import Derived.Test.YtjghengkpbokaaaG5

/-
  forkledgerref1's one-time signatures: Digits.
-/
namespace Go.Proofs.Ytjghengkpbokaaa
open Go.ChangeShapes Go.WideShapes Go.ChangeAt Go.RowKit Go.Fl

theorem info_int : (Try.prog.info? 3).map (fun i => (i.zero, i.size, i.bytes)) = some (some (.int .i64 0), 1, 8) := by kernel_rfl

/-- What Digits answers. -/
def RetI (w : World) (l : List Nat) (e : Ending) (w' : World) : Prop := ∃ v, e = .returned v ∧ OI w' w.heap.size 3 v l ∧ Below w.heap.size w w'

set_option maxRecDepth 10000 in
set_option maxHeartbeats 1000000 in
theorem rdigits_any (m : BitVec 64) (w : World) :
    Calls Try.prog 46 #[nm m] w (RetI w (digF m)) := by
  obtain ⟨i0, hi, hz0, hz1, hz2⟩ := info_parts info_int
  have HI := Lib.hid hi
  have HZ0 := Lib.hid hz0
  have HZ1 := Lib.hid hz1
  have HZ2 := Lib.hid hz2
  have hb := Is.new w 30 (nmC m)
  have hF := (Fr.refl w).alloc (.cells (nmC m) 30)
  clear hi hz0 hz1 hz2
  go_enter Try.func46, Try.ntmps46
  go_wp2
  generalize w.alloc (.cells (nmC m) 30) = W at *
  go_loopw [3, 4, 5] (fun v s i wr => ∃ k S : Nat, k ≤ 8 ∧ i = .int .i64 (k : Int) ∧ s = .int .i64 ((240 : Int) - (S : Int)) ∧ S ≤ 240 ∧ Hid (S = ((halfs m).take (2 * k)).sum) ∧ OI wr (w.heap.size + 1) 3 v ((halfs m).take (2 * k)) ∧ Is wr w.heap.size 30 (nmC m) ∧ Fr w 1 wr) (fun _ _ i _ => 8 - (intOf i).toNat)
  case atStart => exact ⟨0, 0, by omega, rfl, by simp, by omega, Lib.hid rfl, OI.nil _ _ _, hb, hF⟩
  case round =>
    clear hb hF
    obtain ⟨k, S, hk, rfl, rfl, hS, hSS, hob, hb, hF⟩ := hrel
    have S0 : (0 : Int) ≤ (S : Int) := by omega
    have S1 : (S : Int) ≤ 240 := by omega
    by_cases hlt : k < 8
    · have s1 : (k : Int) < 8 := by omega
      have k0 : (0 : Int) ≤ (k : Int) := by omega
      obtain ⟨b, hbk⟩ : ∃ b, nb m k = b := ⟨_, rfl⟩
      have hcell := nmC_at m k hlt
      have hsn := halfs_snoc m k hlt
      have hle := half_sum m (k + 1) (by omega)
      rw [hbk] at hcell hsn
      obtain ⟨p, hp⟩ : ∃ p, b.toNat / 16 = p := ⟨_, rfl⟩
      obtain ⟨q, hq⟩ : ∃ q, b.toNat % 16 = q := ⟨_, rfl⟩
      have hsh := shr_4 b
      have han := and_15 b
      rw [hp] at hsn hsh
      rw [hq] at hsn han
      have hb255 := b.toNat_lt
      have hp15 : p ≤ 15 := by omega
      have hq15 : q ≤ 15 := by omega
      have hsum : S + p + q = ((halfs m).take (2 * (k + 1))).sum := by rw [← hsn, List.sum_append, ← hSS.out]; simp; omega
      have hs240 : S + p + q ≤ 240 := by omega
      have HSUM := Lib.hid hsum
      have HSN := Lib.hid hsn
      have HC : Hid ((nmC m)[k]? = some (B b)) := Lib.hid hcell
      have blo := ub_lo b
      have bhi := ub_hi b
      have p0 : (0 : Int) ≤ (p : Int) := by omega
      have p1 : (p : Int) ≤ 15 := by omega
      have q0 : (0 : Int) ≤ (q : Int) := by omega
      have q1 : (q : Int) ≤ 15 := by omega
      have hwp : IntKind.i64.wrap (p : Int) = (p : Int) := by rw [IntKind.wrap_i64]; omega
      have hwq : IntKind.i64.wrap (q : Int) = (q : Int) := by rw [IntKind.wrap_i64]; omega
      have hw8p : IntKind.u8.wrap (p : Int) = (p : Int) := by rw [IntKind.wrap_u8]; omega
      have hw8q : IntKind.u8.wrap (q : Int) = (q : Int) := by rw [IntKind.wrap_u8]; omega
      have hws : IntKind.i64.wrap ((240 : Int) - (S : Int) - (p : Int)) = (240 : Int) - (S : Int) - (p : Int) := by rw [IntKind.wrap_i64]; omega
      have hws2 : IntKind.i64.wrap ((240 : Int) - (S : Int) - (p : Int) - (q : Int)) = (240 : Int) - (S : Int) - (p : Int) - (q : Int) := by rw [IntKind.wrap_i64]; omega
      obtain ⟨A1, n1, c1, rfl, hn1, hc1, hm1, -⟩ := hob.form_n
      have hol : Hid (((halfs m).take (2 * k)).length = n1) := Lib.hid hn1.out.symm
      have hlen : ((halfs m).take (2 * k)).length ≤ 16 := by rw [List.length_take, halfs_len]; omega
      have HLEN := Lib.hid hlen
      clear hcell hsn hle hbk hp hq hsum hlen
      go_wp2
      refine wp_region_held_drew (S := fun w' => Is w' w.heap.size 30 (nmC m) ∧ Fr w 1 w') (by kernel_rfl) ⟨hb.drew, hF.drew⟩ (fun hHeld => ?_)
      refine held_pure 0 10 (.slice A1 n1 c1) rfl (fun W => by rfl) hHeld ?_
      try simp only [Act.put, List.setIfInBounds_toArray, List.set_cons_zero, List.set_cons_succ]
      refine held_pure 1 11 (.int .i64 (k : Int)) rfl (fun W => by rfl) hHeld ?_
      try simp only [Act.put, List.setIfInBounds_toArray, List.set_cons_zero, List.set_cons_succ]
      refine held_pure 2 12 (.pointer (some ⟨w.heap.size, k, none⟩)) rfl (fun W => by go_simp) hHeld ?_
      try simp only [Act.put, List.setIfInBounds_toArray, List.set_cons_zero, List.set_cons_succ]
      refine held_if 3 13 (B b) rfl (fun w' h => by (have hc := (h.1.cell k).trans HC.out; go_simp)) hHeld ?_
      try simp only [Act.put, List.setIfInBounds_toArray, List.set_cons_zero, List.set_cons_succ]
      refine held_pure 4 14 (.int .u8 (p : Int)) rfl (fun W => by go_simp) hHeld ?_
      try simp only [Act.put, List.setIfInBounds_toArray, List.set_cons_zero, List.set_cons_succ]
      refine held_pure 5 15 (.int .i64 (p : Int)) rfl (fun W => by go_simp) hHeld ?_
      try simp only [Act.put, List.setIfInBounds_toArray, List.set_cons_zero, List.set_cons_succ]
      refine held_pure 6 16 (.int .i64 (k : Int)) rfl (fun W => by rfl) hHeld ?_
      try simp only [Act.put, List.setIfInBounds_toArray, List.set_cons_zero, List.set_cons_succ]
      refine held_pure 7 17 (.pointer (some ⟨w.heap.size, k, none⟩)) rfl (fun W => by go_simp) hHeld ?_
      try simp only [Act.put, List.setIfInBounds_toArray, List.set_cons_zero, List.set_cons_succ]
      refine held_if 8 18 (B b) rfl (fun w' h => by (have hc := (h.1.cell k).trans HC.out; go_simp)) hHeld ?_
      try simp only [Act.put, List.setIfInBounds_toArray, List.set_cons_zero, List.set_cons_succ]
      refine held_pure 9 19 (.int .u8 (q : Int)) rfl (fun W => by go_simp) hHeld ?_
      try simp only [Act.put, List.setIfInBounds_toArray, List.set_cons_zero, List.set_cons_succ]
      refine held_pure 10 20 (.int .i64 (q : Int)) rfl (fun W => by go_simp) hHeld ?_
      try simp only [Act.put, List.setIfInBounds_toArray, List.set_cons_zero, List.set_cons_succ]
      refine held_one (i := 11) (by kernel_rfl) rfl (by rfl) (fun KK hK => ?_)
      go_wp2_with fail
      refine hK.out _ _ ⟨hHeld.1.old _, (hHeld.2.alloc _).le (by omega)⟩ (fun hHeld1 => ?_)
      clear hK KK
      try simp only [Act.put, List.setIfInBounds_toArray, List.set_cons_zero, List.set_cons_succ]
      have hn9 : Is (wr.drew.alloc (.cells (iC [p, q]).toArray 3)) wr.heap.size 3 (iC [p, q]).toArray := Is.new wr.drew _ _
      have hob9 : OI (wr.drew.alloc (.cells (iC [p, q]).toArray 3)) (w.heap.size + 1) 3 (.slice A1 n1 c1) ((halfs m).take (2 * k)) := OI.keep (w := wr.drew) hob ((Below.refl _ _).alloc (Nat.le_refl _) _)
      have hFb := hHeld1.2.2
      refine held_one (i := 12) (by kernel_rfl) rfl (by rfl) (fun KK hK => ?_)
      refine oper_append_oi 22 (.tmp 10) (.tmp 21) 38 rfl (w.heap.size + 1) 3 i0 _ Try.underlying38 HI.out HZ0.out rfl HZ1.out HZ2.out (.slice A1 n1 c1) ((halfs m).take (2 * k)) rfl hob9 [p, q] wr.heap.size 2 3 rfl rfl hn9 (by (have := HLEN.out; simp; omega)) hFb ?_
      intro v2 w2 hob2 hg2
      refine hK.out _ _ ⟨hHeld1.1.grown hg2 (fun z hz => by have := hob9.own z hz; omega), hHeld1.2.grown hg2 (fun z hz => by have := hob9.own z hz; omega)⟩ (fun hHeld2 => ?_)
      clear hK KK
      try simp only [Act.put, List.setIfInBounds_toArray, List.set_cons_zero, List.set_cons_succ]
      refine held_pure 13 3 (v2) rfl (fun W => by rfl) hHeld2 ?_
      try simp only [Act.put, List.setIfInBounds_toArray, List.set_cons_zero, List.set_cons_succ]
      refine wpAnyH_done (by kernel_rfl) ?_ _
      try simp only [Act.put, List.setIfInBounds_toArray, List.set_cons_zero, List.set_cons_succ]
      have hb3 := hHeld2.1
      have hF3 := hHeld2.2
      rw [HSN.out] at hob2
      clear hn9 hob9 hFb hob hb hF
      go_wp2_with fail
      refine wp_region_held_drew (S := fun w' => Is w' w.heap.size 30 (nmC m) ∧ Fr w 1 w') (by kernel_rfl) ⟨hb3.drew, hF3.drew⟩ (fun hG => ?_)
      refine held_pure 0 23 (.int .i64 ((240 : Int) - (S : Int))) rfl (fun W => by rfl) hG ?_
      try simp only [Act.put, List.setIfInBounds_toArray, List.set_cons_zero, List.set_cons_succ]
      refine held_pure 1 24 (.int .i64 (k : Int)) rfl (fun W => by rfl) hG ?_
      try simp only [Act.put, List.setIfInBounds_toArray, List.set_cons_zero, List.set_cons_succ]
      refine held_pure 2 25 (.pointer (some ⟨w.heap.size, k, none⟩)) rfl (fun W => by go_simp) hG ?_
      try simp only [Act.put, List.setIfInBounds_toArray, List.set_cons_zero, List.set_cons_succ]
      refine held_if 3 26 (B b) rfl (fun w' h => by (have hc := (h.1.cell k).trans HC.out; go_simp)) hG ?_
      try simp only [Act.put, List.setIfInBounds_toArray, List.set_cons_zero, List.set_cons_succ]
      refine held_pure 4 27 (.int .u8 (p : Int)) rfl (fun W => by go_simp) hG ?_
      try simp only [Act.put, List.setIfInBounds_toArray, List.set_cons_zero, List.set_cons_succ]
      refine held_pure 5 28 (.int .i64 (p : Int)) rfl (fun W => by go_simp) hG ?_
      try simp only [Act.put, List.setIfInBounds_toArray, List.set_cons_zero, List.set_cons_succ]
      refine held_pure 6 29 (.int .i64 ((240 : Int) - (S : Int) - (p : Int))) rfl (fun W => by go_simp) hG ?_
      try simp only [Act.put, List.setIfInBounds_toArray, List.set_cons_zero, List.set_cons_succ]
      refine held_pure 7 30 (.int .i64 (k : Int)) rfl (fun W => by rfl) hG ?_
      try simp only [Act.put, List.setIfInBounds_toArray, List.set_cons_zero, List.set_cons_succ]
      refine held_pure 8 31 (.pointer (some ⟨w.heap.size, k, none⟩)) rfl (fun W => by go_simp) hG ?_
      try simp only [Act.put, List.setIfInBounds_toArray, List.set_cons_zero, List.set_cons_succ]
      refine held_if 9 32 (B b) rfl (fun w' h => by (have hc := (h.1.cell k).trans HC.out; go_simp)) hG ?_
      try simp only [Act.put, List.setIfInBounds_toArray, List.set_cons_zero, List.set_cons_succ]
      refine held_pure 10 33 (.int .u8 (q : Int)) rfl (fun W => by go_simp) hG ?_
      try simp only [Act.put, List.setIfInBounds_toArray, List.set_cons_zero, List.set_cons_succ]
      refine held_pure 11 34 (.int .i64 (q : Int)) rfl (fun W => by go_simp) hG ?_
      try simp only [Act.put, List.setIfInBounds_toArray, List.set_cons_zero, List.set_cons_succ]
      refine held_pure 12 35 (.int .i64 ((240 : Int) - (S : Int) - (p : Int) - (q : Int))) rfl (fun W => by go_simp) hG ?_
      try simp only [Act.put, List.setIfInBounds_toArray, List.set_cons_zero, List.set_cons_succ]
      refine held_pure 13 4 (.int .i64 ((240 : Int) - (S : Int) - (p : Int) - (q : Int))) rfl (fun W => by rfl) hG ?_
      try simp only [Act.put, List.setIfInBounds_toArray, List.set_cons_zero, List.set_cons_succ]
      refine wpAnyH_done (by kernel_rfl) ?_ _
      try simp only [Act.put, List.setIfInBounds_toArray, List.set_cons_zero, List.set_cons_succ]
      go_wp2_with fail
      go_roundw
      case rel => exact ⟨k + 1, S + p + q, by omega, by go_num, by go_num, by omega, Lib.hid HSUM.out, hob2, hb3.drew, hF3.drew⟩
      case measure => simp [intOf]; omega
    · obtain rfl : k = 8 := by omega
      have hR : restF m = 240 - S := by unfold restF; rw [hSS.out]; rfl
      obtain ⟨R, hRR⟩ : ∃ R, 240 - S = R := ⟨_, rfl⟩
      rw [hRR] at hR
      have e1 : (240 : Int) - (S : Int) = (R : Int) := by omega
      have hR2 : R ≤ 240 := by omega
      have t1 : ((R : Int)).tdiv 16 = ((R / 16 : Nat) : Int) := by rw [Int.tdiv_eq_ediv_of_nonneg (by omega)]; omega
      have t2 : ((R : Int)).tmod 16 = ((R % 16 : Nat) : Int) := by rw [Int.tmod_eq_emod_of_nonneg (by omega)]; omega
      have hD : Hid (halfs m ++ [R / 16, R % 16] = digF m) := Lib.hid (by unfold digF; rw [hR])
      have hob8 : OI wr (w.heap.size + 1) 3 _ (halfs m) := hob
      obtain ⟨x1, hx1⟩ : ∃ x, R / 16 = x := ⟨_, rfl⟩
      obtain ⟨x2, hx2⟩ : ∃ x, R % 16 = x := ⟨_, rfl⟩
      rw [hx1] at t1 hD
      rw [hx2] at t2 hD
      have y1 : (x1 : Int) ≤ 15 := by omega
      have y2 : (x2 : Int) ≤ 15 := by omega
      have y3 : (0 : Int) ≤ (x1 : Int) := by omega
      have y4 : (0 : Int) ≤ (x2 : Int) := by omega
      have hFb := hF.2
      rw [e1]
      clear hSS hob hb hR hRR e1 hx1 hx2
      go_wp2_with (first
        | (at_builtin; refine wpList_append_oi rfl 42 (.tmp 36) (.tmp 41) 38 rfl (w.heap.size + 1) 3 i0 _ Try.underlying38 HI.out HZ0.out rfl HZ1.out HZ2.out _ (halfs m) rfl (hob8.keep ((Below.refl _ _).alloc (Nat.le_refl _) _)) [x1, x2] wr.heap.size 2 3 rfl rfl (Is.new wr 3 _) (by (have := halfs_len m; simp; omega)) (by simp; omega) ?_; intro v2 w2 hob2 hg2; have hF2 := (hF.alloc _).grown hg2 (fun z hz => by (have := hob8.own z hz; omega)))
        | fail)
      go_ret
      exact ⟨_, rfl, by rw [hD.out] at hob2; exact hob2.base_le (by omega), hF2.1⟩
end Go.Proofs.Ytjghengkpbokaaa

/-
  forkledgerref1's one-time signatures: OneSign, OneRecover.
-/
namespace Go.Proofs.Ytjghengkpbokaaa
open Go.ChangeShapes Go.WideShapes Go.ChangeAt Go.RowKit Go.Fl

def signW (w : World) (s m : BitVec 64) : World := (w.alloc (.cells (nmC s) 30)).alloc (.cells (nmC m) 30)
theorem signW_facts (w : World) (s m : BitVec 64) : Is (signW w s m) w.heap.size 30 (nmC s) ∧ Is (signW w s m) (w.heap.size + 1) 30 (nmC m) ∧ Fr w 2 (signW w s m) :=
  ⟨(Is.new w _ _).old _, Is.newAt _ _ _ (by simp), ((Fr.refl w).alloc _).alloc _⟩

/-- What a function that returns names of its own answers. -/
def RetON (w : World) (l : List (BitVec 64)) (e : Ending) (w' : World) : Prop := ∃ v, e = .returned v ∧ ON w' w.heap.size 30 v l ∧ Below w.heap.size w w'

set_option maxRecDepth 10000 in
set_option maxHeartbeats 1000000 in
theorem rsign_any (s m : BitVec 64) (w : World) :
    Calls Try.prog 30 #[nm s, nm m] w (RetON w (valsF s (digF m))) := by
  obtain ⟨hs0, hm0, hF⟩ := signW_facts w s m
  obtain ⟨i8, hi8, hz0, hz8, hz9⟩ := info_parts info_name
  have HI := Lib.hid hi8
  have HZ0 := Lib.hid hz0
  have HZ1 := Lib.hid hz8
  have HZ2 := Lib.hid hz9
  obtain ⟨L, hL⟩ : ∃ L, valsF s (digF m) = L := ⟨_, rfl⟩
  have HL := Lib.hid hL
  have hLL := vals_len s (digF m)
  rw [hL] at hLL ⊢
  have HLL := Lib.hid hLL
  clear hi8 hz0 hz8 hz9 hL hLL
  go_enter Try.func30, Try.ntmps30
  go_wp2_with fail
  refine (rdigits_any m (signW w s m)).mono ?_
  rintro e w1 ⟨v1, rfl, ho1, hb1⟩
  generalize signW w s m = W at *
  have hs1 := hs0.next hb1
  have hF1 := hF.next hb1
  obtain ⟨A1, n1, c1, rfl, hn1, hc1, hm1, hri⟩ := ho1.form_n
  have hn1 := hn1.out
  rw [digF_len] at hn1 hc1
  subst hn1
  obtain ⟨g, off, rfl, hg, hdc⟩ := hri.out (by rw [digF_len]; omega)
  have HDG := Lib.hid hdc
  clear ho1 hri hdc hs0 hm0 hF hb1
  go_wp2
  go_loopw [6, 7] (fun v i wr => ∃ k : Nat, k ≤ 18 ∧ i = .int .i64 (k : Int) ∧ ON wr w1.heap.size 30 v (L.take k) ∧ Below w1.heap.size w1 wr) (fun _ i _ => 18 - (intOf i).toNat)
  case atStart => exact ⟨0, Nat.zero_le _, rfl, ON.nil _ _ _, Below.refl _ _⟩
  case round =>
    obtain ⟨k, hk, rfl, hob, hBr⟩ := hrel
    by_cases hlt : k < 18
    · obtain ⟨cb, hcb⟩ : ∃ cb, UInt8.ofNat k = cb := ⟨_, rfl⟩
      have hk8 := ub_ofNat k (by omega)
      rw [hcb] at hk8
      obtain ⟨d, hd⟩ : ∃ d, (digF m)[k]? = some d := ⟨_, List.getElem?_eq_getElem (by rw [digF_len]; exact hlt)⟩
      have hd15 := digF_le m d (List.mem_of_getElem? hd)
      have hgd : (digF m).getD k 0 = d := by rw [List.getD_eq_getElem?_getD, hd]; rfl
      obtain ⟨x1, hx1⟩ : ∃ x1, startF s cb = x1 := ⟨_, rfl⟩
      obtain ⟨x2, hx2⟩ : ∃ x2, chainF x1 cb 0 d = x2 := ⟨_, rfl⟩
      have hsn := vals_snoc s (digF m) k hlt
      rw [HL.out, hcb, hx1, hgd, hx2] at hsn
      have HX1 := Lib.hid hx1
      have HX2 : Hid (chainF x1 cb 0 (d - 0) = x2) := Lib.hid hx2
      have HSN := Lib.hid hsn
      have HK8 := Lib.hid hk8
      have HDC := Lib.hid (HDG.out k d hd)
      have s1 : (k : Int) < 18 := by omega
      have s0 : (0 : Int) ≤ (k : Int) := by omega
      obtain ⟨A6, n6, c6, rfl, -⟩ := hob.form_n
      clear hcb hx1 hx2 hsn hgd hk8 hd
      go_wp2
      refine wp_region_held_drew (S := fun w' => Below w1.heap.size w1 w') (by kernel_rfl) (hBr.trans (Below.refl _ _).drew) (fun hHeld => ?_)
      refine held_pure 0 14 (.slice A6 n6 c6) rfl (fun W => by rfl) hHeld ?_
      try simp only [Act.put, List.setIfInBounds_toArray, List.set_cons_zero, List.set_cons_succ]
      refine held_load 1 15 rfl 30 (.tmp 2) rfl w.heap.size 0 rfl (nmR s) (fun w' h => range_is (cs := nmR s) (hs1.next h)) Try.underlying30 name_info hHeld ?_
      try simp only [Act.put, List.setIfInBounds_toArray, List.set_cons_zero, List.set_cons_succ]
      refine held_pure 2 16 (.int .i64 (k : Int)) rfl (fun W => by rfl) hHeld ?_
      try simp only [Act.put, List.setIfInBounds_toArray, List.set_cons_zero, List.set_cons_succ]
      refine held_pure 4 18 (.int .i64 (k : Int)) rfl (fun W => by rfl) hHeld ?_
      try simp only [Act.put, List.setIfInBounds_toArray, List.set_cons_zero, List.set_cons_succ]
      refine held_pure 5 19 (.slice (some ⟨g, off, none⟩) 18 c1) rfl (fun W => by rfl) hHeld ?_
      try simp only [Act.put, List.setIfInBounds_toArray, List.set_cons_zero, List.set_cons_succ]
      refine held_pure 6 20 (.int .i64 (k : Int)) rfl (fun W => by rfl) hHeld ?_
      try simp only [Act.put, List.setIfInBounds_toArray, List.set_cons_zero, List.set_cons_succ]
      refine held_pure 7 21 (.pointer (some ⟨g, off + k, none⟩)) rfl (fun W => by go_simp) hHeld ?_
      try simp only [Act.put, List.setIfInBounds_toArray, List.set_cons_zero, List.set_cons_succ]
      refine held_if 8 22 (iV d) rfl (fun w' h => by (have hc := (h.cell (p := ⟨g, off + k, none⟩) hg).trans HDC.out; go_simp)) hHeld ?_
      try simp only [Act.put, List.setIfInBounds_toArray, List.set_cons_zero, List.set_cons_succ]
      refine held_one (i := 3) (by kernel_rfl) rfl (by rfl) (fun KK hK => ?_)
      go_wp2_with fail
      refine (rstart_i s _ cb HK8.out.symm x1 HX1 _).mono ?_
      rintro e w2 ⟨rfl, hb⟩
      go_wp2_with fail
      refine hK.out _ _ (hHeld.trans (hb.mono hHeld.size)) (fun hHeld1 => ?_)
      clear hK KK
      try simp only [Act.put, List.setIfInBounds_toArray, List.set_cons_zero, List.set_cons_succ]
      refine held_one (i := 9) (by kernel_rfl) rfl (by rfl) (fun KK hK => ?_)
      go_wp2_with fail
      refine (rchain_i x1 _ cb HK8.out.symm 0 d x2 (Nat.zero_le _) (by omega) HX2 _).mono ?_
      rintro e w3 ⟨rfl, hbc⟩
      go_wp2_with fail
      refine hK.out _ _ (hHeld1.trans (hbc.mono hHeld1.size)) (fun hHeld2 => ?_)
      clear hK KK
      try simp only [Act.put, List.setIfInBounds_toArray, List.set_cons_zero, List.set_cons_succ]
      have hob3 : ON w3 w1.heap.size 30 (.slice A6 n6 c6) (L.take k) := ON.keep (ON.keep (w := wr.drew) hob hb) hbc
      refine held_one (i := 10) (by kernel_rfl) rfl (by rfl) (fun KK hK => ?_)
      go_wp2_with fail
      refine hK.out _ _ (hHeld2.trans ((Below.refl _ _).alloc hHeld2.size _)) (fun hHeld3 => ?_)
      clear hK KK
      try simp only [Act.put, List.setIfInBounds_toArray, List.set_cons_zero, List.set_cons_succ]
      have hn9 := Is.new w3 30 (nmC x2)
      have hob9 := hob3.keep ((Below.refl _ _).alloc (Nat.le_refl _) (.cells (nmC x2) 30))
      have hsz9 := hHeld3.size
      refine held_one (i := 11) (by kernel_rfl) rfl (by rfl) (fun KK hK => ?_)
      refine oper_append_name 25 (.tmp 14) (.tmp 24) 48 rfl w1.heap.size 30 i8 _ Try.underlying48 HI.out HZ0.out rfl HZ1.out HZ2.out (.slice A6 n6 c6) (L.take k) rfl hob9 x2 w3.heap.size 30 rfl hn9 (by (have := HLL.out; simp; omega)) hsz9 ?_
      intro v7 w7 hob7 hg7
      refine hK.out _ _ (hHeld3.grown hg7 hsz9 (fun z hz => hob9.own z hz)) (fun hHeld4 => ?_)
      clear hK KK
      try simp only [Act.put, List.setIfInBounds_toArray, List.set_cons_zero, List.set_cons_succ]
      refine held_pure 12 6 (v7) rfl (fun W => by rfl) hHeld4 ?_
      try simp only [Act.put, List.setIfInBounds_toArray, List.set_cons_zero, List.set_cons_succ]
      refine wpAnyH_done (by kernel_rfl) ?_ _
      try simp only [Act.put, List.setIfInBounds_toArray, List.set_cons_zero, List.set_cons_succ]
      go_wp2_with fail
      go_roundw
      case rel => exact ⟨k + 1, by omega, by go_num, by rw [HSN.out] at hob7; exact hob7, hHeld4⟩
      case measure => simp [intOf]; omega
    · obtain rfl : k = 18 := by omega
      have hob3 := hob
      rw [List.take_of_length_le (by have := HLL.out; omega)] at hob3
      clear hob
      go_wp2
      go_ret
      exact ⟨_, rfl, on_base hob3 (by have := hF1.2; omega), hF1.1.trans (hBr.mono (by have := hF1.2; omega))⟩

theorem rec_snoc (m : BitVec 64) (sig : List (BitVec 64)) (k : Nat) (hk : k < 18) : (recF m sig).take k ++ [chainF (sig.getD k 0) (UInt8.ofNat k) ((digF m).getD k 0) (15 - (digF m).getD k 0)] = (recF m sig).take (k + 1) := by
  rw [List.take_add_one]
  congr 1
  simp [recF, hk]
theorem rec_len (m : BitVec 64) (sig : List (BitVec 64)) : (recF m sig).length = 18 := by simp [recF]

theorem rrecover_no (m : BitVec 64) (A : Option Addr) (n c : Nat) (hn : n ≠ 18) (_hn2 : n ≤ 17592186044160) (w : World) :
    Calls Try.prog 34 #[nm m, .slice A n c] w fun e w' => e = .returned (.tuple #[nm 0, .bool false]) ∧ Below w.heap.size w w' := by
  obtain ⟨hb, hz, hF⟩ := boxW_facts w m
  have n1 : (n : Int) ≠ 18 := by omega
  have b1 : ((n : Int) == 18) = false := by rw [beq_eq_false_iff_ne]; exact n1
  have b2 : ((n : Int) != 18) = true := by rw [bne, b1]; rfl
  go_enter Try.func34, Try.ntmps34
  go_wp2_with (refine wpList_store_is rfl 30 (.tmp 4) (.tmp 12) rfl (w.heap.size + 1) 30 _ (nmC 0) rfl rfl hz (nmC_size _) name_info (nmC_one _) ?_; intro w6 hz7 hb6)
  exact ret_is_tmp rfl (w.heap.size + 1) 30 _ rfl hz7 Try.underlying30 rfl name_info rfl ⟨rfl, hF.1.trans (hb6.mono (by omega))⟩

set_option maxRecDepth 10000 in
set_option maxHeartbeats 1000000 in
theorem rrecover_yes (m : BitVec 64) (A : Option Addr) (sig : List (BitVec 64)) (c : Nat) (y : BitVec 64) (hn : sig.length = 18) (_hc : 18 ≤ c) (_hc63 : c ≤ 9223372036854775807) (hy : Hid (endsF (recF m sig) = y)) (w : World) (hr : RN w w.heap.size A sig) :
    Calls Try.prog 34 #[nm m, .slice A 18 c] w fun e w' => e = .returned (.tuple #[nm y, .bool true]) ∧ Below w.heap.size w w' := by
  obtain ⟨hb0, hz0', hF⟩ := boxW_facts w m
  obtain ⟨i8, hi8, hz0, hz8, hz9⟩ := info_parts info_name
  have HI := Lib.hid hi8
  have HZ0 := Lib.hid hz0
  have HZ1 := Lib.hid hz8
  have HZ2 := Lib.hid hz9
  obtain ⟨L, hL⟩ : ∃ L, recF m sig = L := ⟨_, rfl⟩
  have HL := Lib.hid hL
  have hLL := rec_len m sig
  rw [hL] at hLL hy
  have HLL := Lib.hid hLL
  obtain ⟨y0, hy0⟩ : ∃ y0, sig[0]? = some y0 := ⟨_, List.getElem?_eq_getElem (by omega)⟩
  obtain ⟨g2, off2, rfl, hg20, -⟩ := hr.at_ hy0
  have HR := Lib.hid hr
  have HN := Lib.hid hn
  clear hi8 hz0 hz8 hz9 hL hLL hy0 hr hn
  go_enter Try.func34, Try.ntmps34
  go_wp2_with fail
  refine (rdigits_any m (boxW w m)).mono ?_
  rintro e w1 ⟨v1, rfl, ho1, hb1⟩
  generalize boxW w m = W at *
  have hz1 := hz0'.next hb1
  have hF1 := hF.next hb1
  obtain ⟨A1, n1, c1, rfl, hn1, hc1, hm1, hri⟩ := ho1.form_n
  have hn1 := hn1.out
  rw [digF_len] at hn1 hc1
  subst hn1
  obtain ⟨g, off, rfl, hg, hdc⟩ := hri.out (by rw [digF_len]; omega)
  have HDG := Lib.hid hdc
  have hg2 : g2 < w1.heap.size := by have := hF1.2; omega
  clear ho1 hri hdc hb0 hz0' hF hb1
  go_wp2
  go_loopw [7, 8] (fun v i wr => ∃ k : Nat, k ≤ 18 ∧ i = .int .i64 (k : Int) ∧ ON wr w1.heap.size 30 v (L.take k) ∧ Below w1.heap.size w1 wr) (fun _ i _ => 18 - (intOf i).toNat)
  case atStart => exact ⟨0, Nat.zero_le _, rfl, ON.nil _ _ _, Below.refl _ _⟩
  case round =>
    obtain ⟨k, hk, rfl, hob, hBr⟩ := hrel
    by_cases hlt : k < 18
    · obtain ⟨cb, hcb⟩ : ∃ cb, UInt8.ofNat k = cb := ⟨_, rfl⟩
      have hk8 := ub_ofNat k (by omega)
      rw [hcb] at hk8
      obtain ⟨d, hd⟩ : ∃ d, (digF m)[k]? = some d := ⟨_, List.getElem?_eq_getElem (by rw [digF_len]; exact hlt)⟩
      have hd15 := digF_le m d (List.mem_of_getElem? hd)
      have hgd : (digF m).getD k 0 = d := by rw [List.getD_eq_getElem?_getD, hd]; rfl
      obtain ⟨x1, hx1⟩ : ∃ x1, sig[k]? = some x1 := ⟨_, List.getElem?_eq_getElem (by have := HN.out; omega)⟩
      have hgx : sig.getD k 0 = x1 := by rw [List.getD_eq_getElem?_getD, hx1]; rfl
      obtain ⟨x2, hx2⟩ : ∃ x2, chainF x1 cb d (15 - d) = x2 := ⟨_, rfl⟩
      have hsn := rec_snoc m sig k hlt
      rw [HL.out, hcb, hgd, hgx, hx2] at hsn
      have hrg := rn_range HR.out rfl hx1
      have HRG := Lib.hid (range_keep hrg hF1.1 hg20)
      have HX2 := Lib.hid hx2
      have HSN := Lib.hid hsn
      have HK8 := Lib.hid hk8
      have HDC := Lib.hid (HDG.out k d hd)
      have s1 : (k : Int) < 18 := by omega
      have s0 : (0 : Int) ≤ (k : Int) := by omega
      obtain ⟨A6, n6, c6, rfl, -⟩ := hob.form_n
      clear hcb hx1 hx2 hsn hgd hk8 hd hgx hrg
      go_wp2
      refine wp_region_held_drew (S := fun w' => Below w1.heap.size w1 w') (by kernel_rfl) (hBr.trans (Below.refl _ _).drew) (fun hHeld => ?_)
      refine held_pure 0 19 (.slice A6 n6 c6) rfl (fun W => by rfl) hHeld ?_
      try simp only [Act.put, List.setIfInBounds_toArray, List.set_cons_zero, List.set_cons_succ]
      refine held_pure 1 20 (.slice (some ⟨g2, off2, none⟩) 18 c) rfl (fun W => by rfl) hHeld ?_
      try simp only [Act.put, List.setIfInBounds_toArray, List.set_cons_zero, List.set_cons_succ]
      refine held_pure 2 21 (.int .i64 (k : Int)) rfl (fun W => by rfl) hHeld ?_
      try simp only [Act.put, List.setIfInBounds_toArray, List.set_cons_zero, List.set_cons_succ]
      refine held_pure 3 22 (.pointer (some ⟨g2, off2 + k * 8, none⟩)) rfl (fun W => by go_simp) hHeld ?_
      try simp only [Act.put, List.setIfInBounds_toArray, List.set_cons_zero, List.set_cons_succ]
      refine held_load 4 23 rfl 30 (.tmp 22) rfl g2 (off2 + k * 8) rfl (nmR x1) (fun w' h => range_keep HRG.out h hg2) Try.underlying30 name_info hHeld ?_
      try simp only [Act.put, List.setIfInBounds_toArray, List.set_cons_zero, List.set_cons_succ]
      refine held_pure 5 24 (.int .i64 (k : Int)) rfl (fun W => by rfl) hHeld ?_
      try simp only [Act.put, List.setIfInBounds_toArray, List.set_cons_zero, List.set_cons_succ]
      refine held_pure 6 25 (.slice (some ⟨g, off, none⟩) 18 c1) rfl (fun W => by rfl) hHeld ?_
      try simp only [Act.put, List.setIfInBounds_toArray, List.set_cons_zero, List.set_cons_succ]
      refine held_pure 7 26 (.int .i64 (k : Int)) rfl (fun W => by rfl) hHeld ?_
      try simp only [Act.put, List.setIfInBounds_toArray, List.set_cons_zero, List.set_cons_succ]
      refine held_pure 8 27 (.pointer (some ⟨g, off + k, none⟩)) rfl (fun W => by go_simp) hHeld ?_
      try simp only [Act.put, List.setIfInBounds_toArray, List.set_cons_zero, List.set_cons_succ]
      refine held_if 9 28 (iV d) rfl (fun w' h => by (have hc := (h.cell (p := ⟨g, off + k, none⟩) hg).trans HDC.out; go_simp)) hHeld ?_
      try simp only [Act.put, List.setIfInBounds_toArray, List.set_cons_zero, List.set_cons_succ]
      refine held_one (i := 10) (by kernel_rfl) rfl (by rfl) (fun KK hK => ?_)
      go_wp2_with fail
      refine (rchain_i x1 _ cb HK8.out.symm d 15 x2 (by omega) (by omega) HX2 _).mono ?_
      rintro e w3 ⟨rfl, hb⟩
      go_wp2_with fail
      refine hK.out _ _ (hHeld.trans (hb.mono hHeld.size)) (fun hHeld1 => ?_)
      clear hK KK
      try simp only [Act.put, List.setIfInBounds_toArray, List.set_cons_zero, List.set_cons_succ]
      have hob3 : ON w3 w1.heap.size 30 (.slice A6 n6 c6) (L.take k) := ON.keep (w := wr.drew) hob hb
      refine held_one (i := 11) (by kernel_rfl) rfl (by rfl) (fun KK hK => ?_)
      go_wp2_with fail
      refine hK.out _ _ (hHeld1.trans ((Below.refl _ _).alloc hHeld1.size _)) (fun hHeld2 => ?_)
      clear hK KK
      try simp only [Act.put, List.setIfInBounds_toArray, List.set_cons_zero, List.set_cons_succ]
      have hn9 := Is.new w3 30 (nmC x2)
      have hob9 := hob3.keep ((Below.refl _ _).alloc (Nat.le_refl _) (.cells (nmC x2) 30))
      have hsz9 := hHeld2.size
      refine held_one (i := 12) (by kernel_rfl) rfl (by rfl) (fun KK hK => ?_)
      refine oper_append_name 31 (.tmp 19) (.tmp 30) 48 rfl w1.heap.size 30 i8 _ Try.underlying48 HI.out HZ0.out rfl HZ1.out HZ2.out (.slice A6 n6 c6) (L.take k) rfl hob9 x2 w3.heap.size 30 rfl hn9 (by (have := HLL.out; simp; omega)) hsz9 ?_
      intro v7 w7 hob7 hg7
      refine hK.out _ _ (hHeld2.grown hg7 hsz9 (fun z hz => hob9.own z hz)) (fun hHeld3 => ?_)
      clear hK KK
      try simp only [Act.put, List.setIfInBounds_toArray, List.set_cons_zero, List.set_cons_succ]
      refine held_pure 13 7 (v7) rfl (fun W => by rfl) hHeld3 ?_
      try simp only [Act.put, List.setIfInBounds_toArray, List.set_cons_zero, List.set_cons_succ]
      refine wpAnyH_done (by kernel_rfl) ?_ _
      try simp only [Act.put, List.setIfInBounds_toArray, List.set_cons_zero, List.set_cons_succ]
      go_wp2_with fail
      go_roundw
      case rel => exact ⟨k + 1, by omega, by go_num, by rw [HSN.out] at hob7; exact hob7, hHeld3⟩
      case measure => simp [intOf]; omega
    · obtain rfl : k = 18 := by omega
      have hob3 := hob
      rw [List.take_of_length_le (by have := HLL.out; omega)] at hob3
      clear hob
      obtain ⟨A3, n3, c3, e3, HN3, hc3, hm3, HR3⟩ := hob3.form_n
      cases e3
      have hz2 := hz1.next hBr
      have hF2 := hF1.next hBr
      go_wp2_with (first
        | (go_at_call 54; refine (rends_any A3 L n3 c3 y HN3.out.symm (by (have := HLL.out; omega)) hc3 hy _ HR3.out).mono ?_; rintro e w3 ⟨rfl, hb3⟩; have hF3 := hF2.next hb3; have hz3 := hz2.next hb3)
        | (refine wpList_store_is rfl 30 (.tmp 4) (.tmp 33) rfl (w.heap.size + 1) 30 _ (nmC y) rfl rfl hz3 (nmC_size _) name_info (nmC_one _) ?_; intro w6 hz7 hb6))
      exact ret_is_tmp rfl (w.heap.size + 1) 30 _ rfl hz7 Try.underlying30 rfl name_info rfl ⟨rfl, hF3.1.trans (hb6.mono (by omega))⟩
end Go.Proofs.Ytjghengkpbokaaa

/-
  What package onetime promises, as a contract of four Go functions ('OneS'); a signature shows the public name.
-/
namespace Go.Fl
open Go.ChangeShapes Go.WideShapes Go.ChangeAt Go.RowKit

/-- Four functions that keep chapter 4. -/
structure OneS (P : Program) (tn ti : TypeId) (fDigits fPublic fSign fRecover : FuncId) : Prop where
  digits : ∀ (w : World) (m : BitVec 64), Calls P fDigits #[nm m] w fun e w' => ∃ v, e = .returned v ∧ OI w' w.heap.size ti v (digF m) ∧ Below w.heap.size w w'
  pub : ∀ (w : World) (s y : BitVec 64), Hid (publicF s = y) → Calls P fPublic #[nm s] w fun e w' => e = .returned (nm y) ∧ Below w.heap.size w w'
  sign : ∀ (w : World) (s m : BitVec 64), Calls P fSign #[nm s, nm m] w fun e w' => ∃ v, e = .returned v ∧ ON w' w.heap.size tn v (valsF s (digF m)) ∧ Below w.heap.size w w'
  recover : ∀ (w : World) (m : BitVec 64) (v : Value) (sig : List (BitVec 64)) (r : BitVec 64 × Bool), VN w v sig → sig.length ≤ 17592186044160 → Hid (recP m sig = r) →
    Calls P fRecover #[nm m, v] w fun e w' => e = .returned (.tuple #[nm r.1, .bool r.2]) ∧ Below w.heap.size w w'

/-- A signature shows the public name. -/
theorem rec_vals (s m : BitVec 64) : recF m (valsF s (digF m)) = valsF s (List.replicate 18 15) := by
  unfold recF
  conv => rhs; unfold valsF
  apply List.map_congr_left
  intro c hc
  have hc : c < 18 := by simpa using hc
  have h1 : (valsF s (digF m)).getD c 0 = chainF (startF s (UInt8.ofNat c)) (UInt8.ofNat c) 0 ((digF m).getD c 0) := by simp [valsF, List.getD_eq_getElem?_getD, hc]
  have h2 : (List.replicate 18 15).getD c 0 = 15 := by rw [List.getD_eq_getElem?_getD, List.getElem?_replicate, if_pos hc]; rfl
  have h3 : (digF m).getD c 0 ≤ 15 := by
    rw [List.getD_eq_getElem?_getD, List.getElem?_eq_getElem (by rw [digF_len]; exact hc)]
    exact digF_le m _ (List.getElem_mem _)
  rw [h1, h2]
  have h4 := chainF_add (startF s (UInt8.ofNat c)) (UInt8.ofNat c) 0 ((digF m).getD c 0) (15 - (digF m).getD c 0)
  rw [Nat.zero_add] at h4
  rw [h4]
  congr 1
  omega
theorem recP_sign (s m : BitVec 64) : recP m (valsF s (digF m)) = (publicF s, true) := by
  unfold recP
  rw [if_pos (by simp [valsF]), rec_vals]
  rfl
end Go.Fl

/-
  The reference keeps chapter 4 ('refO').
-/
namespace Go.Proofs.Ytjghengkpbokaaa
open Go.ChangeShapes Go.WideShapes Go.ChangeAt Go.RowKit Go.Fl

theorem refO : OneS Try.prog 30 3 46 45 30 34 where
  digits := fun w m => rdigits_any m w
  pub := fun w s y hy => rpublic_any s y hy w
  sign := fun w s m => rsign_any s m w
  recover := by
    rintro w m v sig r ⟨A, c, rfl, h1, h2, hr⟩ hl hr0
    have h := hr0.out
    unfold recP at h
    split at h
    · rename_i h18
      subst h
      rw [h18] at h1 ⊢
      exact rrecover_yes m A sig c _ h18 h1 h2 (Lib.hid rfl) w hr
    · rename_i h18
      subst h
      exact rrecover_no m A sig.length c h18 hl w
end Go.Proofs.Ytjghengkpbokaaa

/-
  hash.Number and hash.Of: a name and its number, each way.
-/
namespace Go.Proofs.Ytjghengkpbokaaa
open Go.ChangeShapes Go.WideShapes Go.ChangeAt Go.RowKit Go.Fl

theorem number_any (x : BitVec 64) (w : World) :
    Calls Try.prog 83 #[nm x] w fun e w' => e = .returned (U x) ∧ Below w.heap.size w w' := by
  have l0 := ub_lo (nb x 0); have u0 := ub_hi (nb x 0)
  have l1 := ub_lo (nb x 1); have u1 := ub_hi (nb x 1)
  have l2 := ub_lo (nb x 2); have u2 := ub_hi (nb x 2)
  have l3 := ub_lo (nb x 3); have u3 := ub_hi (nb x 3)
  have l4 := ub_lo (nb x 4); have u4 := ub_hi (nb x 4)
  have l5 := ub_lo (nb x 5); have u5 := ub_hi (nb x 5)
  have l6 := ub_lo (nb x 6); have u6 := ub_hi (nb x 6)
  have l7 := ub_lo (nb x 7); have u7 := ub_hi (nb x 7)
  go_enter Try.func83, Try.ntmps83
  go_wp2
  go_ret
  exact ⟨by rw [or_bytes]; rfl, (Below.refl _ _).alloc (Nat.le_refl _) _⟩

theorem of_any (x : BitVec 64) (w : World) :
    Calls Try.prog 84 #[U x] w fun e w' => e = .returned (nm x) ∧ Below w.heap.size w w' := by
  have lo := iu_lo x
  have hi := iu_hi x
  go_enter Try.func84, Try.ntmps84
  go_wp2
  refine bodyPost_ret (v := nm x) ?_ rfl ⟨rfl, (Below.refl _ _).alloc (Nat.le_refl _) _⟩
  obtain ⟨b0, b1, b2, b3, b4, b5, b6, b7⟩ := iu_bytes x
  rw [b0, b1, b2, b3, b4, b5, b6, b7]
  simp [results, Try.results84, go_sem]
end Go.Proofs.Ytjghengkpbokaaa

/-
  hash.mix: one step of the hash.
-/
namespace Go.Proofs.Ytjghengkpbokaaa
open Go.ChangeShapes Go.WideShapes Go.ChangeAt Go.RowKit Go.Fl

attribute [local go_sem] wrap_add_iu bits_xor_iu

theorem rot13_any (x : BitVec 64) (w : World) : Calls Try.prog 88 #[U x, .int .i64 13] w fun e w' => e = .returned (U (rot13 x)) ∧ w = w' := by
  have h0 := iu_lo x
  have h1 := iu_hi x
  have h2 : bits .and .u64 13 63 = 13 := by kernel_rfl
  go_enter Try.func88, Try.ntmps88
  go_wp2
  go_ret
  exact ⟨by rw [rot13_iu]; rfl, rfl⟩

theorem rot32_any (x : BitVec 64) (w : World) : Calls Try.prog 88 #[U x, .int .i64 32] w fun e w' => e = .returned (U (rot32 x)) ∧ w = w' := by
  have h0 := iu_lo x
  have h1 := iu_hi x
  have h2 : bits .and .u64 32 63 = 32 := by kernel_rfl
  go_enter Try.func88, Try.ntmps88
  go_wp2
  go_ret
  exact ⟨by rw [rot32_iu]; rfl, rfl⟩

theorem mix_any (x y : BitVec 64) (w : World) : Calls Try.prog 82 #[U x, U y] w fun e w' => e = .returned (.tuple #[U (mixX x y), U (mixY x y)]) ∧ w = w' := by
  go_enter Try.func82, Try.ntmps82
  go_wp2_with fail
  refine (rot13_any _ _).mono ?_; rintro e w1 ⟨rfl, rfl⟩
  go_wp2_with fail
  refine (rot32_any _ _).mono ?_; rintro e w1 ⟨rfl, rfl⟩
  go_wp2_with fail
  go_ret2
  exact ⟨by rw [mixX_iu]; rfl, rfl⟩
end Go.Proofs.Ytjghengkpbokaaa

/-
  hash.finish and hash.absorb, for every state and every slice of bytes.
-/
namespace Go.Proofs.Ytjghengkpbokaaa
open Go.ChangeShapes Go.WideShapes Go.ChangeAt Go.RowKit Go.Fl

attribute [local go_sem] bits_xor_iu bits_xor_iu_nat

set_option maxRecDepth 10000 in
set_option maxHeartbeats 400000 in
theorem finish_any (x y : BitVec 64) (n : Nat) (hn : n ≤ 9223372036854775807) (w : World) :
    Calls Try.prog 76 #[U x, U y, .int .i64 n] w fun e w' => e = .returned (nm (finF (x, y) n)) ∧ Below w.heap.size w w' := by
  go_enter Try.func76, Try.ntmps76
  go_wp2
  go_loop [0, 1, 11] (fun a b i => ∃ k : Nat, k ≤ 4 ∧ i = .int .i64 k ∧ a = U (mixN k (x, y ^^^ ofn n)).1 ∧ b = U (mixN k (x, y ^^^ ofn n)).2) (fun _ _ i => 4 - (intOf i).toNat)
  case atStart => exact ⟨0, by omega, rfl, rfl, rfl⟩
  case round =>
    obtain ⟨k, hk, rfl, rfl, rfl⟩ := hrel
    by_cases h : k < 4
    · go_wp2_with (go_at_call 82; refine (mix_any _ _ _).mono ?_; rintro e w' ⟨rfl, rfl⟩)
      go_round
      case rel => exact ⟨k + 1, by omega, by go_num, by rw [mixN_fst], by rw [mixN_snd]⟩
      case measure => simp [intOf]; omega
    · obtain rfl : k = 4 := by omega
      have hz := Is.new w 30 #[B 0, B 0, B 0, B 0, B 0, B 0, B 0, B 0]
      have hF : Fr w 1 (w.alloc (.cells #[B 0, B 0, B 0, B 0, B 0, B 0, B 0, B 0] 30)) := (Fr.refl w).alloc _
      go_wp2_with (first
        | (go_at_call 84; refine (of_any _ _).mono ?_; rintro e w1 ⟨rfl, hb⟩; replace hz := hz.next hb; replace hF := hF.next hb)
        | (refine wpList_store_is rfl 30 (.tmp 6) (.tmp 23) rfl w.heap.size 30 _ (nmC _) rfl rfl hz (nmC_size _) name_info (nmC_one _) ?_; intro w2 hz2 hb2))
      exact ret_is rfl w.heap.size 30 _ rfl hz2 Try.underlying30 rfl name_info rfl ⟨by rw [finF_eq], hF.1.trans hb2⟩

set_option maxRecDepth 10000 in
set_option maxHeartbeats 1000000 in
theorem absorb_any (s : St) (A : Option Addr) (l : List UInt8) (c : Nat) (hc : l.length ≤ c) (hm : c ≤ 9223372036854775807) (w : World) (hr : RB w w.heap.size A l) :
    Calls Try.prog 75 #[U s.1, U s.2, .slice A l.length c] w fun e w' => e = .returned (.tuple #[U (absorbF s l).1, U (absorbF s l).2]) ∧ Below w.heap.size w w' := by
  go_enter Try.func75, Try.ntmps75
  go_wp2
  go_loopw [0, 1, 2] (fun x y b wr => ∃ (t : St) (A' : Option Addr) (l' : List UInt8) (c' : Nat), x = U t.1 ∧ y = U t.2 ∧ b = .slice A' l'.length c' ∧ l'.length ≤ c' ∧ c' ≤ 9223372036854775807 ∧ RB wr w.heap.size A' l' ∧ Hid (absorbF t l' = absorbF s l) ∧ Fr w 0 wr) (fun _ _ b _ => lenOf b)
  case atStart => exact ⟨s, A, l, c, rfl, rfl, rfl, hc, hm, hr, rfl, Fr.refl w⟩
  case round =>
    obtain ⟨t, A', l', c', rfl, rfl, rfl, hlc, hcm, hrb, habs, hF⟩ := hrel
    by_cases hl : 0 < l'.length
    · obtain ⟨g, off, rfl, hg, hcell⟩ := hrb hl
      obtain ⟨cs, hcs⟩ : ∃ cs, cs = (l'.take 8).map B := ⟨_, rfl⟩
      have hcl : cs.length = min 8 l'.length := by subst hcs; simp
      have hc1 : 0 < cs.length := by omega
      have hc2 : cs.length ≤ 8 := by omega
      have hc3 : cs.length ≤ l'.length := by omega
      have hc4 : cs.length = Nat.min l'.length 8 := by rw [hcl]; exact Nat.min_comm _ _
      have HC4 := Lib.hid hc4
      clear hc4
      have HCL := Lib.hid hcl
      clear hcl
      have HCS := Lib.hid hcs
      have hz : Is (wr.alloc (.cells #[B 0, B 0, B 0, B 0, B 0, B 0, B 0, B 0] 30)) wr.heap.size 30 (List.replicate 8 (B 0)).toArray := Is.new _ _ _
      have hF1 : Fr w 1 (wr.alloc (.cells #[B 0, B 0, B 0, B 0, B 0, B 0, B 0, B 0] 30)) := hF.alloc _
      have hpos : ∀ j v, cs[j]? = some v → (wr.alloc (.cells #[B 0, B 0, B 0, B 0, B 0, B 0, B 0, B 0] 30)).cell? ((⟨g, off, none⟩ : Addr).add j) = some v := by
        intro j v hj
        rw [HCS.out, List.getElem?_map, List.getElem?_take] at hj
        rw [add_plain]
        split at hj
        · obtain ⟨b, hb, rfl⟩ : ∃ b, l'[j]? = some b ∧ B b = v := by simpa using hj
          exact (World.cell?_of_block (w := wr) (Below.heap_alloc wr _ g (by have := hF.2; omega))).trans (hcell j b hb)
        · simp at hj
      have HPOS := Lib.hid hpos
      clear hpos
      clear hcs
      have h1 : ∀ v ∈ cs, v.oneCell' = true := by
        intro v hv
        rw [HCS.out] at hv
        rw [List.mem_map] at hv
        obtain ⟨b, _, hbv⟩ := hv
        rw [← hbv]
        rfl
      have H1 := Lib.hid h1
      clear h1
      have hi1 : (cs.length : Int) ≤ (l'.length : Int) := by omega
      have hd : l'.length - cs.length = (l'.drop 8).length := by have := HCL.out; simp; omega
      have HD := Lib.hid hd
      clear hd
      by_cases hcap : c' = cs.length
      all_goals go_wp2_with (first
          | (refine wpList_copy_splice rfl (.tmp 13) (.tmp 14) 22 22 rfl 5 Try.underlying22 byte_info _ _ _ _ _ _ rfl rfl wr.heap.size 0 (List.replicate 8 (B 0)) 30 hz cs HC4.out (fun _ => ⟨rfl, _, rfl, HPOS.out⟩) (by simp; omega) H1.out wr.heap.size _ (Below.refl _ _) (Nat.le_refl _) ?_; intro w2 HG hb2; have hz2 := word_is HG HCS; have hA := hz2.cell; have hF2 := hF1.step hb2 (by have := hF.2; omega))
          | (go_at_call 83; refine (number_any _ _).mono ?_; rintro e w3 ⟨rfl, hb3⟩; have hF3 := hF2.next hb3; clear hb3)
          | (go_at_call 82; refine (mix_any _ _ _).mono ?_; rintro e w' ⟨rfl, rfl⟩))
      · go_roundw
        case rel => exact ⟨roundS t (wordOf l'), _, l'.drop 8, 0, by rw [roundS_fst], by rw [roundS_snd], slice_eq HD.out rfl, by (have := HD.out; omega), by omega, rest_nil (carry hrb hF hF3) HCL.out (by omega), by (have := habs.out; rw [absorbF_cons hl] at this; exact this), hF3.le (by omega)⟩
        case measure => simp [lenOf]; omega
      · go_roundw
        case rel => exact ⟨roundS t (wordOf l'), _, l'.drop 8, c' - cs.length, by rw [roundS_fst], by rw [roundS_snd], slice_eq HD.out rfl, by (have := HD.out; omega), by omega, rest_is (c := c') (carry hrb hF hF3) HCL.out hcap, by (have := habs.out; rw [absorbF_cons hl] at this; exact this), hF3.le (by omega)⟩
        case measure => simp [lenOf]; omega
    · obtain rfl : l' = [] := List.eq_nil_of_length_eq_zero (by omega)
      have ha := habs.out
      rw [absorbF_nil] at ha
      have HA := Lib.hid ha
      clear ha habs
      go_wp2
      go_ret2
      exact ⟨by rw [← HA.out]; rfl, hF.1⟩

theorem absorb_start (A : Option Addr) (l : List UInt8) (c : Nat) (hc : l.length ≤ c) (hm : c ≤ 9223372036854775807) (w : World) (hr : RB w w.heap.size A l) :
    Calls Try.prog 75 #[.int .u64 2611923443488327891, .int .u64 1376283091369227076, .slice A l.length c] w fun e w' => e = .returned (.tuple #[U (absorbF hash0 l).1, U (absorbF hash0 l).2]) ∧ Below w.heap.size w w' := by
  have h : Calls Try.prog 75 #[.int .u64 (iu hash0.1), .int .u64 (iu hash0.2), .slice A l.length c] w fun e w' => e = .returned (.tuple #[U (absorbF hash0 l).1, U (absorbF hash0 l).2]) ∧ Below w.heap.size w w' := absorb_any hash0 A l c hc hm w hr
  rw [start_fst, start_snd] at h
  exact h

theorem absorb_start_n (A : Option Addr) (l : List UInt8) (n c : Nat) (hn : n = l.length) (hc : l.length ≤ c) (hm : c ≤ 9223372036854775807) (w : World) (hr : RB w w.heap.size A l) :
    Calls Try.prog 75 #[.int .u64 2611923443488327891, .int .u64 1376283091369227076, .slice A n c] w fun e w' => e = .returned (.tuple #[U (absorbF hash0 l).1, U (absorbF hash0 l).2]) ∧ Below w.heap.size w w' := by
  rw [hn]
  exact absorb_start A l c hc hm w hr

theorem absorb_n (s : St) (A : Option Addr) (l : List UInt8) (n c : Nat) (hn : n = l.length) (hc : l.length ≤ c) (hm : c ≤ 9223372036854775807) (w : World) (hr : RB w w.heap.size A l) :
    Calls Try.prog 75 #[U s.1, U s.2, .slice A n c] w fun e w' => e = .returned (.tuple #[U (absorbF s l).1, U (absorbF s l).2]) ∧ Below w.heap.size w w' := by
  rw [hn]
  exact absorb_any s A l c hc hm w hr

theorem finish_i (x y : BitVec 64) (m : Int) (n : Nat) (h : m = (n : Int)) (hn : n ≤ 9223372036854775807) (w : World) :
    Calls Try.prog 76 #[U x, U y, .int .i64 m] w fun e w' => e = .returned (nm (finF (x, y) n)) ∧ Below w.heap.size w w' := by
  subst h
  exact finish_any x y n hn w
end Go.Proofs.Ytjghengkpbokaaa
