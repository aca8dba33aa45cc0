/-
  The developers' onetime: Public, Sign, Recover.
-/
import Derived.Test.YtjfmccehiaeggaaOne2
namespace Go.Proofs.Ytjfmccehiaeggaa
open Go.ChangeShapes Go.WideShapes Go.ChangeAt Go.RowKit Go.Fl

theorem ofirst_i (v : BitVec 64) (I : Int) (c : UInt8) (hI : I = ub c) (y : BitVec 64) (hy : Hid (startF v c = y)) (w : World) :
    Calls Try.prog 21 #[nm v, .int .i64 I] w fun e w' => e = .returned (nm y) ∧ Below w.heap.size w w' := by
  subst hI
  exact ofirst_any v c y hy w
theorem ofollow_i (v : BitVec 64) (I : Int) (c : UInt8) (hI : I = ub c) (f t : Nat) (y : BitVec 64) (hft : f ≤ t) (ht : t ≤ 255) (hy : Hid (chainF v c f (t - f) = y)) (w : World) :
    Calls Try.prog 20 #[nm v, .int .i64 I, .int .i64 (f : Int), .int .i64 (t : Int)] w fun e w' => e = .returned (nm y) ∧ Below w.heap.size w w' := by
  subst hI
  exact ofollow_any v c f t y hft ht hy w

set_option maxHeartbeats 600000 in
theorem opublic_any (s y : BitVec 64) (hy : Hid (publicF s = y)) (w : World) :
    Calls Try.prog 12 #[nm s] w fun e w' => e = .returned (nm y) ∧ Below w.heap.size w w' := by
  obtain ⟨hb, hz, hF⟩ := boxW_facts w s
  have hsz : (boxW w s).heap.size = w.heap.size + 2 := by simp [boxW]
  obtain ⟨i8, hi8, hz0, hz8, hz9⟩ := info_parts info_name
  have HI := Lib.hid hi8
  have HZ0 := Lib.hid hz0
  have HZ1 := Lib.hid hz8
  have HZ2 := Lib.hid hz9
  obtain ⟨L, hL⟩ : ∃ L, valsF s (List.replicate 18 15) = L := ⟨_, rfl⟩
  have HL := Lib.hid hL
  have hLL := vals_len s (List.replicate 18 15)
  rw [hL] at hLL
  have HY : Hid (endsF L = y) := Lib.hid (by rw [← hy.out, ← hL]; rfl)
  clear hi8 hz0 hz8 hz9 hL hy
  go_enter Try.func12, Try.ntmps12
  go_wp2_with (first
    | (at_make; refine wpList_make_sl rfl _ _ 30 rfl 23 i8 _ 8 8 Try.underlying30 HI.out HZ0.out HZ1.out HZ2.out _ _ _ _ 0 18 rfl rfl (by go_num) (by go_num) (by omega) (by omega) (by omega) ?_; intro Z w1 hZ hzz hFm; have hzz2 : Is w1 (boxW w s).heap.size 23 Z.toArray := hzz; rw [hsz] at hzz2; have hob0 : ON w1 (w.heap.size + 2) 23 (.slice (some ⟨w.heap.size + 2, 0, none⟩) 0 18) [] := on_made hzz2 hZ.out (by omega) (Nat.le_refl _); have hb1 := hb.next hFm.1; have hz1 := hz.next hFm.1; have hF1 := hF.next hFm.1; clear hzz hzz2 hFm)
    | fail)
  clear hZ hb hz hF
  go_loopw [3, 6] (fun v i wr => ∃ k : Nat, k ≤ 18 ∧ i = .int .i64 (k : Int) ∧ ON wr (w.heap.size + 2) 23 v (L.take k) ∧ Is wr w.heap.size 23 (nmC s) ∧ Is wr (w.heap.size + 1) 23 #[B 0, B 0, B 0, B 0, B 0, B 0, B 0, B 0] ∧ Fr w 2 wr) (fun _ i _ => 18 - (intOf i).toNat)
  case atStart => exact ⟨0, Nat.zero_le _, rfl, hob0, hb1, hz1, hF1⟩
  case round =>
    clear hb1 hz1 hF1 hob0
    obtain ⟨k, hk, rfl, hob, hb, hz, hF⟩ := hrel
    by_cases hlt : k < 18
    · obtain ⟨cb, hcb⟩ : ∃ cb, UInt8.ofNat k = cb := ⟨_, rfl⟩
      have hk8 := ub_ofNat k (by omega)
      rw [hcb] at hk8
      obtain ⟨x1, hx1⟩ : ∃ x1, startF s cb = x1 := ⟨_, rfl⟩
      obtain ⟨x2, hx2⟩ : ∃ x2, chainF x1 cb 0 15 = x2 := ⟨_, rfl⟩
      have hsn := vals_snoc s (List.replicate 18 15) k hlt
      rw [HL.out, hcb, hx1] at hsn
      have hgd : (List.replicate 18 15).getD k 0 = 15 := by rw [List.getD_eq_getElem?_getD, List.getElem?_replicate, if_pos hlt]; rfl
      rw [hgd, hx2] at hsn
      have HX1 := Lib.hid hx1
      have HX2 : Hid (chainF x1 cb 0 (15 - 0) = x2) := Lib.hid hx2
      have HSN := Lib.hid hsn
      have HK8 := Lib.hid hk8
      have s1 : (k : Int) < 18 := by omega
      have hbc := hb.cell
      clear hcb hx1 hx2 hsn hgd hk8
      go_wp2_with (first
        | (go_at_call 21; refine (ofirst_i s _ cb HK8.out.symm x1 HX1 _).mono ?_; rintro e w1 ⟨rfl, hb1⟩; have hF1 := hF.next hb1; have hb2 := hb.next hb1; have hz1 := hz.next hb1; have hob1 := hob.keep hb1)
        | (go_at_call 20; refine (ofollow_i x1 _ cb HK8.out.symm 0 15 x2 (by omega) (by omega) HX2 _).mono ?_; rintro e w2 ⟨rfl, hb3⟩; have hF2 := hF1.next hb3; have hb4 := hb2.next hb3; have hz2 := hz1.next hb3; have hob2 := hob1.keep hb3)
        | (at_builtin; refine wpList_append_on rfl (.tmp 9) (.tmp 15) 30 rfl (w.heap.size + 2) 23 i8 _ Try.underlying30 HI.out HZ0.out rfl HZ1.out HZ2.out _ (L.take k) rfl (hob2.keep ((Below.refl _ _).alloc (Nat.le_refl _) _)) _ ⟨w2.heap.size, 0, none⟩ 1 1 x2 rfl rfl (rn_build w2 23 x2) (by simp; omega) (by (have := hF2.2; simp; omega)) ?_; intro v3 w3 hob3 hg3 hat3; have hF3 := (hF2.alloc _).grown hg3 (fun q hq => by (have := hob2.own q hq; omega)); have hb5 := (hb4.old _).grown hg3 (fun q hq => by (have := hob2.own q hq; omega)); have hz3 := (hz2.old _).grown hg3 (fun q hq => by (have := hob2.own q hq; omega)))
        | fail)
      go_roundw
      case rel => exact ⟨k + 1, by omega, by go_num, by rw [HSN.out] at hob3; exact hob3, hb5, hz3, hF3.le (by omega)⟩
      case measure => simp [intOf]; omega
    · obtain rfl : k = 18 := by omega
      have hob3 := hob
      rw [List.take_of_length_le (by omega)] at hob3
      clear hob
      obtain ⟨A3, n3, c3, e3, HN3, hc3, hm3, HR3⟩ := hob3.form_n
      cases e3
      go_wp2_with (first
        | (go_at_call 22; refine (ojoin_any A3 L n3 c3 y HN3.out.symm (by omega) hc3 HY _ HR3.out).mono ?_; rintro e w3 ⟨rfl, hb3⟩; have hF3 := hF.next hb3; have hz3 := hz.next hb3)
        | (refine wpList_store_is rfl 23 (.tmp 2) (.tmp 19) rfl (w.heap.size + 1) 23 _ (nmC y) rfl rfl hz3 (nmC_size _) name_info (nmC_one _) ?_; intro w6 hz7 hb6))
      exact ret_is rfl (w.heap.size + 1) 23 _ rfl hz7 Try.underlying23 rfl name_info rfl ⟨rfl, hF3.1.trans (hb6.mono (by omega))⟩
set_option maxHeartbeats 1000000 in
theorem osign_any (s m : BitVec 64) (w : World) :
    Calls Try.prog 15 #[nm s, nm m] w (RetON w (valsF s (digF m))) := by
  obtain ⟨hs0, hm0, hF⟩ := signW_facts w s m
  obtain ⟨i8, hi8, hz0, hz8, hz9⟩ := info_parts info_name
  have HI := Lib.hid hi8
  have HZ0 := Lib.hid hz0
  have HZ1 := Lib.hid hz8
  have HZ2 := Lib.hid hz9
  obtain ⟨L, hL⟩ : ∃ L, valsF s (digF m) = L := ⟨_, rfl⟩
  have HL := Lib.hid hL
  have hLL := vals_len s (digF m)
  rw [hL] at hLL ⊢
  have HLL := Lib.hid hLL
  clear hi8 hz0 hz8 hz9 hL hLL
  go_enter Try.func15, Try.ntmps15
  go_wp2_with fail
  refine (odigits_any m (signW w s m)).mono ?_
  rintro e w1 ⟨v1, rfl, ho1, hb1⟩
  generalize signW w s m = W at *
  have hs1 := hs0.next hb1
  have hF1 := hF.next hb1
  obtain ⟨A1, n1, c1, rfl, hn1, hc1, hm1, hri⟩ := ho1.form_n
  have hn1 := hn1.out
  rw [digF_len] at hn1 hc1
  subst hn1
  obtain ⟨g, off, rfl, hg, hdc⟩ := hri.out (by rw [digF_len]; omega)
  have HDG := Lib.hid hdc
  clear ho1 hri hdc hs0 hm0 hF hb1
  go_wp2_with (first
    | (at_make; refine wpList_make_sl rfl _ _ 30 rfl 23 i8 _ 8 8 Try.underlying30 HI.out HZ0.out HZ1.out HZ2.out _ _ _ _ 0 18 rfl rfl (by go_num) (by go_num) (by omega) (by omega) (by omega) ?_; intro Z w2 hZ hzz hFm; have hob0 : ON w2 w1.heap.size 23 (.slice (some ⟨w1.heap.size, 0, none⟩) 0 18) [] := on_made hzz hZ.out (by omega) (Nat.le_refl _); have hBm := hFm.1; clear hzz hFm)
    | fail)
  clear hZ
  go_loopw [6, 11] (fun v i wr => ∃ k : Nat, k ≤ 18 ∧ i = .int .i64 (k : Int) ∧ ON wr w1.heap.size 23 v (L.take k) ∧ Below w1.heap.size w1 wr) (fun _ i _ => 18 - (intOf i).toNat)
  case atStart => exact ⟨0, Nat.zero_le _, rfl, hob0, hBm⟩
  case round =>
    clear hob0 hBm
    obtain ⟨k, hk, rfl, hob, hBr⟩ := hrel
    by_cases hlt : k < 18
    · obtain ⟨cb, hcb⟩ : ∃ cb, UInt8.ofNat k = cb := ⟨_, rfl⟩
      have hk8 := ub_ofNat k (by omega)
      rw [hcb] at hk8
      obtain ⟨d, hd⟩ : ∃ d, (digF m)[k]? = some d := ⟨_, List.getElem?_eq_getElem (by rw [digF_len]; exact hlt)⟩
      have hd15 := digF_le m d (List.mem_of_getElem? hd)
      have hgd : (digF m).getD k 0 = d := by rw [List.getD_eq_getElem?_getD, hd]; rfl
      obtain ⟨x1, hx1⟩ : ∃ x1, startF s cb = x1 := ⟨_, rfl⟩
      obtain ⟨x2, hx2⟩ : ∃ x2, chainF x1 cb 0 d = x2 := ⟨_, rfl⟩
      have hsn := vals_snoc s (digF m) k hlt
      rw [HL.out, hcb, hx1, hgd, hx2] at hsn
      have HX1 := Lib.hid hx1
      have HX2 : Hid (chainF x1 cb 0 (d - 0) = x2) := Lib.hid hx2
      have HSN := Lib.hid hsn
      have HK8 := Lib.hid hk8
      have HDC := Lib.hid (HDG.out k d hd)
      have s1 : (k : Int) < 18 := by omega
      have s0 : (0 : Int) ≤ (k : Int) := by omega
      obtain ⟨A6, n6, c6, rfl, -⟩ := hob.form_n
      clear hcb hx1 hx2 hsn hgd hk8 hd
      go_wp2
      refine wp_region_held_drew (S := fun w' => Below w1.heap.size w1 w') (by kernel_rfl) (hBr.trans (Below.refl _ _).drew) (fun hHeld => ?_)
      refine held_pure 0 14 (.slice A6 n6 c6) rfl (fun W => by rfl) hHeld ?_
      try simp only [Act.put, List.setIfInBounds_toArray, List.set_cons_zero, List.set_cons_succ]
      refine held_load 1 15 rfl 23 (.tmp 2) rfl w.heap.size 0 rfl (nmR s) (fun w' h => range_is (cs := nmR s) (hs1.next h)) Try.underlying23 name_info hHeld ?_
      try simp only [Act.put, List.setIfInBounds_toArray, List.set_cons_zero, List.set_cons_succ]
      refine held_pure 2 16 (.int .i64 (k : Int)) rfl (fun W => by rfl) hHeld ?_
      try simp only [Act.put, List.setIfInBounds_toArray, List.set_cons_zero, List.set_cons_succ]
      refine held_pure 4 18 (.int .i64 (k : Int)) rfl (fun W => by rfl) hHeld ?_
      try simp only [Act.put, List.setIfInBounds_toArray, List.set_cons_zero, List.set_cons_succ]
      refine held_pure 5 19 (.slice (some ⟨g, off, none⟩) 18 c1) rfl (fun W => by rfl) hHeld ?_
      try simp only [Act.put, List.setIfInBounds_toArray, List.set_cons_zero, List.set_cons_succ]
      refine held_pure 6 20 (.int .i64 (k : Int)) rfl (fun W => by rfl) hHeld ?_
      try simp only [Act.put, List.setIfInBounds_toArray, List.set_cons_zero, List.set_cons_succ]
      refine held_pure 7 21 (.pointer (some ⟨g, off + k, none⟩)) rfl (fun W => by go_simp) hHeld ?_
      try simp only [Act.put, List.setIfInBounds_toArray, List.set_cons_zero, List.set_cons_succ]
      refine held_if 8 22 (iV d) rfl (fun w' h => by (have hc := (h.cell (p := ⟨g, off + k, none⟩) hg).trans HDC.out; go_simp)) hHeld ?_
      try simp only [Act.put, List.setIfInBounds_toArray, List.set_cons_zero, List.set_cons_succ]
      refine held_one (i := 3) (by kernel_rfl) rfl (by rfl) (fun KK hK => ?_)
      go_wp2_with fail
      refine (ofirst_i s _ cb HK8.out.symm x1 HX1 _).mono ?_
      rintro e w2 ⟨rfl, hb⟩
      go_wp2_with fail
      refine hK.out _ _ (hHeld.trans (hb.mono hHeld.size)) (fun hHeld1 => ?_)
      clear hK KK
      try simp only [Act.put, List.setIfInBounds_toArray, List.set_cons_zero, List.set_cons_succ]
      refine held_one (i := 9) (by kernel_rfl) rfl (by rfl) (fun KK hK => ?_)
      go_wp2_with fail
      refine (ofollow_i x1 _ cb HK8.out.symm 0 d x2 (Nat.zero_le _) (by omega) HX2 _).mono ?_
      rintro e w3 ⟨rfl, hbc⟩
      go_wp2_with fail
      refine hK.out _ _ (hHeld1.trans (hbc.mono hHeld1.size)) (fun hHeld2 => ?_)
      clear hK KK
      try simp only [Act.put, List.setIfInBounds_toArray, List.set_cons_zero, List.set_cons_succ]
      have hob3 : ON w3 w1.heap.size 23 (.slice A6 n6 c6) (L.take k) := ON.keep (ON.keep (w := wr.drew) hob hb) hbc
      refine held_one (i := 10) (by kernel_rfl) rfl (by rfl) (fun KK hK => ?_)
      go_wp2_with fail
      refine hK.out _ _ (hHeld2.trans ((Below.refl _ _).alloc hHeld2.size _)) (fun hHeld3 => ?_)
      clear hK KK
      try simp only [Act.put, List.setIfInBounds_toArray, List.set_cons_zero, List.set_cons_succ]
      have hn9 := Is.new w3 23 (nmC x2)
      have hob9 := hob3.keep ((Below.refl _ _).alloc (Nat.le_refl _) (.cells (nmC x2) 23))
      have hsz9 := hHeld3.size
      refine held_one (i := 11) (by kernel_rfl) rfl (by rfl) (fun KK hK => ?_)
      refine oper_append_name 25 (.tmp 14) (.tmp 24) 30 rfl w1.heap.size 23 i8 _ Try.underlying30 HI.out HZ0.out rfl HZ1.out HZ2.out (.slice A6 n6 c6) (L.take k) rfl hob9 x2 w3.heap.size 23 rfl hn9 (by (have := HLL.out; simp; omega)) hsz9 ?_
      intro v7 w7 hob7 hg7
      refine hK.out _ _ (hHeld3.grown hg7 hsz9 (fun z hz => hob9.own z hz)) (fun hHeld4 => ?_)
      clear hK KK
      try simp only [Act.put, List.setIfInBounds_toArray, List.set_cons_zero, List.set_cons_succ]
      refine held_pure 12 6 (v7) rfl (fun W => by rfl) hHeld4 ?_
      try simp only [Act.put, List.setIfInBounds_toArray, List.set_cons_zero, List.set_cons_succ]
      refine wpAnyH_done (by kernel_rfl) ?_ _
      try simp only [Act.put, List.setIfInBounds_toArray, List.set_cons_zero, List.set_cons_succ]
      go_wp2_with fail
      go_roundw
      case rel => exact ⟨k + 1, by omega, by go_num, by rw [HSN.out] at hob7; exact hob7, hHeld4⟩
      case measure => simp [intOf]; omega
    · obtain rfl : k = 18 := by omega
      have hob3 := hob
      rw [List.take_of_length_le (by have := HLL.out; omega)] at hob3
      clear hob
      go_wp2
      go_ret
      exact ⟨_, rfl, on_base hob3 (by have := hF1.2; omega), hF1.1.trans (hBr.mono (by have := hF1.2; omega))⟩

theorem orecover_no (m : BitVec 64) (A : Option Addr) (n c : Nat) (hn : n ≠ 18) (_hn2 : n ≤ 17592186044160) (w : World) :
    Calls Try.prog 17 #[nm m, .slice A n c] w fun e w' => e = .returned (.tuple #[nm 0, .bool false]) ∧ Below w.heap.size w w' := by
  obtain ⟨hb, hz, hF⟩ := boxW_facts w m
  have n1 : (n : Int) ≠ 18 := by omega
  have b1 : ((n : Int) == 18) = false := by rw [beq_eq_false_iff_ne]; exact n1
  have b2 : ((n : Int) != 18) = true := by rw [bne, b1]; rfl
  go_enter Try.func17, Try.ntmps17
  go_wp2_with (refine wpList_store_is rfl 23 (.tmp 4) (.tmp 12) rfl (w.heap.size + 1) 23 _ (nmC 0) rfl rfl hz (nmC_size _) name_info (nmC_one _) ?_; intro w6 hz7 hb6)
  exact ret_is_tmp rfl (w.heap.size + 1) 23 _ rfl hz7 Try.underlying23 rfl name_info rfl ⟨rfl, hF.1.trans (hb6.mono (by omega))⟩

set_option maxHeartbeats 1000000 in
theorem orecover_yes (m : BitVec 64) (A : Option Addr) (sig : List (BitVec 64)) (c : Nat) (y : BitVec 64) (hn : sig.length = 18) (_hc : 18 ≤ c) (_hc63 : c ≤ 9223372036854775807) (hy : Hid (endsF (recF m sig) = y)) (w : World) (hr : RN w w.heap.size A sig) :
    Calls Try.prog 17 #[nm m, .slice A 18 c] w fun e w' => e = .returned (.tuple #[nm y, .bool true]) ∧ Below w.heap.size w w' := by
  obtain ⟨hb0, hz0', hF⟩ := boxW_facts w m
  obtain ⟨i8, hi8, hz0, hz8, hz9⟩ := info_parts info_name
  have HI := Lib.hid hi8
  have HZ0 := Lib.hid hz0
  have HZ1 := Lib.hid hz8
  have HZ2 := Lib.hid hz9
  obtain ⟨L, hL⟩ : ∃ L, recF m sig = L := ⟨_, rfl⟩
  have HL := Lib.hid hL
  have hLL := rec_len m sig
  rw [hL] at hLL hy
  have HLL := Lib.hid hLL
  obtain ⟨y0, hy0⟩ : ∃ y0, sig[0]? = some y0 := ⟨_, List.getElem?_eq_getElem (by omega)⟩
  obtain ⟨g2, off2, rfl, hg20, -⟩ := hr.at_ hy0
  have HR := Lib.hid hr
  have HN := Lib.hid hn
  clear hi8 hz0 hz8 hz9 hL hLL hy0 hr hn
  go_enter Try.func17, Try.ntmps17
  go_wp2_with fail
  refine (odigits_any m (boxW w m)).mono ?_
  rintro e w1 ⟨v1, rfl, ho1, hb1⟩
  generalize boxW w m = W at *
  have hz1 := hz0'.next hb1
  have hF1 := hF.next hb1
  obtain ⟨A1, n1, c1, rfl, hn1, hc1, hm1, hri⟩ := ho1.form_n
  have hn1 := hn1.out
  rw [digF_len] at hn1 hc1
  subst hn1
  obtain ⟨g, off, rfl, hg, hdc⟩ := hri.out (by rw [digF_len]; omega)
  have HDG := Lib.hid hdc
  have hg2 : g2 < w1.heap.size := by have := hF1.2; omega
  clear ho1 hri hdc hb0 hz0' hF hb1
  go_wp2_with (first
    | (at_make; refine wpList_make_sl rfl _ _ 30 rfl 23 i8 _ 8 8 Try.underlying30 HI.out HZ0.out HZ1.out HZ2.out _ _ _ _ 0 18 rfl rfl (by go_num) (by go_num) (by omega) (by omega) (by omega) ?_; intro Z w2 hZ hzz hFm; have hob0 : ON w2 w1.heap.size 23 (.slice (some ⟨w1.heap.size, 0, none⟩) 0 18) [] := on_made hzz hZ.out (by omega) (Nat.le_refl _); have hBm := hFm.1; clear hzz hFm)
    | fail)
  clear hZ
  go_loopw [7, 16] (fun v i wr => ∃ k : Nat, k ≤ 18 ∧ i = .int .i64 (k : Int) ∧ ON wr w1.heap.size 23 v (L.take k) ∧ Below w1.heap.size w1 wr) (fun _ i _ => 18 - (intOf i).toNat)
  case atStart => exact ⟨0, Nat.zero_le _, rfl, hob0, hBm⟩
  case round =>
    clear hob0 hBm
    obtain ⟨k, hk, rfl, hob, hBr⟩ := hrel
    by_cases hlt : k < 18
    · obtain ⟨cb, hcb⟩ : ∃ cb, UInt8.ofNat k = cb := ⟨_, rfl⟩
      have hk8 := ub_ofNat k (by omega)
      rw [hcb] at hk8
      obtain ⟨d, hd⟩ : ∃ d, (digF m)[k]? = some d := ⟨_, List.getElem?_eq_getElem (by rw [digF_len]; exact hlt)⟩
      have hd15 := digF_le m d (List.mem_of_getElem? hd)
      have hgd : (digF m).getD k 0 = d := by rw [List.getD_eq_getElem?_getD, hd]; rfl
      obtain ⟨x1, hx1⟩ : ∃ x1, sig[k]? = some x1 := ⟨_, List.getElem?_eq_getElem (by have := HN.out; omega)⟩
      have hgx : sig.getD k 0 = x1 := by rw [List.getD_eq_getElem?_getD, hx1]; rfl
      obtain ⟨x2, hx2⟩ : ∃ x2, chainF x1 cb d (15 - d) = x2 := ⟨_, rfl⟩
      have hsn := rec_snoc m sig k hlt
      rw [HL.out, hcb, hgd, hgx, hx2] at hsn
      have hrg := rn_range HR.out rfl hx1
      have HRG := Lib.hid (range_keep hrg hF1.1 hg20)
      have HX2 := Lib.hid hx2
      have HSN := Lib.hid hsn
      have HK8 := Lib.hid hk8
      have HDC := Lib.hid (HDG.out k d hd)
      have s1 : (k : Int) < 18 := by omega
      have s0 : (0 : Int) ≤ (k : Int) := by omega
      obtain ⟨A6, n6, c6, rfl, -⟩ := hob.form_n
      clear hcb hx1 hx2 hsn hgd hk8 hd hgx hrg
      go_wp2
      refine wp_region_held_drew (S := fun w' => Below w1.heap.size w1 w') (by kernel_rfl) (hBr.trans (Below.refl _ _).drew) (fun hHeld => ?_)
      refine held_pure 0 19 (.slice A6 n6 c6) rfl (fun W => by rfl) hHeld ?_
      try simp only [Act.put, List.setIfInBounds_toArray, List.set_cons_zero, List.set_cons_succ]
      refine held_pure 1 20 (.slice (some ⟨g2, off2, none⟩) 18 c) rfl (fun W => by rfl) hHeld ?_
      try simp only [Act.put, List.setIfInBounds_toArray, List.set_cons_zero, List.set_cons_succ]
      refine held_pure 2 21 (.int .i64 (k : Int)) rfl (fun W => by rfl) hHeld ?_
      try simp only [Act.put, List.setIfInBounds_toArray, List.set_cons_zero, List.set_cons_succ]
      refine held_pure 3 22 (.pointer (some ⟨g2, off2 + k * 8, none⟩)) rfl (fun W => by go_simp) hHeld ?_
      try simp only [Act.put, List.setIfInBounds_toArray, List.set_cons_zero, List.set_cons_succ]
      refine held_load 4 23 rfl 23 (.tmp 22) rfl g2 (off2 + k * 8) rfl (nmR x1) (fun w' h => range_keep HRG.out h hg2) Try.underlying23 name_info hHeld ?_
      try simp only [Act.put, List.setIfInBounds_toArray, List.set_cons_zero, List.set_cons_succ]
      refine held_pure 5 24 (.int .i64 (k : Int)) rfl (fun W => by rfl) hHeld ?_
      try simp only [Act.put, List.setIfInBounds_toArray, List.set_cons_zero, List.set_cons_succ]
      refine held_pure 6 25 (.slice (some ⟨g, off, none⟩) 18 c1) rfl (fun W => by rfl) hHeld ?_
      try simp only [Act.put, List.setIfInBounds_toArray, List.set_cons_zero, List.set_cons_succ]
      refine held_pure 7 26 (.int .i64 (k : Int)) rfl (fun W => by rfl) hHeld ?_
      try simp only [Act.put, List.setIfInBounds_toArray, List.set_cons_zero, List.set_cons_succ]
      refine held_pure 8 27 (.pointer (some ⟨g, off + k, none⟩)) rfl (fun W => by go_simp) hHeld ?_
      try simp only [Act.put, List.setIfInBounds_toArray, List.set_cons_zero, List.set_cons_succ]
      refine held_if 9 28 (iV d) rfl (fun w' h => by (have hc := (h.cell (p := ⟨g, off + k, none⟩) hg).trans HDC.out; go_simp)) hHeld ?_
      try simp only [Act.put, List.setIfInBounds_toArray, List.set_cons_zero, List.set_cons_succ]
      refine held_one (i := 10) (by kernel_rfl) rfl (by rfl) (fun KK hK => ?_)
      go_wp2_with fail
      refine (ofollow_i x1 _ cb HK8.out.symm d 15 x2 (by omega) (by omega) HX2 _).mono ?_
      rintro e w3 ⟨rfl, hb⟩
      go_wp2_with fail
      refine hK.out _ _ (hHeld.trans (hb.mono hHeld.size)) (fun hHeld1 => ?_)
      clear hK KK
      try simp only [Act.put, List.setIfInBounds_toArray, List.set_cons_zero, List.set_cons_succ]
      have hob3 : ON w3 w1.heap.size 23 (.slice A6 n6 c6) (L.take k) := ON.keep (w := wr.drew) hob hb
      refine held_one (i := 11) (by kernel_rfl) rfl (by rfl) (fun KK hK => ?_)
      go_wp2_with fail
      refine hK.out _ _ (hHeld1.trans ((Below.refl _ _).alloc hHeld1.size _)) (fun hHeld2 => ?_)
      clear hK KK
      try simp only [Act.put, List.setIfInBounds_toArray, List.set_cons_zero, List.set_cons_succ]
      have hn9 := Is.new w3 23 (nmC x2)
      have hob9 := hob3.keep ((Below.refl _ _).alloc (Nat.le_refl _) (.cells (nmC x2) 23))
      have hsz9 := hHeld2.size
      refine held_one (i := 12) (by kernel_rfl) rfl (by rfl) (fun KK hK => ?_)
      refine oper_append_name 31 (.tmp 19) (.tmp 30) 30 rfl w1.heap.size 23 i8 _ Try.underlying30 HI.out HZ0.out rfl HZ1.out HZ2.out (.slice A6 n6 c6) (L.take k) rfl hob9 x2 w3.heap.size 23 rfl hn9 (by (have := HLL.out; simp; omega)) hsz9 ?_
      intro v7 w7 hob7 hg7
      refine hK.out _ _ (hHeld2.grown hg7 hsz9 (fun z hz => hob9.own z hz)) (fun hHeld3 => ?_)
      clear hK KK
      try simp only [Act.put, List.setIfInBounds_toArray, List.set_cons_zero, List.set_cons_succ]
      refine held_pure 13 7 (v7) rfl (fun W => by rfl) hHeld3 ?_
      try simp only [Act.put, List.setIfInBounds_toArray, List.set_cons_zero, List.set_cons_succ]
      refine wpAnyH_done (by kernel_rfl) ?_ _
      try simp only [Act.put, List.setIfInBounds_toArray, List.set_cons_zero, List.set_cons_succ]
      go_wp2_with fail
      go_roundw
      case rel => exact ⟨k + 1, by omega, by go_num, by rw [HSN.out] at hob7; exact hob7, hHeld3⟩
      case measure => simp [intOf]; omega
    · obtain rfl : k = 18 := by omega
      have hob3 := hob
      rw [List.take_of_length_le (by have := HLL.out; omega)] at hob3
      clear hob
      obtain ⟨A3, n3, c3, e3, HN3, hc3, hm3, HR3⟩ := hob3.form_n
      cases e3
      have hz2 := hz1.next hBr
      have hF2 := hF1.next hBr
      go_wp2_with (first
        | (go_at_call 22; refine (ojoin_any A3 L n3 c3 y HN3.out.symm (by (have := HLL.out; omega)) hc3 hy _ HR3.out).mono ?_; rintro e w3 ⟨rfl, hb3⟩; have hF3 := hF2.next hb3; have hz3 := hz2.next hb3)
        | (refine wpList_store_is rfl 23 (.tmp 4) (.tmp 34) rfl (w.heap.size + 1) 23 _ (nmC y) rfl rfl hz3 (nmC_size _) name_info (nmC_one _) ?_; intro w6 hz7 hb6))
      exact ret_is_tmp rfl (w.heap.size + 1) 23 _ rfl hz7 Try.underlying23 rfl name_info rfl ⟨rfl, hF3.1.trans (hb6.mono (by omega))⟩
end Go.Proofs.Ytjfmccehiaeggaa
