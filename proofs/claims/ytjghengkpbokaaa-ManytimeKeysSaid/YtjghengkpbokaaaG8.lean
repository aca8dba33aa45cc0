/-
  4 texts in one file: One3, One, Tree, R1Pair.
-/
import Derived.Test.YtjghengkpbokaaaG3
import Derived.Test.YtjghengkpbokaaaG4
import Derived.Test.YtjghengkpbokaaaG5
import Derived.Test.YtjghengkpbokaaaG7

/-
  The developers' onetime: Public, Sign, Recover.
-/
namespace Go.Proofs.Ytjghengkpbokaaa
open Go.ChangeShapes Go.WideShapes Go.ChangeAt Go.RowKit Go.Fl

theorem ofirst_i (v : BitVec 64) (I : Int) (c : UInt8) (hI : I = ub c) (y : BitVec 64) (hy : Hid (startF v c = y)) (w : World) :
    Calls Try.prog 65 #[nm v, .int .i64 I] w fun e w' => e = .returned (nm y) ∧ Below w.heap.size w w' := by
  subst hI
  exact ofirst_any v c y hy w
theorem ofollow_i (v : BitVec 64) (I : Int) (c : UInt8) (hI : I = ub c) (f t : Nat) (y : BitVec 64) (hft : f ≤ t) (ht : t ≤ 255) (hy : Hid (chainF v c f (t - f) = y)) (w : World) :
    Calls Try.prog 64 #[nm v, .int .i64 I, .int .i64 (f : Int), .int .i64 (t : Int)] w fun e w' => e = .returned (nm y) ∧ Below w.heap.size w w' := by
  subst hI
  exact ofollow_any v c f t y hft ht hy w

set_option maxRecDepth 10000 in
set_option maxHeartbeats 600000 in
theorem opublic_any (s y : BitVec 64) (hy : Hid (publicF s = y)) (w : World) :
    Calls Try.prog 71 #[nm s] w fun e w' => e = .returned (nm y) ∧ Below w.heap.size w w' := by
  obtain ⟨hb, hz, hF⟩ := boxW_facts w s
  have hsz : (boxW w s).heap.size = w.heap.size + 2 := by simp [boxW]
  obtain ⟨i8, hi8, hz0, hz8, hz9⟩ := info_parts info_name
  have HI := Lib.hid hi8
  have HZ0 := Lib.hid hz0
  have HZ1 := Lib.hid hz8
  have HZ2 := Lib.hid hz9
  obtain ⟨L, hL⟩ : ∃ L, valsF s (List.replicate 18 15) = L := ⟨_, rfl⟩
  have HL := Lib.hid hL
  have hLL := vals_len s (List.replicate 18 15)
  rw [hL] at hLL
  have HY : Hid (endsF L = y) := Lib.hid (by rw [← hy.out, ← hL]; rfl)
  clear hi8 hz0 hz8 hz9 hL hy
  go_enter Try.func71, Try.ntmps71
  go_wp2_with (first
    | (at_make; refine wpList_make_sl rfl _ _ 48 rfl 30 i8 _ 8 8 Try.underlying48 HI.out HZ0.out HZ1.out HZ2.out _ _ _ _ 0 18 rfl rfl (by go_num) (by go_num) (by omega) (by omega) (by omega) ?_; intro Z w1 hZ hzz hFm; have hzz2 : Is w1 (boxW w s).heap.size 30 Z.toArray := hzz; rw [hsz] at hzz2; have hob0 : ON w1 (w.heap.size + 2) 30 (.slice (some ⟨w.heap.size + 2, 0, none⟩) 0 18) [] := on_made hzz2 hZ.out (by omega) (Nat.le_refl _); have hb1 := hb.next hFm.1; have hz1 := hz.next hFm.1; have hF1 := hF.next hFm.1; clear hzz hzz2 hFm)
    | fail)
  clear hZ hb hz hF
  go_loopw [3, 6] (fun v i wr => ∃ k : Nat, k ≤ 18 ∧ i = .int .i64 (k : Int) ∧ ON wr (w.heap.size + 2) 30 v (L.take k) ∧ Is wr w.heap.size 30 (nmC s) ∧ Is wr (w.heap.size + 1) 30 #[B 0, B 0, B 0, B 0, B 0, B 0, B 0, B 0] ∧ Fr w 2 wr) (fun _ i _ => 18 - (intOf i).toNat)
  case atStart => exact ⟨0, Nat.zero_le _, rfl, hob0, hb1, hz1, hF1⟩
  case round =>
    clear hb1 hz1 hF1 hob0
    obtain ⟨k, hk, rfl, hob, hb, hz, hF⟩ := hrel
    by_cases hlt : k < 18
    · obtain ⟨cb, hcb⟩ : ∃ cb, UInt8.ofNat k = cb := ⟨_, rfl⟩
      have hk8 := ub_ofNat k (by omega)
      rw [hcb] at hk8
      obtain ⟨x1, hx1⟩ : ∃ x1, startF s cb = x1 := ⟨_, rfl⟩
      obtain ⟨x2, hx2⟩ : ∃ x2, chainF x1 cb 0 15 = x2 := ⟨_, rfl⟩
      have hsn := vals_snoc s (List.replicate 18 15) k hlt
      rw [HL.out, hcb, hx1] at hsn
      have hgd : (List.replicate 18 15).getD k 0 = 15 := by rw [List.getD_eq_getElem?_getD, List.getElem?_replicate, if_pos hlt]; rfl
      rw [hgd, hx2] at hsn
      have HX1 := Lib.hid hx1
      have HX2 : Hid (chainF x1 cb 0 (15 - 0) = x2) := Lib.hid hx2
      have HSN := Lib.hid hsn
      have HK8 := Lib.hid hk8
      have s1 : (k : Int) < 18 := by omega
      have hbc := hb.cell
      clear hcb hx1 hx2 hsn hgd hk8
      go_wp2_with (first
        | (go_at_call 65; refine (ofirst_i s _ cb HK8.out.symm x1 HX1 _).mono ?_; rintro e w1 ⟨rfl, hb1⟩; have hF1 := hF.next hb1; have hb2 := hb.next hb1; have hz1 := hz.next hb1; have hob1 := hob.keep hb1)
        | (go_at_call 64; refine (ofollow_i x1 _ cb HK8.out.symm 0 15 x2 (by omega) (by omega) HX2 _).mono ?_; rintro e w2 ⟨rfl, hb3⟩; have hF2 := hF1.next hb3; have hb4 := hb2.next hb3; have hz2 := hz1.next hb3; have hob2 := hob1.keep hb3)
        | (at_builtin; refine wpList_append_on rfl (.tmp 9) (.tmp 15) 48 rfl (w.heap.size + 2) 30 i8 _ Try.underlying48 HI.out HZ0.out rfl HZ1.out HZ2.out _ (L.take k) rfl (hob2.keep ((Below.refl _ _).alloc (Nat.le_refl _) _)) _ ⟨w2.heap.size, 0, none⟩ 1 1 x2 rfl rfl (rn_build w2 30 x2) (by simp; omega) (by (have := hF2.2; simp; omega)) ?_; intro v3 w3 hob3 hg3 hat3; have hF3 := (hF2.alloc _).grown hg3 (fun q hq => by (have := hob2.own q hq; omega)); have hb5 := (hb4.old _).grown hg3 (fun q hq => by (have := hob2.own q hq; omega)); have hz3 := (hz2.old _).grown hg3 (fun q hq => by (have := hob2.own q hq; omega)))
        | fail)
      go_roundw
      case rel => exact ⟨k + 1, by omega, by go_num, by rw [HSN.out] at hob3; exact hob3, hb5, hz3, hF3.le (by omega)⟩
      case measure => simp [intOf]; omega
    · obtain rfl : k = 18 := by omega
      have hob3 := hob
      rw [List.take_of_length_le (by omega)] at hob3
      clear hob
      obtain ⟨A3, n3, c3, e3, HN3, hc3, hm3, HR3⟩ := hob3.form_n
      cases e3
      go_wp2_with (first
        | (go_at_call 68; refine (ojoin_any A3 L n3 c3 y HN3.out.symm (by omega) hc3 HY _ HR3.out).mono ?_; rintro e w3 ⟨rfl, hb3⟩; have hF3 := hF.next hb3; have hz3 := hz.next hb3)
        | (refine wpList_store_is rfl 30 (.tmp 2) (.tmp 19) rfl (w.heap.size + 1) 30 _ (nmC y) rfl rfl hz3 (nmC_size _) name_info (nmC_one _) ?_; intro w6 hz7 hb6))
      exact ret_is rfl (w.heap.size + 1) 30 _ rfl hz7 Try.underlying30 rfl name_info rfl ⟨rfl, hF3.1.trans (hb6.mono (by omega))⟩
set_option maxRecDepth 10000 in
set_option maxHeartbeats 1000000 in
theorem osign_any (s m : BitVec 64) (w : World) :
    Calls Try.prog 41 #[nm s, nm m] w (RetON w (valsF s (digF m))) := by
  obtain ⟨hs0, hm0, hF⟩ := signW_facts w s m
  obtain ⟨i8, hi8, hz0, hz8, hz9⟩ := info_parts info_name
  have HI := Lib.hid hi8
  have HZ0 := Lib.hid hz0
  have HZ1 := Lib.hid hz8
  have HZ2 := Lib.hid hz9
  obtain ⟨L, hL⟩ : ∃ L, valsF s (digF m) = L := ⟨_, rfl⟩
  have HL := Lib.hid hL
  have hLL := vals_len s (digF m)
  rw [hL] at hLL ⊢
  have HLL := Lib.hid hLL
  clear hi8 hz0 hz8 hz9 hL hLL
  go_enter Try.func41, Try.ntmps41
  go_wp2_with fail
  refine (odigits_any m (signW w s m)).mono ?_
  rintro e w1 ⟨v1, rfl, ho1, hb1⟩
  generalize signW w s m = W at *
  have hs1 := hs0.next hb1
  have hF1 := hF.next hb1
  obtain ⟨A1, n1, c1, rfl, hn1, hc1, hm1, hri⟩ := ho1.form_n
  have hn1 := hn1.out
  rw [digF_len] at hn1 hc1
  subst hn1
  obtain ⟨g, off, rfl, hg, hdc⟩ := hri.out (by rw [digF_len]; omega)
  have HDG := Lib.hid hdc
  clear ho1 hri hdc hs0 hm0 hF hb1
  go_wp2_with (first
    | (at_make; refine wpList_make_sl rfl _ _ 48 rfl 30 i8 _ 8 8 Try.underlying48 HI.out HZ0.out HZ1.out HZ2.out _ _ _ _ 0 18 rfl rfl (by go_num) (by go_num) (by omega) (by omega) (by omega) ?_; intro Z w2 hZ hzz hFm; have hob0 : ON w2 w1.heap.size 30 (.slice (some ⟨w1.heap.size, 0, none⟩) 0 18) [] := on_made hzz hZ.out (by omega) (Nat.le_refl _); have hBm := hFm.1; clear hzz hFm)
    | fail)
  clear hZ
  go_loopw [6, 11] (fun v i wr => ∃ k : Nat, k ≤ 18 ∧ i = .int .i64 (k : Int) ∧ ON wr w1.heap.size 30 v (L.take k) ∧ Below w1.heap.size w1 wr) (fun _ i _ => 18 - (intOf i).toNat)
  case atStart => exact ⟨0, Nat.zero_le _, rfl, hob0, hBm⟩
  case round =>
    clear hob0 hBm
    obtain ⟨k, hk, rfl, hob, hBr⟩ := hrel
    by_cases hlt : k < 18
    · obtain ⟨cb, hcb⟩ : ∃ cb, UInt8.ofNat k = cb := ⟨_, rfl⟩
      have hk8 := ub_ofNat k (by omega)
      rw [hcb] at hk8
      obtain ⟨d, hd⟩ : ∃ d, (digF m)[k]? = some d := ⟨_, List.getElem?_eq_getElem (by rw [digF_len]; exact hlt)⟩
      have hd15 := digF_le m d (List.mem_of_getElem? hd)
      have hgd : (digF m).getD k 0 = d := by rw [List.getD_eq_getElem?_getD, hd]; rfl
      obtain ⟨x1, hx1⟩ : ∃ x1, startF s cb = x1 := ⟨_, rfl⟩
      obtain ⟨x2, hx2⟩ : ∃ x2, chainF x1 cb 0 d = x2 := ⟨_, rfl⟩
      have hsn := vals_snoc s (digF m) k hlt
      rw [HL.out, hcb, hx1, hgd, hx2] at hsn
      have HX1 := Lib.hid hx1
      have HX2 : Hid (chainF x1 cb 0 (d - 0) = x2) := Lib.hid hx2
      have HSN := Lib.hid hsn
      have HK8 := Lib.hid hk8
      have HDC := Lib.hid (HDG.out k d hd)
      have s1 : (k : Int) < 18 := by omega
      have s0 : (0 : Int) ≤ (k : Int) := by omega
      obtain ⟨A6, n6, c6, rfl, -⟩ := hob.form_n
      clear hcb hx1 hx2 hsn hgd hk8 hd
      go_wp2
      refine wp_region_held_drew (S := fun w' => Below w1.heap.size w1 w') (by kernel_rfl) (hBr.trans (Below.refl _ _).drew) (fun hHeld => ?_)
      refine held_pure 0 14 (.slice A6 n6 c6) rfl (fun W => by rfl) hHeld ?_
      try simp only [Act.put, List.setIfInBounds_toArray, List.set_cons_zero, List.set_cons_succ]
      refine held_load 1 15 rfl 30 (.tmp 2) rfl w.heap.size 0 rfl (nmR s) (fun w' h => range_is (cs := nmR s) (hs1.next h)) Try.underlying30 name_info hHeld ?_
      try simp only [Act.put, List.setIfInBounds_toArray, List.set_cons_zero, List.set_cons_succ]
      refine held_pure 2 16 (.int .i64 (k : Int)) rfl (fun W => by rfl) hHeld ?_
      try simp only [Act.put, List.setIfInBounds_toArray, List.set_cons_zero, List.set_cons_succ]
      refine held_pure 4 18 (.int .i64 (k : Int)) rfl (fun W => by rfl) hHeld ?_
      try simp only [Act.put, List.setIfInBounds_toArray, List.set_cons_zero, List.set_cons_succ]
      refine held_pure 5 19 (.slice (some ⟨g, off, none⟩) 18 c1) rfl (fun W => by rfl) hHeld ?_
      try simp only [Act.put, List.setIfInBounds_toArray, List.set_cons_zero, List.set_cons_succ]
      refine held_pure 6 20 (.int .i64 (k : Int)) rfl (fun W => by rfl) hHeld ?_
      try simp only [Act.put, List.setIfInBounds_toArray, List.set_cons_zero, List.set_cons_succ]
      refine held_pure 7 21 (.pointer (some ⟨g, off + k, none⟩)) rfl (fun W => by go_simp) hHeld ?_
      try simp only [Act.put, List.setIfInBounds_toArray, List.set_cons_zero, List.set_cons_succ]
      refine held_if 8 22 (iV d) rfl (fun w' h => by (have hc := (h.cell (p := ⟨g, off + k, none⟩) hg).trans HDC.out; go_simp)) hHeld ?_
      try simp only [Act.put, List.setIfInBounds_toArray, List.set_cons_zero, List.set_cons_succ]
      refine held_one (i := 3) (by kernel_rfl) rfl (by rfl) (fun KK hK => ?_)
      go_wp2_with fail
      refine (ofirst_i s _ cb HK8.out.symm x1 HX1 _).mono ?_
      rintro e w2 ⟨rfl, hb⟩
      go_wp2_with fail
      refine hK.out _ _ (hHeld.trans (hb.mono hHeld.size)) (fun hHeld1 => ?_)
      clear hK KK
      try simp only [Act.put, List.setIfInBounds_toArray, List.set_cons_zero, List.set_cons_succ]
      refine held_one (i := 9) (by kernel_rfl) rfl (by rfl) (fun KK hK => ?_)
      go_wp2_with fail
      refine (ofollow_i x1 _ cb HK8.out.symm 0 d x2 (Nat.zero_le _) (by omega) HX2 _).mono ?_
      rintro e w3 ⟨rfl, hbc⟩
      go_wp2_with fail
      refine hK.out _ _ (hHeld1.trans (hbc.mono hHeld1.size)) (fun hHeld2 => ?_)
      clear hK KK
      try simp only [Act.put, List.setIfInBounds_toArray, List.set_cons_zero, List.set_cons_succ]
      have hob3 : ON w3 w1.heap.size 30 (.slice A6 n6 c6) (L.take k) := ON.keep (ON.keep (w := wr.drew) hob hb) hbc
      refine held_one (i := 10) (by kernel_rfl) rfl (by rfl) (fun KK hK => ?_)
      go_wp2_with fail
      refine hK.out _ _ (hHeld2.trans ((Below.refl _ _).alloc hHeld2.size _)) (fun hHeld3 => ?_)
      clear hK KK
      try simp only [Act.put, List.setIfInBounds_toArray, List.set_cons_zero, List.set_cons_succ]
      have hn9 := Is.new w3 30 (nmC x2)
      have hob9 := hob3.keep ((Below.refl _ _).alloc (Nat.le_refl _) (.cells (nmC x2) 30))
      have hsz9 := hHeld3.size
      refine held_one (i := 11) (by kernel_rfl) rfl (by rfl) (fun KK hK => ?_)
      refine oper_append_name 25 (.tmp 14) (.tmp 24) 48 rfl w1.heap.size 30 i8 _ Try.underlying48 HI.out HZ0.out rfl HZ1.out HZ2.out (.slice A6 n6 c6) (L.take k) rfl hob9 x2 w3.heap.size 30 rfl hn9 (by (have := HLL.out; simp; omega)) hsz9 ?_
      intro v7 w7 hob7 hg7
      refine hK.out _ _ (hHeld3.grown hg7 hsz9 (fun z hz => hob9.own z hz)) (fun hHeld4 => ?_)
      clear hK KK
      try simp only [Act.put, List.setIfInBounds_toArray, List.set_cons_zero, List.set_cons_succ]
      refine held_pure 12 6 (v7) rfl (fun W => by rfl) hHeld4 ?_
      try simp only [Act.put, List.setIfInBounds_toArray, List.set_cons_zero, List.set_cons_succ]
      refine wpAnyH_done (by kernel_rfl) ?_ _
      try simp only [Act.put, List.setIfInBounds_toArray, List.set_cons_zero, List.set_cons_succ]
      go_wp2_with fail
      go_roundw
      case rel => exact ⟨k + 1, by omega, by go_num, by rw [HSN.out] at hob7; exact hob7, hHeld4⟩
      case measure => simp [intOf]; omega
    · obtain rfl : k = 18 := by omega
      have hob3 := hob
      rw [List.take_of_length_le (by have := HLL.out; omega)] at hob3
      clear hob
      go_wp2
      go_ret
      exact ⟨_, rfl, on_base hob3 (by have := hF1.2; omega), hF1.1.trans (hBr.mono (by have := hF1.2; omega))⟩

theorem orecover_no (m : BitVec 64) (A : Option Addr) (n c : Nat) (hn : n ≠ 18) (_hn2 : n ≤ 17592186044160) (w : World) :
    Calls Try.prog 52 #[nm m, .slice A n c] w fun e w' => e = .returned (.tuple #[nm 0, .bool false]) ∧ Below w.heap.size w w' := by
  obtain ⟨hb, hz, hF⟩ := boxW_facts w m
  have n1 : (n : Int) ≠ 18 := by omega
  have b1 : ((n : Int) == 18) = false := by rw [beq_eq_false_iff_ne]; exact n1
  have b2 : ((n : Int) != 18) = true := by rw [bne, b1]; rfl
  go_enter Try.func52, Try.ntmps52
  go_wp2_with (refine wpList_store_is rfl 30 (.tmp 4) (.tmp 12) rfl (w.heap.size + 1) 30 _ (nmC 0) rfl rfl hz (nmC_size _) name_info (nmC_one _) ?_; intro w6 hz7 hb6)
  exact ret_is_tmp rfl (w.heap.size + 1) 30 _ rfl hz7 Try.underlying30 rfl name_info rfl ⟨rfl, hF.1.trans (hb6.mono (by omega))⟩

set_option maxRecDepth 10000 in
set_option maxHeartbeats 1000000 in
theorem orecover_yes (m : BitVec 64) (A : Option Addr) (sig : List (BitVec 64)) (c : Nat) (y : BitVec 64) (hn : sig.length = 18) (_hc : 18 ≤ c) (_hc63 : c ≤ 9223372036854775807) (hy : Hid (endsF (recF m sig) = y)) (w : World) (hr : RN w w.heap.size A sig) :
    Calls Try.prog 52 #[nm m, .slice A 18 c] w fun e w' => e = .returned (.tuple #[nm y, .bool true]) ∧ Below w.heap.size w w' := by
  obtain ⟨hb0, hz0', hF⟩ := boxW_facts w m
  obtain ⟨i8, hi8, hz0, hz8, hz9⟩ := info_parts info_name
  have HI := Lib.hid hi8
  have HZ0 := Lib.hid hz0
  have HZ1 := Lib.hid hz8
  have HZ2 := Lib.hid hz9
  obtain ⟨L, hL⟩ : ∃ L, recF m sig = L := ⟨_, rfl⟩
  have HL := Lib.hid hL
  have hLL := rec_len m sig
  rw [hL] at hLL hy
  have HLL := Lib.hid hLL
  obtain ⟨y0, hy0⟩ : ∃ y0, sig[0]? = some y0 := ⟨_, List.getElem?_eq_getElem (by omega)⟩
  obtain ⟨g2, off2, rfl, hg20, -⟩ := hr.at_ hy0
  have HR := Lib.hid hr
  have HN := Lib.hid hn
  clear hi8 hz0 hz8 hz9 hL hLL hy0 hr hn
  go_enter Try.func52, Try.ntmps52
  go_wp2_with fail
  refine (odigits_any m (boxW w m)).mono ?_
  rintro e w1 ⟨v1, rfl, ho1, hb1⟩
  generalize boxW w m = W at *
  have hz1 := hz0'.next hb1
  have hF1 := hF.next hb1
  obtain ⟨A1, n1, c1, rfl, hn1, hc1, hm1, hri⟩ := ho1.form_n
  have hn1 := hn1.out
  rw [digF_len] at hn1 hc1
  subst hn1
  obtain ⟨g, off, rfl, hg, hdc⟩ := hri.out (by rw [digF_len]; omega)
  have HDG := Lib.hid hdc
  have hg2 : g2 < w1.heap.size := by have := hF1.2; omega
  clear ho1 hri hdc hb0 hz0' hF hb1
  go_wp2_with (first
    | (at_make; refine wpList_make_sl rfl _ _ 48 rfl 30 i8 _ 8 8 Try.underlying48 HI.out HZ0.out HZ1.out HZ2.out _ _ _ _ 0 18 rfl rfl (by go_num) (by go_num) (by omega) (by omega) (by omega) ?_; intro Z w2 hZ hzz hFm; have hob0 : ON w2 w1.heap.size 30 (.slice (some ⟨w1.heap.size, 0, none⟩) 0 18) [] := on_made hzz hZ.out (by omega) (Nat.le_refl _); have hBm := hFm.1; clear hzz hFm)
    | fail)
  clear hZ
  go_loopw [7, 16] (fun v i wr => ∃ k : Nat, k ≤ 18 ∧ i = .int .i64 (k : Int) ∧ ON wr w1.heap.size 30 v (L.take k) ∧ Below w1.heap.size w1 wr) (fun _ i _ => 18 - (intOf i).toNat)
  case atStart => exact ⟨0, Nat.zero_le _, rfl, hob0, hBm⟩
  case round =>
    clear hob0 hBm
    obtain ⟨k, hk, rfl, hob, hBr⟩ := hrel
    by_cases hlt : k < 18
    · obtain ⟨cb, hcb⟩ : ∃ cb, UInt8.ofNat k = cb := ⟨_, rfl⟩
      have hk8 := ub_ofNat k (by omega)
      rw [hcb] at hk8
      obtain ⟨d, hd⟩ : ∃ d, (digF m)[k]? = some d := ⟨_, List.getElem?_eq_getElem (by rw [digF_len]; exact hlt)⟩
      have hd15 := digF_le m d (List.mem_of_getElem? hd)
      have hgd : (digF m).getD k 0 = d := by rw [List.getD_eq_getElem?_getD, hd]; rfl
      obtain ⟨x1, hx1⟩ : ∃ x1, sig[k]? = some x1 := ⟨_, List.getElem?_eq_getElem (by have := HN.out; omega)⟩
      have hgx : sig.getD k 0 = x1 := by rw [List.getD_eq_getElem?_getD, hx1]; rfl
      obtain ⟨x2, hx2⟩ : ∃ x2, chainF x1 cb d (15 - d) = x2 := ⟨_, rfl⟩
      have hsn := rec_snoc m sig k hlt
      rw [HL.out, hcb, hgd, hgx, hx2] at hsn
      have hrg := rn_range HR.out rfl hx1
      have HRG := Lib.hid (range_keep hrg hF1.1 hg20)
      have HX2 := Lib.hid hx2
      have HSN := Lib.hid hsn
      have HK8 := Lib.hid hk8
      have HDC := Lib.hid (HDG.out k d hd)
      have s1 : (k : Int) < 18 := by omega
      have s0 : (0 : Int) ≤ (k : Int) := by omega
      obtain ⟨A6, n6, c6, rfl, -⟩ := hob.form_n
      clear hcb hx1 hx2 hsn hgd hk8 hd hgx hrg
      go_wp2
      refine wp_region_held_drew (S := fun w' => Below w1.heap.size w1 w') (by kernel_rfl) (hBr.trans (Below.refl _ _).drew) (fun hHeld => ?_)
      refine held_pure 0 19 (.slice A6 n6 c6) rfl (fun W => by rfl) hHeld ?_
      try simp only [Act.put, List.setIfInBounds_toArray, List.set_cons_zero, List.set_cons_succ]
      refine held_pure 1 20 (.slice (some ⟨g2, off2, none⟩) 18 c) rfl (fun W => by rfl) hHeld ?_
      try simp only [Act.put, List.setIfInBounds_toArray, List.set_cons_zero, List.set_cons_succ]
      refine held_pure 2 21 (.int .i64 (k : Int)) rfl (fun W => by rfl) hHeld ?_
      try simp only [Act.put, List.setIfInBounds_toArray, List.set_cons_zero, List.set_cons_succ]
      refine held_pure 3 22 (.pointer (some ⟨g2, off2 + k * 8, none⟩)) rfl (fun W => by go_simp) hHeld ?_
      try simp only [Act.put, List.setIfInBounds_toArray, List.set_cons_zero, List.set_cons_succ]
      refine held_load 4 23 rfl 30 (.tmp 22) rfl g2 (off2 + k * 8) rfl (nmR x1) (fun w' h => range_keep HRG.out h hg2) Try.underlying30 name_info hHeld ?_
      try simp only [Act.put, List.setIfInBounds_toArray, List.set_cons_zero, List.set_cons_succ]
      refine held_pure 5 24 (.int .i64 (k : Int)) rfl (fun W => by rfl) hHeld ?_
      try simp only [Act.put, List.setIfInBounds_toArray, List.set_cons_zero, List.set_cons_succ]
      refine held_pure 6 25 (.slice (some ⟨g, off, none⟩) 18 c1) rfl (fun W => by rfl) hHeld ?_
      try simp only [Act.put, List.setIfInBounds_toArray, List.set_cons_zero, List.set_cons_succ]
      refine held_pure 7 26 (.int .i64 (k : Int)) rfl (fun W => by rfl) hHeld ?_
      try simp only [Act.put, List.setIfInBounds_toArray, List.set_cons_zero, List.set_cons_succ]
      refine held_pure 8 27 (.pointer (some ⟨g, off + k, none⟩)) rfl (fun W => by go_simp) hHeld ?_
      try simp only [Act.put, List.setIfInBounds_toArray, List.set_cons_zero, List.set_cons_succ]
      refine held_if 9 28 (iV d) rfl (fun w' h => by (have hc := (h.cell (p := ⟨g, off + k, none⟩) hg).trans HDC.out; go_simp)) hHeld ?_
      try simp only [Act.put, List.setIfInBounds_toArray, List.set_cons_zero, List.set_cons_succ]
      refine held_one (i := 10) (by kernel_rfl) rfl (by rfl) (fun KK hK => ?_)
      go_wp2_with fail
      refine (ofollow_i x1 _ cb HK8.out.symm d 15 x2 (by omega) (by omega) HX2 _).mono ?_
      rintro e w3 ⟨rfl, hb⟩
      go_wp2_with fail
      refine hK.out _ _ (hHeld.trans (hb.mono hHeld.size)) (fun hHeld1 => ?_)
      clear hK KK
      try simp only [Act.put, List.setIfInBounds_toArray, List.set_cons_zero, List.set_cons_succ]
      have hob3 : ON w3 w1.heap.size 30 (.slice A6 n6 c6) (L.take k) := ON.keep (w := wr.drew) hob hb
      refine held_one (i := 11) (by kernel_rfl) rfl (by rfl) (fun KK hK => ?_)
      go_wp2_with fail
      refine hK.out _ _ (hHeld1.trans ((Below.refl _ _).alloc hHeld1.size _)) (fun hHeld2 => ?_)
      clear hK KK
      try simp only [Act.put, List.setIfInBounds_toArray, List.set_cons_zero, List.set_cons_succ]
      have hn9 := Is.new w3 30 (nmC x2)
      have hob9 := hob3.keep ((Below.refl _ _).alloc (Nat.le_refl _) (.cells (nmC x2) 30))
      have hsz9 := hHeld2.size
      refine held_one (i := 12) (by kernel_rfl) rfl (by rfl) (fun KK hK => ?_)
      refine oper_append_name 31 (.tmp 19) (.tmp 30) 48 rfl w1.heap.size 30 i8 _ Try.underlying48 HI.out HZ0.out rfl HZ1.out HZ2.out (.slice A6 n6 c6) (L.take k) rfl hob9 x2 w3.heap.size 30 rfl hn9 (by (have := HLL.out; simp; omega)) hsz9 ?_
      intro v7 w7 hob7 hg7
      refine hK.out _ _ (hHeld2.grown hg7 hsz9 (fun z hz => hob9.own z hz)) (fun hHeld3 => ?_)
      clear hK KK
      try simp only [Act.put, List.setIfInBounds_toArray, List.set_cons_zero, List.set_cons_succ]
      refine held_pure 13 7 (v7) rfl (fun W => by rfl) hHeld3 ?_
      try simp only [Act.put, List.setIfInBounds_toArray, List.set_cons_zero, List.set_cons_succ]
      refine wpAnyH_done (by kernel_rfl) ?_ _
      try simp only [Act.put, List.setIfInBounds_toArray, List.set_cons_zero, List.set_cons_succ]
      go_wp2_with fail
      go_roundw
      case rel => exact ⟨k + 1, by omega, by go_num, by rw [HSN.out] at hob7; exact hob7, hHeld3⟩
      case measure => simp [intOf]; omega
    · obtain rfl : k = 18 := by omega
      have hob3 := hob
      rw [List.take_of_length_le (by have := HLL.out; omega)] at hob3
      clear hob
      obtain ⟨A3, n3, c3, e3, HN3, hc3, hm3, HR3⟩ := hob3.form_n
      cases e3
      have hz2 := hz1.next hBr
      have hF2 := hF1.next hBr
      go_wp2_with (first
        | (go_at_call 68; refine (ojoin_any A3 L n3 c3 y HN3.out.symm (by (have := HLL.out; omega)) hc3 hy _ HR3.out).mono ?_; rintro e w3 ⟨rfl, hb3⟩; have hF3 := hF2.next hb3; have hz3 := hz2.next hb3)
        | (refine wpList_store_is rfl 30 (.tmp 4) (.tmp 34) rfl (w.heap.size + 1) 30 _ (nmC y) rfl rfl hz3 (nmC_size _) name_info (nmC_one _) ?_; intro w6 hz7 hb6))
      exact ret_is_tmp rfl (w.heap.size + 1) 30 _ rfl hz7 Try.underlying30 rfl name_info rfl ⟨rfl, hF3.1.trans (hb6.mono (by omega))⟩
end Go.Proofs.Ytjghengkpbokaaa

/-
  The developers' onetime keeps chapter 4 ('oneO').
-/
namespace Go.Proofs.Ytjghengkpbokaaa
open Go.ChangeShapes Go.WideShapes Go.ChangeAt Go.RowKit Go.Fl

/-- The program's onetime keeps chapter 4. -/
theorem oneO : OneS Try.prog 30 3 63 71 41 52 where
  digits := fun w m => odigits_any m w
  pub := fun w s y hy => opublic_any s y hy w
  sign := fun w s m => osign_any s m w
  recover := by
    rintro w m v sig r ⟨A, c, rfl, h1, h2, hr⟩ hl hr0
    have h := hr0.out
    unfold recP at h
    split at h
    · rename_i h18
      subst h
      rw [h18] at h1 ⊢
      exact orecover_yes m A sig c _ h18 h1 h2 (Lib.hid rfl) w hr
    · rename_i h18
      subst h
      exact orecover_no m A sig.length c h18 hl w
end Go.Proofs.Ytjghengkpbokaaa

/-
  Hash trees over lists of names as plain functions: the split of a length, the root of a list, the depth of a leaf, a path and what is computed from one; and what package merkle promises, as a contract of five Go functions ('MerkleS').
-/
namespace Go.Fl
open Go.ChangeShapes Go.WideShapes Go.ChangeAt Go.RowKit

/-- The greatest power of two below n (1 where there is none). -/
def splitN (n : Nat) : Nat := 2 ^ Nat.log2 (n - 1)
theorem splitN_pos (n : Nat) : 1 ≤ splitN n := Nat.one_le_two_pow
theorem splitN_lt (n : Nat) (h : 2 ≤ n) : splitN n < n := by
  have h1 : n - 1 ≠ 0 := by omega
  have h2 := Nat.log2_self_le h1
  unfold splitN
  omega
theorem splitN_two (n : Nat) : n ≤ 2 * splitN n := by
  unfold splitN
  have h := @Nat.lt_log2_self (n - 1)
  rw [Nat.pow_succ] at h
  omega
/-- A power of two that is not above the split, and twice of which is not below the length, is the split. -/
theorem splitN_eq (n j : Nat) (h1 : j ≤ Nat.log2 (n - 1)) (h2 : n ≤ 2 ^ j + 2 ^ j) : 2 ^ j = splitN n := by
  unfold splitN
  rcases Nat.eq_or_lt_of_le h1 with h | h
  · rw [h]
  · exfalso
    by_cases h0 : n - 1 = 0
    · rw [h0] at h
      rw [Nat.log2_zero] at h
      omega
    · have h3 := Nat.log2_self_le h0
      have h4 : 2 ^ (j + 1) ≤ 2 ^ Nat.log2 (n - 1) := Nat.pow_le_pow_right (by omega) h
      rw [Nat.pow_succ] at h4
      omega
/-- While twice the power is below the length there is a greater one. -/
theorem splitN_more (n j : Nat) (h : 2 ^ j + 2 ^ j < n) : j + 1 ≤ Nat.log2 (n - 1) := by
  rw [Nat.le_log2 (by have := Nat.one_le_two_pow (n := j); omega), Nat.pow_succ]
  omega

def leafF (x : BitVec 64) : BitVec 64 := sumF (17 :: nmL x)
def pairF (x y : BitVec 64) : BitVec 64 := sumF (18 :: (nmL x ++ nmL y))

/-- The root of a list's tree. -/
def rootF (l : List (BitVec 64)) : BitVec 64 :=
  if l.length = 0 then sumF [16] else if _h : l.length = 1 then leafF (l.getD 0 0) else
    if _h0 : l.length = 0 then 0 else pairF (rootF (l.take (splitN l.length))) (rootF (l.drop (splitN l.length)))
termination_by l.length
decreasing_by
  · have := splitN_lt l.length (by omega); simp; omega
  · have := splitN_pos l.length; simp; omega

theorem rootF_nil : rootF [] = sumF [16] := by rw [rootF]; simp
theorem rootF_one (x : BitVec 64) : rootF [x] = leafF x := by rw [rootF]; simp
theorem rootF_two {l : List (BitVec 64)} (h : 2 ≤ l.length) : rootF l = pairF (rootF (l.take (splitN l.length))) (rootF (l.drop (splitN l.length))) := by
  rw [rootF, if_neg (by omega), dif_neg (by omega), dif_neg (by omega)]

/-- The number of inner nodes above leaf i of n. -/
def depthF (i n : Nat) : Nat :=
  if h : n ≤ 1 then 0 else if i < splitN n then depthF i (splitN n) + 1 else depthF (i - splitN n) (n - splitN n) + 1
termination_by n
decreasing_by
  · exact splitN_lt n (by omega)
  · have := splitN_pos n; omega
theorem depthF_one {i n : Nat} (h : n ≤ 1) : depthF i n = 0 := by rw [depthF, dif_pos h]
theorem depthF_left {i n : Nat} (h : 2 ≤ n) (hi : i < splitN n) : depthF i n = depthF i (splitN n) + 1 := by rw [depthF, dif_neg (by omega), if_pos hi]
theorem depthF_right {i n : Nat} (h : 2 ≤ n) (hi : splitN n ≤ i) : depthF i n = depthF (i - splitN n) (n - splitN n) + 1 := by rw [depthF, dif_neg (by omega), if_neg (by omega)]
def depthI (i n : Int) : Int := if 0 ≤ i ∧ i < n then (depthF i.toNat n.toNat : Int) else -1

/-- The depth is at most the number of the length's bits. -/
theorem depthF_le : ∀ (b i n : Nat), n ≤ 2 ^ b → i < n → depthF i n ≤ b := by
  intro b
  induction b with
  | zero => intro i n h _; rw [depthF_one (by simpa using h)]; omega
  | succ b ih =>
    intro i n h hi
    by_cases h1 : n ≤ 1
    · rw [depthF_one h1]; omega
    · have hk : splitN n ≤ 2 ^ b := by
        unfold splitN
        refine Nat.pow_le_pow_right (by omega) ?_
        have : Nat.log2 (n - 1) < b + 1 := (Nat.log2_lt (by omega)).2 (by omega)
        omega
      have h2 := splitN_two n
      by_cases hs : i < splitN n
      · rw [depthF_left (by omega) hs]
        have := ih i (splitN n) hk hs
        omega
      · rw [depthF_right (by omega) (by omega)]
        have := ih (i - splitN n) (n - splitN n) (by omega) (by omega)
        omega

/-- The roots of the other subtrees, from the lowest. -/
def pathF (l : List (BitVec 64)) (i : Nat) : List (BitVec 64) :=
  if _h : l.length ≤ 1 then [] else if i < splitN l.length then pathF (l.take (splitN l.length)) i ++ [rootF (l.drop (splitN l.length))]
    else pathF (l.drop (splitN l.length)) (i - splitN l.length) ++ [rootF (l.take (splitN l.length))]
termination_by l.length
decreasing_by
  · have := splitN_lt l.length (by omega); simp; omega
  · have := splitN_pos l.length; simp; omega
theorem pathF_one {l : List (BitVec 64)} {i : Nat} (h : l.length ≤ 1) : pathF l i = [] := by rw [pathF, dif_pos h]
theorem pathF_left {l : List (BitVec 64)} {i : Nat} (h : 2 ≤ l.length) (hi : i < splitN l.length) : pathF l i = pathF (l.take (splitN l.length)) i ++ [rootF (l.drop (splitN l.length))] := by
  rw [pathF, dif_neg (by omega), if_pos hi]
theorem pathF_right {l : List (BitVec 64)} {i : Nat} (h : 2 ≤ l.length) (hi : splitN l.length ≤ i) : pathF l i = pathF (l.drop (splitN l.length)) (i - splitN l.length) ++ [rootF (l.take (splitN l.length))] := by
  rw [pathF, dif_neg (by omega), if_neg (by omega)]
theorem pathF_len : ∀ (n : Nat) (l : List (BitVec 64)) (i : Nat), l.length = n → i < n → (pathF l i).length = depthF i n := by
  intro n
  induction n using Nat.strongRecOn with
  | _ n ih =>
    intro l i hl hi
    by_cases h1 : n ≤ 1
    · rw [pathF_one (by omega), depthF_one h1]; rfl
    · have hlt := splitN_lt n (by omega)
      have hpos := splitN_pos n
      by_cases hs : i < splitN n
      · rw [pathF_left (by omega) (by rw [hl]; exact hs), depthF_left (by omega) hs, List.length_append, hl,
          ih (splitN n) hlt _ i (by simp; omega) hs]
        rfl
      · rw [pathF_right (by omega) (by rw [hl]; omega), depthF_right (by omega) (by omega), List.length_append, hl,
          ih (n - splitN n) (by omega) _ (i - splitN n) (by simp; omega) (by omega)]
        rfl
def pathP (l : List (BitVec 64)) (i : Int) : List (BitVec 64) × Bool := if 0 ≤ i ∧ i < (l.length : Int) then (pathF l i.toNat, true) else ([], false)

theorem pathP_len (l : List (BitVec 64)) (i : Int) (h : l.length ≤ 9223372036854775807) : (pathP l i).1.length ≤ 63 := by
  unfold pathP
  split
  · have h1 := pathF_len l.length l i.toNat rfl (by omega)
    have h2 := depthF_le 63 i.toNat l.length (by omega) (by omega)
    simp only
    omega
  · simp

/-- What is computed from a leaf and a path. -/
def followF (x : BitVec 64) (i n : Nat) (p : List (BitVec 64)) : BitVec 64 :=
  if _h : n ≤ 1 then leafF x else if i < splitN n then pairF (followF x i (splitN n) p.dropLast) (p.getD (p.length - 1) 0)
    else pairF (p.getD (p.length - 1) 0) (followF x (i - splitN n) (n - splitN n) p.dropLast)
termination_by n
decreasing_by
  · exact splitN_lt n (by omega)
  · have := splitN_pos n; omega
theorem followF_one {x : BitVec 64} {i n : Nat} {p : List (BitVec 64)} (h : n ≤ 1) : followF x i n p = leafF x := by rw [followF, dif_pos h]
theorem followF_left {x : BitVec 64} {i n : Nat} {p : List (BitVec 64)} (h : 2 ≤ n) (hi : i < splitN n) : followF x i n p = pairF (followF x i (splitN n) p.dropLast) (p.getD (p.length - 1) 0) := by
  rw [followF, dif_neg (by omega), if_pos hi]
theorem followF_right {x : BitVec 64} {i n : Nat} {p : List (BitVec 64)} (h : 2 ≤ n) (hi : splitN n ≤ i) : followF x i n p = pairF (p.getD (p.length - 1) 0) (followF x (i - splitN n) (n - splitN n) p.dropLast) := by
  rw [followF, dif_neg (by omega), if_neg (by omega)]
def followP (x : BitVec 64) (i n : Int) (p : List (BitVec 64)) : BitVec 64 × Bool :=
  if 0 ≤ depthI i n ∧ depthI i n = (p.length : Int) then (followF x i.toNat n.toNat p, true) else (0, false)
def verifyP (r x : BitVec 64) (i n : Int) (p : List (BitVec 64)) : Bool := (followP x i n p).2 && nmEq (followP x i n p).1 r

/-- What is computed from the path of a leaf is the root. -/
theorem follow_path : ∀ (n : Nat) (l : List (BitVec 64)) (i : Nat), l.length = n → i < n → followF (l.getD i 0) i n (pathF l i) = rootF l := by
  intro n
  induction n using Nat.strongRecOn with
  | _ n ih =>
    intro l i hl hi
    by_cases h1 : n ≤ 1
    · obtain ⟨y, rfl⟩ := List.length_eq_one_iff.1 (show l.length = 1 by omega)
      have : i = 0 := by simp at hl; omega
      subst this
      rw [followF_one h1, rootF_one]
      rfl
    · have hlt := splitN_lt n (by omega)
      have hpos := splitN_pos n
      have hlast : ∀ (a : List (BitVec 64)) (y : BitVec 64), (a ++ [y]).getD ((a ++ [y]).length - 1) 0 = y := fun a y => by simp [List.getD_eq_getElem?_getD]
      by_cases hs : i < splitN n
      · rw [pathF_left (by omega) (by rw [hl]; exact hs), followF_left (by omega) hs, rootF_two (l := l) (by omega), hlast, List.dropLast_concat, hl]
        have := ih (splitN n) hlt (l.take (splitN n)) i (by simp; omega) hs
        have e : (l.take (splitN n)).getD i 0 = l.getD i 0 := by simp [List.getD_eq_getElem?_getD, hs]
        rw [← this, e]
      · rw [pathF_right (by omega) (by rw [hl]; omega), followF_right (by omega) (by omega), rootF_two (l := l) (by omega), hlast, List.dropLast_concat, hl]
        have := ih (n - splitN n) (by omega) (l.drop (splitN n)) (i - splitN n) (by simp; omega) (by omega)
        have e : (l.drop (splitN n)).getD (i - splitN n) 0 = l.getD i 0 := by
          simp only [List.getD_eq_getElem?_getD, List.getElem?_drop]
          congr 2
          omega
        rw [← this, e]

theorem depthI_nat (i n : Nat) (h : i < n) : depthI (i : Int) (n : Int) = (depthF i n : Int) := by
  unfold depthI
  rw [if_pos (by omega), Int.toNat_natCast, Int.toNat_natCast]
theorem verify_path (l : List (BitVec 64)) (j : Nat) (hj : j < l.length) : verifyP (rootF l) (l.getD j 0) (j : Int) (l.length : Int) (pathF l j) = true := by
  have h1 := pathF_len l.length l j rfl hj
  have h2 : followP (l.getD j 0) (j : Int) (l.length : Int) (pathF l j) = (rootF l, true) := by
    unfold followP
    rw [depthI_nat j l.length hj, if_pos ⟨by omega, by rw [h1]⟩, Int.toNat_natCast, Int.toNat_natCast, follow_path l.length l j rfl hj]
  unfold verifyP
  rw [h2]
  simp [nmEq_self]
theorem pathP_nat (l : List (BitVec 64)) (j : Nat) (hj : j < l.length) : pathP l (j : Int) = (pathF l j, true) := by
  unfold pathP
  rw [if_pos (by omega), Int.toNat_natCast]

/-- What a function that returns names of its own and a truth answers. -/
def RetN (w : World) (tn : TypeId) (r : List (BitVec 64) × Bool) (e : Ending) (w' : World) : Prop :=
  ∃ v, e = .returned (.tuple #[v, .bool r.2]) ∧ ON w' w.heap.size tn v r.1 ∧ Below w.heap.size w w'

/-- Five functions that keep chapter 3. -/
structure MerkleS (P : Program) (tn : TypeId) (fRoot fDepth fPath fFollow fVerify : FuncId) : Prop where
  root : ∀ (w : World) (v : Value) (l : List (BitVec 64)) (x : BitVec 64), VN w v l → l.length ≤ 17592186044160 → Hid (rootF l = x) →
    Calls P fRoot #[v] w fun e w' => e = .returned (nm x) ∧ Below w.heap.size w w'
  depth : ∀ (w : World) (i n : Int), I64 i → I64 n → Calls P fDepth #[.int .i64 i, .int .i64 n] w fun e w' => e = .returned (.int .i64 (depthI i n)) ∧ Below w.heap.size w w'
  path : ∀ (w : World) (v : Value) (l : List (BitVec 64)) (i : Int) (r : List (BitVec 64) × Bool), VN w v l → l.length ≤ 17592186044160 → I64 i → Hid (pathP l i = r) →
    Calls P fPath #[v, .int .i64 i] w (RetN w tn r)
  follow : ∀ (w : World) (x : BitVec 64) (i n : Int) (v : Value) (p : List (BitVec 64)) (r : BitVec 64 × Bool), VN w v p → p.length ≤ 17592186044160 → I64 i → I64 n → Hid (followP x i n p = r) →
    Calls P fFollow #[nm x, .int .i64 i, .int .i64 n, v] w fun e w' => e = .returned (.tuple #[nm r.1, .bool r.2]) ∧ Below w.heap.size w w'
  verify : ∀ (w : World) (y x : BitVec 64) (i n : Int) (v : Value) (p : List (BitVec 64)) (r : Bool), VN w v p → p.length ≤ 17592186044160 → I64 i → I64 n → Hid (verifyP y x i n p = r) →
    Calls P fVerify #[nm y, nm x, .int .i64 i, .int .i64 n, v] w fun e w' => e = .returned (.bool r) ∧ Below w.heap.size w w'
end Go.Fl

/-
  forkledgerref1.Pair.
-/
namespace Go.Proofs.Ytjghengkpbokaaa
open Go.ChangeShapes Go.WideShapes Go.ChangeAt Go.RowKit Go.Fl

def pairB (w : World) (y z : BitVec 64) : World := ((w.alloc (.cells (nmC y) 30)).alloc (.cells (nmC z) 30)).alloc (.cells #[B 0, B 0, B 0, B 0, B 0, B 0, B 0, B 0] 30)
theorem pairB_facts (w : World) (y z : BitVec 64) : Is (pairB w y z) w.heap.size 30 (nmC y) ∧ Is (pairB w y z) (w.heap.size + 1) 30 (nmC z) ∧ Is (pairB w y z) (w.heap.size + 1 + 1) 30 #[B 0, B 0, B 0, B 0, B 0, B 0, B 0, B 0] ∧ Fr w 3 (pairB w y z) :=
  ⟨((Is.new w _ _).old _).old _, (Is.newAt _ _ _ (by simp)).old _, Is.newAt _ _ _ (by simp), (((Fr.refl w).alloc _).alloc _).alloc _⟩

set_option maxRecDepth 10000 in
set_option maxHeartbeats 1000000 in
theorem rpair_any {x : BitVec 64} (t : UInt8) (y z : BitVec 64) (hx : Hid (sumF (t :: (nmL y ++ nmL z)) = x)) (w : World) :
    Calls Try.prog 50 #[B t, nm y, nm z] w fun e w' => e = .returned (nm x) ∧ Below w.heap.size w w' := by
  obtain ⟨i0, hi, hz0, hz1, hz2⟩ := info_parts info_byte
  have HI := Lib.hid hi
  have HZ0 := Lib.hid hz0
  have HZ1 := Lib.hid hz1
  have HZ2 := Lib.hid hz2
  clear hi hz0 hz1 hz2
  obtain ⟨h1, h2, h3, hF⟩ := pairB_facts w y z
  go_enter Try.func50, Try.ntmps50
  go_wp2
  change Code.wp _ _ _ _ (pairB w y z)
  have hsz : (pairB w y z).heap.size = w.heap.size + 3 := by simp [pairB]
  generalize pairB w y z = W at *
  refine wp_region_held_drew (S := fun _ => True) (by kernel_rfl) trivial (fun _ => ?_)
  refine held_pure 0 7 (B t) rfl (fun _ => rfl) trivial ?_
  refine held_pure 2 9 (.slice (some ⟨w.heap.size, 0, none⟩) 8 8) rfl (fun W => by go_simp) trivial ?_
  refine held_pure 4 11 (.slice (some ⟨w.heap.size + 1, 0, none⟩) 8 8) rfl (fun W => by go_simp) trivial ?_
  try simp only [Act.put, List.setIfInBounds_toArray, List.set_cons_zero, List.set_cons_succ]
  refine held_one (i := 1) (by kernel_rfl) rfl (by rfl) (fun K hK => ?_)
  go_wp2_with fail
  refine hK.out _ _ trivial (fun _ => ?_)
  clear hK K
  have hob0 : OB (W.alloc (.cells #[] 5)).drew (w.heap.size + 3) 5 (.slice (some ⟨w.heap.size + 3, 0, none⟩) 0 0) [] := by
    have := ob_empty W 5 (g := W.heap.size) rfl
    rw [hsz] at this
    exact this.drew
  have hF0 := (hF.alloc (.cells #[] 5)).drew
  have h10 := (h1.old (.cells #[] 5)).drew
  have h20 := (h2.old (.cells #[] 5)).drew
  have h30 := (h3.old (.cells #[] 5)).drew
  refine held_one (i := 3) (by kernel_rfl) rfl (by rfl) (fun K hK => ?_)
  refine oper_append_ob (.tmp 8) (.tmp 9) 22 rfl (w.heap.size + 3) 5 i0 Try.underlying22 HI.out HZ0.out HZ1.out HZ2.out (.slice (some ⟨w.heap.size + 3, 0, none⟩) 0 0) [] rfl hob0 _ (some ⟨w.heap.size, 0, none⟩) (nmL y) 8 8 rfl rfl (is_rb h10 h10.lt) (by rw [nmL_len]; simp) (by (have := hF0.2; omega)) ?_
  intro v1 w1 hob1 hg1
  have hF1 := hF0.grown hg1 (fun q hq => by have := hob0.own q hq; omega)
  have h21 := h20.grown hg1 (fun q hq => by have := hob0.own q hq; omega)
  have h31 := h30.grown hg1 (fun q hq => by have := hob0.own q hq; omega)
  refine hK.out _ _ trivial (fun _ => ?_)
  clear hK K hg1 hob0 hF0 h10 h20 h30
  refine held_one (i := 5) (by kernel_rfl) rfl (by rfl) (fun K hK => ?_)
  refine oper_append_ob (.tmp 10) (.tmp 11) 22 rfl (w.heap.size + 3) 5 i0 Try.underlying22 HI.out HZ0.out HZ1.out HZ2.out _ ([] ++ nmL y) rfl hob1 _ (some ⟨w.heap.size + 1, 0, none⟩) (nmL z) 8 8 rfl rfl (is_rb h21 h21.lt) (by simp [nmL_len]) (by (have := hF1.2; omega)) ?_
  intro v2 w2 hob2 hg2
  have hF2 := hF1.grown hg2 (fun q hq => by have := hob1.own q hq; omega)
  have h32 := h31.grown hg2 (fun q hq => by have := hob1.own q hq; omega)
  refine hK.out _ _ trivial (fun _ => ?_)
  clear hK K hg2 hob1 h21 h31 hF1
  have hob3 : OB w2 (w.heap.size + 3) 5 v2 (nmL y ++ nmL z) := hob2
  clear hob2
  obtain ⟨A3, c3, rfl, hc3, hm3, hr3⟩ := hob3.form
  have hl : (nmL y ++ nmL z).length = 16 := rfl
  rw [hl] at hc3
  refine held_one (i := 6) (by kernel_rfl) rfl (by rfl) (fun K hK => ?_)
  go_wp2_with fail
  refine (rtagged_n t A3 (nmL y ++ nmL z) _ c3 rfl hx (by rw [hl]; exact hc3) (by rw [hl]; omega) _ hr3).mono ?_
  rintro e w3 ⟨rfl, hb3⟩
  have hF3 := hF2.next hb3
  have h33 := h32.next hb3
  go_wp2_with fail
  refine hK.out _ _ trivial (fun _ => ?_)
  clear hK K
  refine held_one (i := 7) (by kernel_rfl) rfl (by rfl) (fun K hK => ?_)
  refine oper_store_is 30 (.tmp 6) (.tmp 13) rfl (w.heap.size + 1 + 1) 30 _ (nmC x) rfl rfl h33 (nmC_size _) name_info (nmC_one _) ?_
  intro w4 hz4 hb4 _
  refine hK.out _ _ trivial (fun _ => wpAnyH_done (by kernel_rfl) ?_ _)
  clear hK K
  go_wp2_with fail
  exact ret_is rfl (w.heap.size + 1 + 1) 30 _ rfl hz4 Try.underlying30 rfl name_info rfl ⟨rfl, hF3.1.trans (hb4.mono (by omega))⟩
end Go.Proofs.Ytjghengkpbokaaa
