/-
  The statement ManytimeVerifies, proved for every seed, numbers, names, bytes and byte, with no condition: Verify is as documented for any bytes, and for right signatures of which one byte is changed.
-/
import Derived.Test.YtjghengkpbokaaaG20
namespace Go.Proofs.Ytjghengkpbokaaa.manytimeVerifies
open Go.ChangeShapes Go.WideShapes Go.ChangeAt Go.RowKit Go.Fl

attribute [local go_sem] equal_nm eqGuard_nm

def verW (w : World) (s m o : BitVec 64) : World := ((w.alloc (.cells (nmC s) 30)).alloc (.cells (nmC m) 30)).alloc (.cells (nmC o) 30)
theorem verW_facts (w : World) (s m o : BitVec 64) : Is (verW w s m o) w.heap.size 30 (nmC s) ∧ Is (verW w s m o) (w.heap.size + 1) 30 (nmC m) ∧ Is (verW w s m o) (w.heap.size + 2) 30 (nmC o) ∧ Fr w 3 (verW w s m o) :=
  ⟨((Is.new w _ _).old _).old _, (Is.newAt _ _ _ (by simp)).old _, Is.newAt _ _ _ (by simp), (((Fr.refl w).alloc _).alloc _).alloc _⟩

set_option maxRecDepth 10000 in
set_option maxHeartbeats 2000000 in
theorem walk1 (w : World) (s : BitVec 64) (lv leaf : Int) (m o : BitVec 64) (v : Value) (l : List UInt8) (at_ : Int) (by_ : UInt8) (hlv : I64 lv) (hleaf : I64 leaf) (h : VB w v l) (hl : l.length ≤ 140737488351232) (hat : I64 at_) (A : Nat) (hA : IntKind.u64.wrap lv = (A : Int)) (hA2 : A % 2 = 0) :
    Calls Try.prog 6 #[nm s, .int .i64 lv, .int .i64 leaf, nm m, nm o, v, .int .i64 at_, B by_] w fun e w' => e = .returned (.bool true) ∧ Below w.heap.size w w' := by
  obtain ⟨hs0, hm0, ho0, hF⟩ := verW_facts w s m o
  obtain ⟨i0, hi, hz0, hz1, hz2⟩ := info_parts info_byte
  have HI := Lib.hid hi
  have HZ0 := Lib.hid hz0
  have HZ1 := Lib.hid hz1
  have HZ2 := Lib.hid hz2
  have HL := Lib.hid hl
  have HLV := Lib.hid hlv
  obtain ⟨hle1, hle2⟩ := hleaf
  obtain ⟨hat1, hat2⟩ := hat
  have hA3 : (A : Int) % 2 = 0 := by omega
  have hA4 : Int.tmod (A : Int) 2 = 0 := by rw [Int.tmod_eq_emod_of_nonneg (by omega)]; exact hA3
  obtain ⟨B0, hB0⟩ : ∃ n : Nat, IntKind.u64.wrap leaf = (n : Int) := ⟨(IntKind.u64.wrap leaf).toNat, by rw [IntKind.wrap_u64]; omega⟩
  obtain ⟨p, hp⟩ : ∃ n : Nat, B0 % 32 = n := ⟨_, rfl⟩
  have hp1 : (B0 : Int) % 32 = (p : Int) := by omega
  have hp2 : Int.tmod (B0 : Int) 32 = (p : Int) := by rw [Int.tmod_eq_emod_of_nonneg (by omega)]; exact hp1
  have hp3 : p < 32 := by omega
  have hp4 : IntKind.i64.wrap (p : Int) = (p : Int) := by rw [IntKind.wrap_i64]; omega
  have hp5 : IntKind.u64.wrap (p : Int) = (p : Int) := by rw [IntKind.wrap_u64]; omega
  have hp0 : (0 : Int) ≤ (p : Int) := by omega
  obtain ⟨N, hN⟩ : ∃ n : Nat, IntKind.u64.wrap at_ = (n : Int) := ⟨(IntKind.u64.wrap at_).toNat, by rw [IntKind.wrap_u64]; omega⟩
  obtain ⟨j, hj⟩ : ∃ n : Nat, N % 186 = n := ⟨_, rfl⟩
  have hj1 : (N : Int) % 186 = (j : Int) := by omega
  have hj2 : Int.tmod (N : Int) 186 = (j : Int) := by rw [Int.tmod_eq_emod_of_nonneg (by omega)]; exact hj1
  have hj3 : j < 186 := by omega
  have hj4 : IntKind.i64.wrap (j : Int) = (j : Int) := by rw [IntKind.wrap_i64]; omega
  have hj5 : IntKind.u64.wrap (j : Int) = (j : Int) := by rw [IntKind.wrap_u64]; omega
  have hj0 : (0 : Int) ≤ (j : Int) := by omega
  have hj6 : (j : Int) < 186 := by omega
  obtain ⟨X, hX⟩ : ∃ x, sign1F s p m = x := ⟨_, rfl⟩
  obtain ⟨y, hy⟩ : ∃ y, mpubF s 1 = y := ⟨_, rfl⟩
  have HSX : Hid (signP s 1 (p : Int) m = (X, true)) := Lib.hid (by unfold signP; rw [if_pos ⟨rfl, by omega, by omega⟩, Int.toNat_natCast, hX])
  have HXL : Hid (X.length = 186) := Lib.hid (by rw [← hX]; exact sign1F_len s p m hp3)
  have HY := Lib.hid hy
  have hw3 : IntKind.i64.wrap (1 : Int) = 1 := by decide
  have hwc : IntKind.u64.wrap (32 : Int) = 32 := by decide
  clear hX hy hA2 hp hj hi hz0 hz1 hz2 hlv
  go_enter Try.func6, Try.ntmps6
  go_wp2_with fail
  change Code.wp _ _ _ _ (verW w s m o)
  generalize verW w s m o = W at *
  refine wp_region_held_drew (S := fun w' => Below W.heap.size W w') (by kernel_rfl) (Below.refl _ _).drew (fun hHeld => ?_)
  refine held_load 0 28 rfl 30 (.tmp 8) rfl w.heap.size 0 rfl (nmR s) (fun w' h => range_is (cs := nmR s) (hs0.next h)) Try.underlying30 name_info hHeld ?_
  try simp only [Act.put, List.setIfInBounds_toArray, List.set_cons_zero, List.set_cons_succ]
  refine held_pure 1 29 (.int .i64 1) rfl (fun W => by rfl) hHeld ?_
  try simp only [Act.put, List.setIfInBounds_toArray, List.set_cons_zero, List.set_cons_succ]
  refine held_pure 2 30 (.int .i64 leaf) rfl (fun W => by rfl) hHeld ?_
  try simp only [Act.put, List.setIfInBounds_toArray, List.set_cons_zero, List.set_cons_succ]
  refine held_pure 3 31 (.int .u64 (B0 : Int)) rfl (fun W => by go_simp) hHeld ?_
  try simp only [Act.put, List.setIfInBounds_toArray, List.set_cons_zero, List.set_cons_succ]
  refine held_pure 4 32 (.int .i64 1) rfl (fun W => by rfl) hHeld ?_
  try simp only [Act.put, List.setIfInBounds_toArray, List.set_cons_zero, List.set_cons_succ]
  refine held_load 9 37 rfl 30 (.tmp 11) rfl (w.heap.size + 1) 0 rfl (nmR m) (fun w' h => range_is (cs := nmR m) (hm0.next h)) Try.underlying30 name_info hHeld ?_
  try simp only [Act.put, List.setIfInBounds_toArray, List.set_cons_zero, List.set_cons_succ]
  refine held_one (i := 5) (by kernel_rfl) rfl (by rfl) (fun KK hK => ?_)
  go_wp2_with fail
  refine (refN.cap _ 1 ⟨by omega, by omega⟩).mono ?_
  rintro e x1 ⟨rfl, hb⟩
  rw [cap_one]
  go_wp2_with fail
  refine hK.out _ _ (hHeld.trans (hb.mono hHeld.size)) (fun hHeld1 => ?_)
  clear hK KK
  try simp only [Act.put, List.setIfInBounds_toArray, List.set_cons_zero, List.set_cons_succ]
  refine held_pure 6 34 (.int .u64 32) rfl (fun W => by go_simp) hHeld1 ?_
  try simp only [Act.put, List.setIfInBounds_toArray, List.set_cons_zero, List.set_cons_succ]
  refine held_pure 7 35 (.int .u64 (p : Int)) rfl (fun W => by go_simp) hHeld1 ?_
  try simp only [Act.put, List.setIfInBounds_toArray, List.set_cons_zero, List.set_cons_succ]
  refine held_pure 8 36 (.int .i64 (p : Int)) rfl (fun W => by go_simp) hHeld1 ?_
  try simp only [Act.put, List.setIfInBounds_toArray, List.set_cons_zero, List.set_cons_succ]
  refine held_one (i := 10) (by kernel_rfl) rfl (by rfl) (fun KK hK => ?_)
  go_wp2_with fail
  refine (refN.sign _ s 1 (p : Int) m (X, true) ⟨by omega, by omega⟩ ⟨by omega, by omega⟩ HSX).mono ?_
  rintro e x2 ⟨u2, rfl, ho2, hb⟩
  obtain ⟨A1, c1, e1, d1, d2, hr1⟩ := ho2.vb
  rw [HXL.out] at e1 d1
  subst e1
  go_wp2_with fail
  refine hK.out _ _ (hHeld1.trans (hb.mono hHeld1.size)) (fun hHeld2 => ?_)
  clear hK KK
  try simp only [Act.put, List.setIfInBounds_toArray, List.set_cons_zero, List.set_cons_succ]
  refine held_pure 11 27 (.tuple #[.slice A1 186 c1, .bool true]) rfl (fun W => by rfl) hHeld2 ?_
  try simp only [Act.put, List.setIfInBounds_toArray, List.set_cons_zero, List.set_cons_succ]
  refine held_pure 12 39 (.slice A1 186 c1) rfl (fun W => by rfl) hHeld2 ?_
  try simp only [Act.put, List.setIfInBounds_toArray, List.set_cons_zero, List.set_cons_succ]
  refine held_pure 13 40 (.bool true) rfl (fun W => by rfl) hHeld2 ?_
  try simp only [Act.put, List.setIfInBounds_toArray, List.set_cons_zero, List.set_cons_succ]
  refine held_pure 14 18 (.slice A1 186 c1) rfl (fun W => by rfl) hHeld2 ?_
  try simp only [Act.put, List.setIfInBounds_toArray, List.set_cons_zero, List.set_cons_succ]
  refine held_pure 15 19 (.bool true) rfl (fun W => by rfl) hHeld2 ?_
  try simp only [Act.put, List.setIfInBounds_toArray, List.set_cons_zero, List.set_cons_succ]
  refine wpAnyH_done (by kernel_rfl) ?_ _
  try simp only [Act.put, List.setIfInBounds_toArray, List.set_cons_zero, List.set_cons_succ]
  have hB2 := hHeld2
  clear hHeld2
  have hs2 := hs0.next hB2
  have hs2c := hs2.cell
  go_wp2_with fail
  refine (refN.pub _ s 1 y ⟨by omega, by omega⟩ HY).mono ?_
  rintro e w4 ⟨rfl, hb4⟩
  have hn4 := Is.new w4 30 #[B 0, B 0, B 0, B 0, B 0, B 0, B 0, B 0]
  have hr4 := (hr1.keep hb4).mono hb4.size
  have hB4 := hB2.trans (hb4.mono hB2.size)
  clear hs2 hs2c hr1 hb4 hB2
  go_wp2_with (first
    | (refine wpList_store_is rfl 30 (.tmp 20) (.tmp 43) rfl w4.heap.size 30 _ (nmC y) rfl rfl hn4 (nmC_size _) name_info (nmC_one _) ?_; intro w5 hp5' hb5; have hbb := ((Below.refl w4.heap.size w4).alloc (Nat.le_refl _) (.cells #[B 0, B 0, B 0, B 0, B 0, B 0, B 0, B 0] 30)).trans hb5; have hB5 := hB4.trans (hbb.mono hB4.size); have hr5 := (hr4.keep hbb).mono hbb.size; have hF6 := (Fr.refl w5).alloc (.cells #[] 5); have hr6 := (hr5.keep hF6.1).mono hF6.1.size; clear hn4 hb5)
    | (at_builtin; refine wpList_append_ob rfl (.tmp 47) (.tmp 48) 22 rfl w5.heap.size 5 i0 Try.underlying22 HI.out HZ0.out HZ1.out HZ2.out (.slice (some ⟨w5.heap.size, 0, none⟩) 0 0) [] rfl (ob_empty w5 5 rfl) _ A1 X 186 c1 rfl HXL.out hr6 (by (have := HXL.out; simp; omega)) hF6.1.size ?_; intro v7 w7 hob7 hg7 _; have hF7 := hF6.grown hg7 (fun k hk => by (have := (ob_empty w5 5 rfl).own k hk; omega)); rw [List.nil_append] at hob7; obtain ⟨g, cap, b, e7, hg7', hgl, hbj, hc7, hf7, hset⟩ := ob_set hob7 j (by (have := HXL.out; omega)); rw [HXL.out] at e7; subst e7; obtain ⟨z, hz⟩ := xor_u8 b by_; clear hg7 hob7 hr6)
    | fail)
  have hc8' := hset z
  have hF8 := hF7.setCell (p := ⟨g, j, none⟩) hg7' (B z)
  change Code.wp _ _ _ _ (w7.setCell ⟨g, j, none⟩ (B z))
  generalize w7.setCell ⟨g, j, none⟩ (B z) = w8 at *
  obtain ⟨C, hC⟩ : ∃ C, X.set j z = C := ⟨_, rfl⟩
  have HCL : Hid (C.length = 186) := Lib.hid (by rw [← hC, List.length_set]; exact HXL.out)
  rw [hC] at hc8'
  have hc8 := hc8'.vb
  have hB6 := hB5.trans (hF8.1.mono hB5.size)
  have hm8 := hm0.next hB6
  have ho8 := ho0.next hB6
  have hp8 := hp5'.next hF8.1
  have hs8 : VB w8 (.slice A1 186 c1) X := ⟨A1, c1, by rw [HXL.out], by rw [HXL.out]; exact d1, d2, (hr5.keep hF8.1).mono hF8.1.size⟩
  have hraw8 := (h.next hF.1).next hB6
  obtain ⟨AR, nR, cR, eR, -⟩ := h.form_n
  subst eR
  obtain ⟨r1, hr1⟩ : ∃ r, verM y 1 m C = r := ⟨_, rfl⟩
  obtain ⟨r2, hr2⟩ : ∃ r, verM y 1 o X = r := ⟨_, rfl⟩
  obtain ⟨r3, hr3⟩ : ∃ r, verM o 1 m X = r := ⟨_, rfl⟩
  obtain ⟨r4, hr4'⟩ : ∃ r, verM y lv m l = r := ⟨_, rfl⟩
  have H1 := Lib.hid hr1
  have H2 := Lib.hid hr2
  have H3 := Lib.hid hr3
  have H4 := Lib.hid hr4'
  have hlv := HLV.out
  clear hset hc8' hC hr1 hr2 hr3 hr4' hr5 hc7 hf7 hbj hz h hp5' hF7
  refine wp_region_held_drew (S := fun w' => Below w8.heap.size w8 w') (by kernel_rfl) (Below.refl _ _).drew (fun hHeld => ?_)
  refine held_load 0 63 rfl 30 (.tmp 20) rfl w4.heap.size 0 rfl (nmR y) (fun w' h => range_is (cs := nmR y) (hp8.next h)) Try.underlying30 name_info hHeld ?_
  try simp only [Act.put, List.setIfInBounds_toArray, List.set_cons_zero, List.set_cons_succ]
  refine held_pure 1 64 (.int .i64 1) rfl (fun W => by rfl) hHeld ?_
  try simp only [Act.put, List.setIfInBounds_toArray, List.set_cons_zero, List.set_cons_succ]
  refine held_load 2 65 rfl 30 (.tmp 11) rfl (w.heap.size + 1) 0 rfl (nmR m) (fun w' h => range_is (cs := nmR m) (hm8.next h)) Try.underlying30 name_info hHeld ?_
  try simp only [Act.put, List.setIfInBounds_toArray, List.set_cons_zero, List.set_cons_succ]
  refine held_pure 3 66 (.slice (some ⟨g, 0, none⟩) 186 cap) rfl (fun W => by rfl) hHeld ?_
  try simp only [Act.put, List.setIfInBounds_toArray, List.set_cons_zero, List.set_cons_succ]
  refine held_load 5 68 rfl 30 (.tmp 20) rfl w4.heap.size 0 rfl (nmR y) (fun w' h => range_is (cs := nmR y) (hp8.next h)) Try.underlying30 name_info hHeld ?_
  try simp only [Act.put, List.setIfInBounds_toArray, List.set_cons_zero, List.set_cons_succ]
  refine held_pure 6 69 (.int .i64 1) rfl (fun W => by rfl) hHeld ?_
  try simp only [Act.put, List.setIfInBounds_toArray, List.set_cons_zero, List.set_cons_succ]
  refine held_load 7 70 rfl 30 (.tmp 11) rfl (w.heap.size + 1) 0 rfl (nmR m) (fun w' h => range_is (cs := nmR m) (hm8.next h)) Try.underlying30 name_info hHeld ?_
  try simp only [Act.put, List.setIfInBounds_toArray, List.set_cons_zero, List.set_cons_succ]
  refine held_pure 8 71 (.slice (some ⟨g, 0, none⟩) 186 cap) rfl (fun W => by rfl) hHeld ?_
  try simp only [Act.put, List.setIfInBounds_toArray, List.set_cons_zero, List.set_cons_succ]
  refine held_one (i := 4) (by kernel_rfl) rfl (by rfl) (fun KK hK => ?_)
  go_wp2_with fail
  refine (manN.ver _ y 1 m _ C r1 ⟨by omega, by omega⟩ (hc8.next hHeld) (by (have := HCL.out; omega)) H1).mono ?_
  rintro e x1 ⟨rfl, hb⟩
  go_wp2_with fail
  refine hK.out _ _ (hHeld.trans (hb.mono hHeld.size)) (fun hHeld1 => ?_)
  clear hK KK
  try simp only [Act.put, List.setIfInBounds_toArray, List.set_cons_zero, List.set_cons_succ]
  refine held_one (i := 9) (by kernel_rfl) rfl (by rfl) (fun KK hK => ?_)
  go_wp2_with fail
  refine (refN.ver _ y 1 m _ C r1 ⟨by omega, by omega⟩ (hc8.next hHeld1) (by (have := HCL.out; omega)) H1).mono ?_
  rintro e x1 ⟨rfl, hb⟩
  go_wp2_with fail
  refine hK.out _ _ (hHeld1.trans (hb.mono hHeld1.size)) (fun hHeld2 => ?_)
  clear hK KK
  try simp only [Act.put, List.setIfInBounds_toArray, List.set_cons_zero, List.set_cons_succ]
  refine held_pure 10 73 (.bool false) rfl (fun W => by go_simp) hHeld2 ?_
  try simp only [Act.put, List.setIfInBounds_toArray, List.set_cons_zero, List.set_cons_succ]
  refine held_pure 11 74 (.bool false) rfl (fun W => by rfl) hHeld2 ?_
  try simp only [Act.put, List.setIfInBounds_toArray, List.set_cons_zero, List.set_cons_succ]
  refine held_load 12 75 rfl 30 (.tmp 20) rfl w4.heap.size 0 rfl (nmR y) (fun w' h => range_is (cs := nmR y) (hp8.next h)) Try.underlying30 name_info hHeld2 ?_
  try simp only [Act.put, List.setIfInBounds_toArray, List.set_cons_zero, List.set_cons_succ]
  refine held_pure 13 76 (.int .i64 1) rfl (fun W => by rfl) hHeld2 ?_
  try simp only [Act.put, List.setIfInBounds_toArray, List.set_cons_zero, List.set_cons_succ]
  refine held_load 14 77 rfl 30 (.tmp 12) rfl (w.heap.size + 2) 0 rfl (nmR o) (fun w' h => range_is (cs := nmR o) (ho8.next h)) Try.underlying30 name_info hHeld2 ?_
  try simp only [Act.put, List.setIfInBounds_toArray, List.set_cons_zero, List.set_cons_succ]
  refine held_pure 15 78 (.slice A1 186 c1) rfl (fun W => by rfl) hHeld2 ?_
  try simp only [Act.put, List.setIfInBounds_toArray, List.set_cons_zero, List.set_cons_succ]
  refine held_load 17 80 rfl 30 (.tmp 20) rfl w4.heap.size 0 rfl (nmR y) (fun w' h => range_is (cs := nmR y) (hp8.next h)) Try.underlying30 name_info hHeld2 ?_
  try simp only [Act.put, List.setIfInBounds_toArray, List.set_cons_zero, List.set_cons_succ]
  refine held_pure 18 81 (.int .i64 1) rfl (fun W => by rfl) hHeld2 ?_
  try simp only [Act.put, List.setIfInBounds_toArray, List.set_cons_zero, List.set_cons_succ]
  refine held_load 19 82 rfl 30 (.tmp 12) rfl (w.heap.size + 2) 0 rfl (nmR o) (fun w' h => range_is (cs := nmR o) (ho8.next h)) Try.underlying30 name_info hHeld2 ?_
  try simp only [Act.put, List.setIfInBounds_toArray, List.set_cons_zero, List.set_cons_succ]
  refine held_pure 20 83 (.slice A1 186 c1) rfl (fun W => by rfl) hHeld2 ?_
  try simp only [Act.put, List.setIfInBounds_toArray, List.set_cons_zero, List.set_cons_succ]
  refine held_one (i := 16) (by kernel_rfl) rfl (by rfl) (fun KK hK => ?_)
  go_wp2_with fail
  refine (manN.ver _ y 1 o _ X r2 ⟨by omega, by omega⟩ (hs8.next hHeld2) (by (have := HXL.out; omega)) H2).mono ?_
  rintro e x1 ⟨rfl, hb⟩
  go_wp2_with fail
  refine hK.out _ _ (hHeld2.trans (hb.mono hHeld2.size)) (fun hHeld3 => ?_)
  clear hK KK
  try simp only [Act.put, List.setIfInBounds_toArray, List.set_cons_zero, List.set_cons_succ]
  refine held_one (i := 21) (by kernel_rfl) rfl (by rfl) (fun KK hK => ?_)
  go_wp2_with fail
  refine (refN.ver _ y 1 o _ X r2 ⟨by omega, by omega⟩ (hs8.next hHeld3) (by (have := HXL.out; omega)) H2).mono ?_
  rintro e x1 ⟨rfl, hb⟩
  go_wp2_with fail
  refine hK.out _ _ (hHeld3.trans (hb.mono hHeld3.size)) (fun hHeld4 => ?_)
  clear hK KK
  try simp only [Act.put, List.setIfInBounds_toArray, List.set_cons_zero, List.set_cons_succ]
  refine held_pure 22 85 (.bool false) rfl (fun W => by go_simp) hHeld4 ?_
  try simp only [Act.put, List.setIfInBounds_toArray, List.set_cons_zero, List.set_cons_succ]
  refine held_pure 23 86 (.bool false) rfl (fun W => by rfl) hHeld4 ?_
  try simp only [Act.put, List.setIfInBounds_toArray, List.set_cons_zero, List.set_cons_succ]
  refine held_pure 24 87 (.bool false) rfl (fun W => by rfl) hHeld4 ?_
  try simp only [Act.put, List.setIfInBounds_toArray, List.set_cons_zero, List.set_cons_succ]
  refine held_load 25 88 rfl 30 (.tmp 12) rfl (w.heap.size + 2) 0 rfl (nmR o) (fun w' h => range_is (cs := nmR o) (ho8.next h)) Try.underlying30 name_info hHeld4 ?_
  try simp only [Act.put, List.setIfInBounds_toArray, List.set_cons_zero, List.set_cons_succ]
  refine held_pure 26 89 (.int .i64 1) rfl (fun W => by rfl) hHeld4 ?_
  try simp only [Act.put, List.setIfInBounds_toArray, List.set_cons_zero, List.set_cons_succ]
  refine held_load 27 90 rfl 30 (.tmp 11) rfl (w.heap.size + 1) 0 rfl (nmR m) (fun w' h => range_is (cs := nmR m) (hm8.next h)) Try.underlying30 name_info hHeld4 ?_
  try simp only [Act.put, List.setIfInBounds_toArray, List.set_cons_zero, List.set_cons_succ]
  refine held_pure 28 91 (.slice A1 186 c1) rfl (fun W => by rfl) hHeld4 ?_
  try simp only [Act.put, List.setIfInBounds_toArray, List.set_cons_zero, List.set_cons_succ]
  refine held_load 30 93 rfl 30 (.tmp 12) rfl (w.heap.size + 2) 0 rfl (nmR o) (fun w' h => range_is (cs := nmR o) (ho8.next h)) Try.underlying30 name_info hHeld4 ?_
  try simp only [Act.put, List.setIfInBounds_toArray, List.set_cons_zero, List.set_cons_succ]
  refine held_pure 31 94 (.int .i64 1) rfl (fun W => by rfl) hHeld4 ?_
  try simp only [Act.put, List.setIfInBounds_toArray, List.set_cons_zero, List.set_cons_succ]
  refine held_load 32 95 rfl 30 (.tmp 11) rfl (w.heap.size + 1) 0 rfl (nmR m) (fun w' h => range_is (cs := nmR m) (hm8.next h)) Try.underlying30 name_info hHeld4 ?_
  try simp only [Act.put, List.setIfInBounds_toArray, List.set_cons_zero, List.set_cons_succ]
  refine held_pure 33 96 (.slice A1 186 c1) rfl (fun W => by rfl) hHeld4 ?_
  try simp only [Act.put, List.setIfInBounds_toArray, List.set_cons_zero, List.set_cons_succ]
  refine held_one (i := 29) (by kernel_rfl) rfl (by rfl) (fun KK hK => ?_)
  go_wp2_with fail
  refine (manN.ver _ o 1 m _ X r3 ⟨by omega, by omega⟩ (hs8.next hHeld4) (by (have := HXL.out; omega)) H3).mono ?_
  rintro e x1 ⟨rfl, hb⟩
  go_wp2_with fail
  refine hK.out _ _ (hHeld4.trans (hb.mono hHeld4.size)) (fun hHeld5 => ?_)
  clear hK KK
  try simp only [Act.put, List.setIfInBounds_toArray, List.set_cons_zero, List.set_cons_succ]
  refine held_one (i := 34) (by kernel_rfl) rfl (by rfl) (fun KK hK => ?_)
  go_wp2_with fail
  refine (refN.ver _ o 1 m _ X r3 ⟨by omega, by omega⟩ (hs8.next hHeld5) (by (have := HXL.out; omega)) H3).mono ?_
  rintro e x1 ⟨rfl, hb⟩
  go_wp2_with fail
  refine hK.out _ _ (hHeld5.trans (hb.mono hHeld5.size)) (fun hHeld6 => ?_)
  clear hK KK
  try simp only [Act.put, List.setIfInBounds_toArray, List.set_cons_zero, List.set_cons_succ]
  refine held_pure 35 98 (.bool false) rfl (fun W => by go_simp) hHeld6 ?_
  try simp only [Act.put, List.setIfInBounds_toArray, List.set_cons_zero, List.set_cons_succ]
  refine held_pure 36 99 (.bool false) rfl (fun W => by rfl) hHeld6 ?_
  try simp only [Act.put, List.setIfInBounds_toArray, List.set_cons_zero, List.set_cons_succ]
  refine wpAnyH_done (by kernel_rfl) ?_ _
  try simp only [Act.put, List.setIfInBounds_toArray, List.set_cons_zero, List.set_cons_succ]
  have hB8 := hHeld6
  clear hHeld6
  go_wp2_with fail
  refine wp_region_held_drew (S := fun w' => Below w8.heap.size w8 w') (by kernel_rfl) (hB8.trans (Below.refl _ _).drew) (fun hG => ?_)
  refine held_load 0 100 rfl 30 (.tmp 20) rfl w4.heap.size 0 rfl (nmR y) (fun w' h => range_is (cs := nmR y) (hp8.next h)) Try.underlying30 name_info hG ?_
  try simp only [Act.put, List.setIfInBounds_toArray, List.set_cons_zero, List.set_cons_succ]
  refine held_pure 1 101 (.int .i64 lv) rfl (fun W => by rfl) hG ?_
  try simp only [Act.put, List.setIfInBounds_toArray, List.set_cons_zero, List.set_cons_succ]
  refine held_load 2 102 rfl 30 (.tmp 11) rfl (w.heap.size + 1) 0 rfl (nmR m) (fun w' h => range_is (cs := nmR m) (hm8.next h)) Try.underlying30 name_info hG ?_
  try simp only [Act.put, List.setIfInBounds_toArray, List.set_cons_zero, List.set_cons_succ]
  refine held_pure 3 103 (.slice AR nR cR) rfl (fun W => by rfl) hG ?_
  try simp only [Act.put, List.setIfInBounds_toArray, List.set_cons_zero, List.set_cons_succ]
  refine held_load 5 105 rfl 30 (.tmp 20) rfl w4.heap.size 0 rfl (nmR y) (fun w' h => range_is (cs := nmR y) (hp8.next h)) Try.underlying30 name_info hG ?_
  try simp only [Act.put, List.setIfInBounds_toArray, List.set_cons_zero, List.set_cons_succ]
  refine held_pure 6 106 (.int .i64 lv) rfl (fun W => by rfl) hG ?_
  try simp only [Act.put, List.setIfInBounds_toArray, List.set_cons_zero, List.set_cons_succ]
  refine held_load 7 107 rfl 30 (.tmp 11) rfl (w.heap.size + 1) 0 rfl (nmR m) (fun w' h => range_is (cs := nmR m) (hm8.next h)) Try.underlying30 name_info hG ?_
  try simp only [Act.put, List.setIfInBounds_toArray, List.set_cons_zero, List.set_cons_succ]
  refine held_pure 8 108 (.slice AR nR cR) rfl (fun W => by rfl) hG ?_
  try simp only [Act.put, List.setIfInBounds_toArray, List.set_cons_zero, List.set_cons_succ]
  refine held_one (i := 4) (by kernel_rfl) rfl (by rfl) (fun KK hK => ?_)
  go_wp2_with fail
  refine (manN.ver _ y lv m _ l r4 hlv (hraw8.next hG) (by (have := HL.out; omega)) H4).mono ?_
  rintro e x1 ⟨rfl, hb⟩
  go_wp2_with fail
  refine hK.out _ _ (hG.trans (hb.mono hG.size)) (fun hG1 => ?_)
  clear hK KK
  try simp only [Act.put, List.setIfInBounds_toArray, List.set_cons_zero, List.set_cons_succ]
  refine held_one (i := 9) (by kernel_rfl) rfl (by rfl) (fun KK hK => ?_)
  go_wp2_with fail
  refine (refN.ver _ y lv m _ l r4 hlv (hraw8.next hG1) (by (have := HL.out; omega)) H4).mono ?_
  rintro e x1 ⟨rfl, hb⟩
  go_wp2_with fail
  refine hK.out _ _ (hG1.trans (hb.mono hG1.size)) (fun hG2 => ?_)
  clear hK KK
  try simp only [Act.put, List.setIfInBounds_toArray, List.set_cons_zero, List.set_cons_succ]
  refine held_pure 10 110 (.bool true) rfl (fun W => by go_simp) hG2 ?_
  try simp only [Act.put, List.setIfInBounds_toArray, List.set_cons_zero, List.set_cons_succ]
  refine held_pure 11 111 (.bool true) rfl (fun W => by rfl) hG2 ?_
  try simp only [Act.put, List.setIfInBounds_toArray, List.set_cons_zero, List.set_cons_succ]
  refine held_one (i := 12) (by kernel_rfl) rfl (by rfl) (fun KK hK => ?_)
  go_wp2_with fail
  refine (awake_any _).mono ?_
  rintro e x3 ⟨rfl, hb⟩
  go_wp2_with fail
  refine hK.out _ _ (hG2.trans (hb.mono hG2.size)) (fun hG3 => ?_)
  clear hK KK
  try simp only [Act.put, List.setIfInBounds_toArray, List.set_cons_zero, List.set_cons_succ]
  refine held_pure 13 113 (.bool true) rfl (fun W => by rfl) hG3 ?_
  try simp only [Act.put, List.setIfInBounds_toArray, List.set_cons_zero, List.set_cons_succ]
  refine held_pure 14 16 (.bool true) rfl (fun W => by rfl) hG3 ?_
  try simp only [Act.put, List.setIfInBounds_toArray, List.set_cons_zero, List.set_cons_succ]
  refine wpAnyH_done (by kernel_rfl) ?_ _
  try simp only [Act.put, List.setIfInBounds_toArray, List.set_cons_zero, List.set_cons_succ]
  go_wp2_with fail
  go_ret
  exact ⟨rfl, hF.1.trans ((hB6.trans (hG3.mono hB6.size)).mono hF.1.size)⟩

set_option maxRecDepth 10000 in
set_option maxHeartbeats 2000000 in
theorem walk2 (w : World) (s : BitVec 64) (lv leaf : Int) (m o : BitVec 64) (v : Value) (l : List UInt8) (at_ : Int) (by_ : UInt8) (hlv : I64 lv) (hleaf : I64 leaf) (h : VB w v l) (hl : l.length ≤ 140737488351232) (hat : I64 at_) (A : Nat) (hA : IntKind.u64.wrap lv = (A : Int)) (hA2 : A % 2 = 1) :
    Calls Try.prog 6 #[nm s, .int .i64 lv, .int .i64 leaf, nm m, nm o, v, .int .i64 at_, B by_] w fun e w' => e = .returned (.bool true) ∧ Below w.heap.size w w' := by
  obtain ⟨hs0, hm0, ho0, hF⟩ := verW_facts w s m o
  obtain ⟨i0, hi, hz0, hz1, hz2⟩ := info_parts info_byte
  have HI := Lib.hid hi
  have HZ0 := Lib.hid hz0
  have HZ1 := Lib.hid hz1
  have HZ2 := Lib.hid hz2
  have HL := Lib.hid hl
  have HLV := Lib.hid hlv
  obtain ⟨hle1, hle2⟩ := hleaf
  obtain ⟨hat1, hat2⟩ := hat
  have hA3 : (A : Int) % 2 = 1 := by omega
  have hA4 : Int.tmod (A : Int) 2 = 1 := by rw [Int.tmod_eq_emod_of_nonneg (by omega)]; exact hA3
  obtain ⟨B0, hB0⟩ : ∃ n : Nat, IntKind.u64.wrap leaf = (n : Int) := ⟨(IntKind.u64.wrap leaf).toNat, by rw [IntKind.wrap_u64]; omega⟩
  obtain ⟨p, hp⟩ : ∃ n : Nat, B0 % 1024 = n := ⟨_, rfl⟩
  have hp1 : (B0 : Int) % 1024 = (p : Int) := by omega
  have hp2 : Int.tmod (B0 : Int) 1024 = (p : Int) := by rw [Int.tmod_eq_emod_of_nonneg (by omega)]; exact hp1
  have hp3 : p < 1024 := by omega
  have hp4 : IntKind.i64.wrap (p : Int) = (p : Int) := by rw [IntKind.wrap_i64]; omega
  have hp5 : IntKind.u64.wrap (p : Int) = (p : Int) := by rw [IntKind.wrap_u64]; omega
  have hp0 : (0 : Int) ≤ (p : Int) := by omega
  obtain ⟨N, hN⟩ : ∃ n : Nat, IntKind.u64.wrap at_ = (n : Int) := ⟨(IntKind.u64.wrap at_).toNat, by rw [IntKind.wrap_u64]; omega⟩
  obtain ⟨j, hj⟩ : ∃ n : Nat, N % 370 = n := ⟨_, rfl⟩
  have hj1 : (N : Int) % 370 = (j : Int) := by omega
  have hj2 : Int.tmod (N : Int) 370 = (j : Int) := by rw [Int.tmod_eq_emod_of_nonneg (by omega)]; exact hj1
  have hj3 : j < 370 := by omega
  have hj4 : IntKind.i64.wrap (j : Int) = (j : Int) := by rw [IntKind.wrap_i64]; omega
  have hj5 : IntKind.u64.wrap (j : Int) = (j : Int) := by rw [IntKind.wrap_u64]; omega
  have hj0 : (0 : Int) ≤ (j : Int) := by omega
  have hj6 : (j : Int) < 370 := by omega
  obtain ⟨X, hX⟩ : ∃ x, sign2F s p m = x := ⟨_, rfl⟩
  obtain ⟨y, hy⟩ : ∃ y, mpubF s 2 = y := ⟨_, rfl⟩
  have HSX : Hid (signP s 2 (p : Int) m = (X, true)) := Lib.hid (by unfold signP; rw [if_neg (by omega), if_pos ⟨rfl, by omega, by omega⟩, Int.toNat_natCast, hX])
  have HXL : Hid (X.length = 370) := Lib.hid (by rw [← hX]; exact sign2F_len s p m hp3)
  have HY := Lib.hid hy
  have hw3 : IntKind.i64.wrap (2 : Int) = 2 := by decide
  have hwc : IntKind.u64.wrap (1024 : Int) = 1024 := by decide
  clear hX hy hA2 hp hj hi hz0 hz1 hz2 hlv
  go_enter Try.func6, Try.ntmps6
  go_wp2_with fail
  change Code.wp _ _ _ _ (verW w s m o)
  generalize verW w s m o = W at *
  refine wp_region_held_drew (S := fun w' => Below W.heap.size W w') (by kernel_rfl) (Below.refl _ _).drew (fun hHeld => ?_)
  refine held_load 0 28 rfl 30 (.tmp 8) rfl w.heap.size 0 rfl (nmR s) (fun w' h => range_is (cs := nmR s) (hs0.next h)) Try.underlying30 name_info hHeld ?_
  try simp only [Act.put, List.setIfInBounds_toArray, List.set_cons_zero, List.set_cons_succ]
  refine held_pure 1 29 (.int .i64 2) rfl (fun W => by rfl) hHeld ?_
  try simp only [Act.put, List.setIfInBounds_toArray, List.set_cons_zero, List.set_cons_succ]
  refine held_pure 2 30 (.int .i64 leaf) rfl (fun W => by rfl) hHeld ?_
  try simp only [Act.put, List.setIfInBounds_toArray, List.set_cons_zero, List.set_cons_succ]
  refine held_pure 3 31 (.int .u64 (B0 : Int)) rfl (fun W => by go_simp) hHeld ?_
  try simp only [Act.put, List.setIfInBounds_toArray, List.set_cons_zero, List.set_cons_succ]
  refine held_pure 4 32 (.int .i64 2) rfl (fun W => by rfl) hHeld ?_
  try simp only [Act.put, List.setIfInBounds_toArray, List.set_cons_zero, List.set_cons_succ]
  refine held_load 9 37 rfl 30 (.tmp 11) rfl (w.heap.size + 1) 0 rfl (nmR m) (fun w' h => range_is (cs := nmR m) (hm0.next h)) Try.underlying30 name_info hHeld ?_
  try simp only [Act.put, List.setIfInBounds_toArray, List.set_cons_zero, List.set_cons_succ]
  refine held_one (i := 5) (by kernel_rfl) rfl (by rfl) (fun KK hK => ?_)
  go_wp2_with fail
  refine (refN.cap _ 2 ⟨by omega, by omega⟩).mono ?_
  rintro e x1 ⟨rfl, hb⟩
  rw [cap_two]
  go_wp2_with fail
  refine hK.out _ _ (hHeld.trans (hb.mono hHeld.size)) (fun hHeld1 => ?_)
  clear hK KK
  try simp only [Act.put, List.setIfInBounds_toArray, List.set_cons_zero, List.set_cons_succ]
  refine held_pure 6 34 (.int .u64 1024) rfl (fun W => by go_simp) hHeld1 ?_
  try simp only [Act.put, List.setIfInBounds_toArray, List.set_cons_zero, List.set_cons_succ]
  refine held_pure 7 35 (.int .u64 (p : Int)) rfl (fun W => by go_simp) hHeld1 ?_
  try simp only [Act.put, List.setIfInBounds_toArray, List.set_cons_zero, List.set_cons_succ]
  refine held_pure 8 36 (.int .i64 (p : Int)) rfl (fun W => by go_simp) hHeld1 ?_
  try simp only [Act.put, List.setIfInBounds_toArray, List.set_cons_zero, List.set_cons_succ]
  refine held_one (i := 10) (by kernel_rfl) rfl (by rfl) (fun KK hK => ?_)
  go_wp2_with fail
  refine (refN.sign _ s 2 (p : Int) m (X, true) ⟨by omega, by omega⟩ ⟨by omega, by omega⟩ HSX).mono ?_
  rintro e x2 ⟨u2, rfl, ho2, hb⟩
  obtain ⟨A1, c1, e1, d1, d2, hr1⟩ := ho2.vb
  rw [HXL.out] at e1 d1
  subst e1
  go_wp2_with fail
  refine hK.out _ _ (hHeld1.trans (hb.mono hHeld1.size)) (fun hHeld2 => ?_)
  clear hK KK
  try simp only [Act.put, List.setIfInBounds_toArray, List.set_cons_zero, List.set_cons_succ]
  refine held_pure 11 27 (.tuple #[.slice A1 370 c1, .bool true]) rfl (fun W => by rfl) hHeld2 ?_
  try simp only [Act.put, List.setIfInBounds_toArray, List.set_cons_zero, List.set_cons_succ]
  refine held_pure 12 39 (.slice A1 370 c1) rfl (fun W => by rfl) hHeld2 ?_
  try simp only [Act.put, List.setIfInBounds_toArray, List.set_cons_zero, List.set_cons_succ]
  refine held_pure 13 40 (.bool true) rfl (fun W => by rfl) hHeld2 ?_
  try simp only [Act.put, List.setIfInBounds_toArray, List.set_cons_zero, List.set_cons_succ]
  refine held_pure 14 18 (.slice A1 370 c1) rfl (fun W => by rfl) hHeld2 ?_
  try simp only [Act.put, List.setIfInBounds_toArray, List.set_cons_zero, List.set_cons_succ]
  refine held_pure 15 19 (.bool true) rfl (fun W => by rfl) hHeld2 ?_
  try simp only [Act.put, List.setIfInBounds_toArray, List.set_cons_zero, List.set_cons_succ]
  refine wpAnyH_done (by kernel_rfl) ?_ _
  try simp only [Act.put, List.setIfInBounds_toArray, List.set_cons_zero, List.set_cons_succ]
  have hB2 := hHeld2
  clear hHeld2
  have hs2 := hs0.next hB2
  have hs2c := hs2.cell
  go_wp2_with fail
  refine (refN.pub _ s 2 y ⟨by omega, by omega⟩ HY).mono ?_
  rintro e w4 ⟨rfl, hb4⟩
  have hn4 := Is.new w4 30 #[B 0, B 0, B 0, B 0, B 0, B 0, B 0, B 0]
  have hr4 := (hr1.keep hb4).mono hb4.size
  have hB4 := hB2.trans (hb4.mono hB2.size)
  clear hs2 hs2c hr1 hb4 hB2
  go_wp2_with (first
    | (refine wpList_store_is rfl 30 (.tmp 20) (.tmp 43) rfl w4.heap.size 30 _ (nmC y) rfl rfl hn4 (nmC_size _) name_info (nmC_one _) ?_; intro w5 hp5' hb5; have hbb := ((Below.refl w4.heap.size w4).alloc (Nat.le_refl _) (.cells #[B 0, B 0, B 0, B 0, B 0, B 0, B 0, B 0] 30)).trans hb5; have hB5 := hB4.trans (hbb.mono hB4.size); have hr5 := (hr4.keep hbb).mono hbb.size; have hF6 := (Fr.refl w5).alloc (.cells #[] 5); have hr6 := (hr5.keep hF6.1).mono hF6.1.size; clear hn4 hb5)
    | (at_builtin; refine wpList_append_ob rfl (.tmp 47) (.tmp 48) 22 rfl w5.heap.size 5 i0 Try.underlying22 HI.out HZ0.out HZ1.out HZ2.out (.slice (some ⟨w5.heap.size, 0, none⟩) 0 0) [] rfl (ob_empty w5 5 rfl) _ A1 X 370 c1 rfl HXL.out hr6 (by (have := HXL.out; simp; omega)) hF6.1.size ?_; intro v7 w7 hob7 hg7 _; have hF7 := hF6.grown hg7 (fun k hk => by (have := (ob_empty w5 5 rfl).own k hk; omega)); rw [List.nil_append] at hob7; obtain ⟨g, cap, b, e7, hg7', hgl, hbj, hc7, hf7, hset⟩ := ob_set hob7 j (by (have := HXL.out; omega)); rw [HXL.out] at e7; subst e7; obtain ⟨z, hz⟩ := xor_u8 b by_; clear hg7 hob7 hr6)
    | fail)
  have hc8' := hset z
  have hF8 := hF7.setCell (p := ⟨g, j, none⟩) hg7' (B z)
  change Code.wp _ _ _ _ (w7.setCell ⟨g, j, none⟩ (B z))
  generalize w7.setCell ⟨g, j, none⟩ (B z) = w8 at *
  obtain ⟨C, hC⟩ : ∃ C, X.set j z = C := ⟨_, rfl⟩
  have HCL : Hid (C.length = 370) := Lib.hid (by rw [← hC, List.length_set]; exact HXL.out)
  rw [hC] at hc8'
  have hc8 := hc8'.vb
  have hB6 := hB5.trans (hF8.1.mono hB5.size)
  have hm8 := hm0.next hB6
  have ho8 := ho0.next hB6
  have hp8 := hp5'.next hF8.1
  have hs8 : VB w8 (.slice A1 370 c1) X := ⟨A1, c1, by rw [HXL.out], by rw [HXL.out]; exact d1, d2, (hr5.keep hF8.1).mono hF8.1.size⟩
  have hraw8 := (h.next hF.1).next hB6
  obtain ⟨AR, nR, cR, eR, -⟩ := h.form_n
  subst eR
  obtain ⟨r1, hr1⟩ : ∃ r, verM y 2 m C = r := ⟨_, rfl⟩
  obtain ⟨r2, hr2⟩ : ∃ r, verM y 2 o X = r := ⟨_, rfl⟩
  obtain ⟨r3, hr3⟩ : ∃ r, verM o 2 m X = r := ⟨_, rfl⟩
  obtain ⟨r4, hr4'⟩ : ∃ r, verM y lv m l = r := ⟨_, rfl⟩
  have H1 := Lib.hid hr1
  have H2 := Lib.hid hr2
  have H3 := Lib.hid hr3
  have H4 := Lib.hid hr4'
  have hlv := HLV.out
  clear hset hc8' hC hr1 hr2 hr3 hr4' hr5 hc7 hf7 hbj hz h hp5' hF7
  refine wp_region_held_drew (S := fun w' => Below w8.heap.size w8 w') (by kernel_rfl) (Below.refl _ _).drew (fun hHeld => ?_)
  refine held_load 0 63 rfl 30 (.tmp 20) rfl w4.heap.size 0 rfl (nmR y) (fun w' h => range_is (cs := nmR y) (hp8.next h)) Try.underlying30 name_info hHeld ?_
  try simp only [Act.put, List.setIfInBounds_toArray, List.set_cons_zero, List.set_cons_succ]
  refine held_pure 1 64 (.int .i64 2) rfl (fun W => by rfl) hHeld ?_
  try simp only [Act.put, List.setIfInBounds_toArray, List.set_cons_zero, List.set_cons_succ]
  refine held_load 2 65 rfl 30 (.tmp 11) rfl (w.heap.size + 1) 0 rfl (nmR m) (fun w' h => range_is (cs := nmR m) (hm8.next h)) Try.underlying30 name_info hHeld ?_
  try simp only [Act.put, List.setIfInBounds_toArray, List.set_cons_zero, List.set_cons_succ]
  refine held_pure 3 66 (.slice (some ⟨g, 0, none⟩) 370 cap) rfl (fun W => by rfl) hHeld ?_
  try simp only [Act.put, List.setIfInBounds_toArray, List.set_cons_zero, List.set_cons_succ]
  refine held_load 5 68 rfl 30 (.tmp 20) rfl w4.heap.size 0 rfl (nmR y) (fun w' h => range_is (cs := nmR y) (hp8.next h)) Try.underlying30 name_info hHeld ?_
  try simp only [Act.put, List.setIfInBounds_toArray, List.set_cons_zero, List.set_cons_succ]
  refine held_pure 6 69 (.int .i64 2) rfl (fun W => by rfl) hHeld ?_
  try simp only [Act.put, List.setIfInBounds_toArray, List.set_cons_zero, List.set_cons_succ]
  refine held_load 7 70 rfl 30 (.tmp 11) rfl (w.heap.size + 1) 0 rfl (nmR m) (fun w' h => range_is (cs := nmR m) (hm8.next h)) Try.underlying30 name_info hHeld ?_
  try simp only [Act.put, List.setIfInBounds_toArray, List.set_cons_zero, List.set_cons_succ]
  refine held_pure 8 71 (.slice (some ⟨g, 0, none⟩) 370 cap) rfl (fun W => by rfl) hHeld ?_
  try simp only [Act.put, List.setIfInBounds_toArray, List.set_cons_zero, List.set_cons_succ]
  refine held_one (i := 4) (by kernel_rfl) rfl (by rfl) (fun KK hK => ?_)
  go_wp2_with fail
  refine (manN.ver _ y 2 m _ C r1 ⟨by omega, by omega⟩ (hc8.next hHeld) (by (have := HCL.out; omega)) H1).mono ?_
  rintro e x1 ⟨rfl, hb⟩
  go_wp2_with fail
  refine hK.out _ _ (hHeld.trans (hb.mono hHeld.size)) (fun hHeld1 => ?_)
  clear hK KK
  try simp only [Act.put, List.setIfInBounds_toArray, List.set_cons_zero, List.set_cons_succ]
  refine held_one (i := 9) (by kernel_rfl) rfl (by rfl) (fun KK hK => ?_)
  go_wp2_with fail
  refine (refN.ver _ y 2 m _ C r1 ⟨by omega, by omega⟩ (hc8.next hHeld1) (by (have := HCL.out; omega)) H1).mono ?_
  rintro e x1 ⟨rfl, hb⟩
  go_wp2_with fail
  refine hK.out _ _ (hHeld1.trans (hb.mono hHeld1.size)) (fun hHeld2 => ?_)
  clear hK KK
  try simp only [Act.put, List.setIfInBounds_toArray, List.set_cons_zero, List.set_cons_succ]
  refine held_pure 10 73 (.bool false) rfl (fun W => by go_simp) hHeld2 ?_
  try simp only [Act.put, List.setIfInBounds_toArray, List.set_cons_zero, List.set_cons_succ]
  refine held_pure 11 74 (.bool false) rfl (fun W => by rfl) hHeld2 ?_
  try simp only [Act.put, List.setIfInBounds_toArray, List.set_cons_zero, List.set_cons_succ]
  refine held_load 12 75 rfl 30 (.tmp 20) rfl w4.heap.size 0 rfl (nmR y) (fun w' h => range_is (cs := nmR y) (hp8.next h)) Try.underlying30 name_info hHeld2 ?_
  try simp only [Act.put, List.setIfInBounds_toArray, List.set_cons_zero, List.set_cons_succ]
  refine held_pure 13 76 (.int .i64 2) rfl (fun W => by rfl) hHeld2 ?_
  try simp only [Act.put, List.setIfInBounds_toArray, List.set_cons_zero, List.set_cons_succ]
  refine held_load 14 77 rfl 30 (.tmp 12) rfl (w.heap.size + 2) 0 rfl (nmR o) (fun w' h => range_is (cs := nmR o) (ho8.next h)) Try.underlying30 name_info hHeld2 ?_
  try simp only [Act.put, List.setIfInBounds_toArray, List.set_cons_zero, List.set_cons_succ]
  refine held_pure 15 78 (.slice A1 370 c1) rfl (fun W => by rfl) hHeld2 ?_
  try simp only [Act.put, List.setIfInBounds_toArray, List.set_cons_zero, List.set_cons_succ]
  refine held_load 17 80 rfl 30 (.tmp 20) rfl w4.heap.size 0 rfl (nmR y) (fun w' h => range_is (cs := nmR y) (hp8.next h)) Try.underlying30 name_info hHeld2 ?_
  try simp only [Act.put, List.setIfInBounds_toArray, List.set_cons_zero, List.set_cons_succ]
  refine held_pure 18 81 (.int .i64 2) rfl (fun W => by rfl) hHeld2 ?_
  try simp only [Act.put, List.setIfInBounds_toArray, List.set_cons_zero, List.set_cons_succ]
  refine held_load 19 82 rfl 30 (.tmp 12) rfl (w.heap.size + 2) 0 rfl (nmR o) (fun w' h => range_is (cs := nmR o) (ho8.next h)) Try.underlying30 name_info hHeld2 ?_
  try simp only [Act.put, List.setIfInBounds_toArray, List.set_cons_zero, List.set_cons_succ]
  refine held_pure 20 83 (.slice A1 370 c1) rfl (fun W => by rfl) hHeld2 ?_
  try simp only [Act.put, List.setIfInBounds_toArray, List.set_cons_zero, List.set_cons_succ]
  refine held_one (i := 16) (by kernel_rfl) rfl (by rfl) (fun KK hK => ?_)
  go_wp2_with fail
  refine (manN.ver _ y 2 o _ X r2 ⟨by omega, by omega⟩ (hs8.next hHeld2) (by (have := HXL.out; omega)) H2).mono ?_
  rintro e x1 ⟨rfl, hb⟩
  go_wp2_with fail
  refine hK.out _ _ (hHeld2.trans (hb.mono hHeld2.size)) (fun hHeld3 => ?_)
  clear hK KK
  try simp only [Act.put, List.setIfInBounds_toArray, List.set_cons_zero, List.set_cons_succ]
  refine held_one (i := 21) (by kernel_rfl) rfl (by rfl) (fun KK hK => ?_)
  go_wp2_with fail
  refine (refN.ver _ y 2 o _ X r2 ⟨by omega, by omega⟩ (hs8.next hHeld3) (by (have := HXL.out; omega)) H2).mono ?_
  rintro e x1 ⟨rfl, hb⟩
  go_wp2_with fail
  refine hK.out _ _ (hHeld3.trans (hb.mono hHeld3.size)) (fun hHeld4 => ?_)
  clear hK KK
  try simp only [Act.put, List.setIfInBounds_toArray, List.set_cons_zero, List.set_cons_succ]
  refine held_pure 22 85 (.bool false) rfl (fun W => by go_simp) hHeld4 ?_
  try simp only [Act.put, List.setIfInBounds_toArray, List.set_cons_zero, List.set_cons_succ]
  refine held_pure 23 86 (.bool false) rfl (fun W => by rfl) hHeld4 ?_
  try simp only [Act.put, List.setIfInBounds_toArray, List.set_cons_zero, List.set_cons_succ]
  refine held_pure 24 87 (.bool false) rfl (fun W => by rfl) hHeld4 ?_
  try simp only [Act.put, List.setIfInBounds_toArray, List.set_cons_zero, List.set_cons_succ]
  refine held_load 25 88 rfl 30 (.tmp 12) rfl (w.heap.size + 2) 0 rfl (nmR o) (fun w' h => range_is (cs := nmR o) (ho8.next h)) Try.underlying30 name_info hHeld4 ?_
  try simp only [Act.put, List.setIfInBounds_toArray, List.set_cons_zero, List.set_cons_succ]
  refine held_pure 26 89 (.int .i64 2) rfl (fun W => by rfl) hHeld4 ?_
  try simp only [Act.put, List.setIfInBounds_toArray, List.set_cons_zero, List.set_cons_succ]
  refine held_load 27 90 rfl 30 (.tmp 11) rfl (w.heap.size + 1) 0 rfl (nmR m) (fun w' h => range_is (cs := nmR m) (hm8.next h)) Try.underlying30 name_info hHeld4 ?_
  try simp only [Act.put, List.setIfInBounds_toArray, List.set_cons_zero, List.set_cons_succ]
  refine held_pure 28 91 (.slice A1 370 c1) rfl (fun W => by rfl) hHeld4 ?_
  try simp only [Act.put, List.setIfInBounds_toArray, List.set_cons_zero, List.set_cons_succ]
  refine held_load 30 93 rfl 30 (.tmp 12) rfl (w.heap.size + 2) 0 rfl (nmR o) (fun w' h => range_is (cs := nmR o) (ho8.next h)) Try.underlying30 name_info hHeld4 ?_
  try simp only [Act.put, List.setIfInBounds_toArray, List.set_cons_zero, List.set_cons_succ]
  refine held_pure 31 94 (.int .i64 2) rfl (fun W => by rfl) hHeld4 ?_
  try simp only [Act.put, List.setIfInBounds_toArray, List.set_cons_zero, List.set_cons_succ]
  refine held_load 32 95 rfl 30 (.tmp 11) rfl (w.heap.size + 1) 0 rfl (nmR m) (fun w' h => range_is (cs := nmR m) (hm8.next h)) Try.underlying30 name_info hHeld4 ?_
  try simp only [Act.put, List.setIfInBounds_toArray, List.set_cons_zero, List.set_cons_succ]
  refine held_pure 33 96 (.slice A1 370 c1) rfl (fun W => by rfl) hHeld4 ?_
  try simp only [Act.put, List.setIfInBounds_toArray, List.set_cons_zero, List.set_cons_succ]
  refine held_one (i := 29) (by kernel_rfl) rfl (by rfl) (fun KK hK => ?_)
  go_wp2_with fail
  refine (manN.ver _ o 2 m _ X r3 ⟨by omega, by omega⟩ (hs8.next hHeld4) (by (have := HXL.out; omega)) H3).mono ?_
  rintro e x1 ⟨rfl, hb⟩
  go_wp2_with fail
  refine hK.out _ _ (hHeld4.trans (hb.mono hHeld4.size)) (fun hHeld5 => ?_)
  clear hK KK
  try simp only [Act.put, List.setIfInBounds_toArray, List.set_cons_zero, List.set_cons_succ]
  refine held_one (i := 34) (by kernel_rfl) rfl (by rfl) (fun KK hK => ?_)
  go_wp2_with fail
  refine (refN.ver _ o 2 m _ X r3 ⟨by omega, by omega⟩ (hs8.next hHeld5) (by (have := HXL.out; omega)) H3).mono ?_
  rintro e x1 ⟨rfl, hb⟩
  go_wp2_with fail
  refine hK.out _ _ (hHeld5.trans (hb.mono hHeld5.size)) (fun hHeld6 => ?_)
  clear hK KK
  try simp only [Act.put, List.setIfInBounds_toArray, List.set_cons_zero, List.set_cons_succ]
  refine held_pure 35 98 (.bool false) rfl (fun W => by go_simp) hHeld6 ?_
  try simp only [Act.put, List.setIfInBounds_toArray, List.set_cons_zero, List.set_cons_succ]
  refine held_pure 36 99 (.bool false) rfl (fun W => by rfl) hHeld6 ?_
  try simp only [Act.put, List.setIfInBounds_toArray, List.set_cons_zero, List.set_cons_succ]
  refine wpAnyH_done (by kernel_rfl) ?_ _
  try simp only [Act.put, List.setIfInBounds_toArray, List.set_cons_zero, List.set_cons_succ]
  have hB8 := hHeld6
  clear hHeld6
  go_wp2_with fail
  refine wp_region_held_drew (S := fun w' => Below w8.heap.size w8 w') (by kernel_rfl) (hB8.trans (Below.refl _ _).drew) (fun hG => ?_)
  refine held_load 0 100 rfl 30 (.tmp 20) rfl w4.heap.size 0 rfl (nmR y) (fun w' h => range_is (cs := nmR y) (hp8.next h)) Try.underlying30 name_info hG ?_
  try simp only [Act.put, List.setIfInBounds_toArray, List.set_cons_zero, List.set_cons_succ]
  refine held_pure 1 101 (.int .i64 lv) rfl (fun W => by rfl) hG ?_
  try simp only [Act.put, List.setIfInBounds_toArray, List.set_cons_zero, List.set_cons_succ]
  refine held_load 2 102 rfl 30 (.tmp 11) rfl (w.heap.size + 1) 0 rfl (nmR m) (fun w' h => range_is (cs := nmR m) (hm8.next h)) Try.underlying30 name_info hG ?_
  try simp only [Act.put, List.setIfInBounds_toArray, List.set_cons_zero, List.set_cons_succ]
  refine held_pure 3 103 (.slice AR nR cR) rfl (fun W => by rfl) hG ?_
  try simp only [Act.put, List.setIfInBounds_toArray, List.set_cons_zero, List.set_cons_succ]
  refine held_load 5 105 rfl 30 (.tmp 20) rfl w4.heap.size 0 rfl (nmR y) (fun w' h => range_is (cs := nmR y) (hp8.next h)) Try.underlying30 name_info hG ?_
  try simp only [Act.put, List.setIfInBounds_toArray, List.set_cons_zero, List.set_cons_succ]
  refine held_pure 6 106 (.int .i64 lv) rfl (fun W => by rfl) hG ?_
  try simp only [Act.put, List.setIfInBounds_toArray, List.set_cons_zero, List.set_cons_succ]
  refine held_load 7 107 rfl 30 (.tmp 11) rfl (w.heap.size + 1) 0 rfl (nmR m) (fun w' h => range_is (cs := nmR m) (hm8.next h)) Try.underlying30 name_info hG ?_
  try simp only [Act.put, List.setIfInBounds_toArray, List.set_cons_zero, List.set_cons_succ]
  refine held_pure 8 108 (.slice AR nR cR) rfl (fun W => by rfl) hG ?_
  try simp only [Act.put, List.setIfInBounds_toArray, List.set_cons_zero, List.set_cons_succ]
  refine held_one (i := 4) (by kernel_rfl) rfl (by rfl) (fun KK hK => ?_)
  go_wp2_with fail
  refine (manN.ver _ y lv m _ l r4 hlv (hraw8.next hG) (by (have := HL.out; omega)) H4).mono ?_
  rintro e x1 ⟨rfl, hb⟩
  go_wp2_with fail
  refine hK.out _ _ (hG.trans (hb.mono hG.size)) (fun hG1 => ?_)
  clear hK KK
  try simp only [Act.put, List.setIfInBounds_toArray, List.set_cons_zero, List.set_cons_succ]
  refine held_one (i := 9) (by kernel_rfl) rfl (by rfl) (fun KK hK => ?_)
  go_wp2_with fail
  refine (refN.ver _ y lv m _ l r4 hlv (hraw8.next hG1) (by (have := HL.out; omega)) H4).mono ?_
  rintro e x1 ⟨rfl, hb⟩
  go_wp2_with fail
  refine hK.out _ _ (hG1.trans (hb.mono hG1.size)) (fun hG2 => ?_)
  clear hK KK
  try simp only [Act.put, List.setIfInBounds_toArray, List.set_cons_zero, List.set_cons_succ]
  refine held_pure 10 110 (.bool true) rfl (fun W => by go_simp) hG2 ?_
  try simp only [Act.put, List.setIfInBounds_toArray, List.set_cons_zero, List.set_cons_succ]
  refine held_pure 11 111 (.bool true) rfl (fun W => by rfl) hG2 ?_
  try simp only [Act.put, List.setIfInBounds_toArray, List.set_cons_zero, List.set_cons_succ]
  refine held_one (i := 12) (by kernel_rfl) rfl (by rfl) (fun KK hK => ?_)
  go_wp2_with fail
  refine (awake_any _).mono ?_
  rintro e x3 ⟨rfl, hb⟩
  go_wp2_with fail
  refine hK.out _ _ (hG2.trans (hb.mono hG2.size)) (fun hG3 => ?_)
  clear hK KK
  try simp only [Act.put, List.setIfInBounds_toArray, List.set_cons_zero, List.set_cons_succ]
  refine held_pure 13 113 (.bool true) rfl (fun W => by rfl) hG3 ?_
  try simp only [Act.put, List.setIfInBounds_toArray, List.set_cons_zero, List.set_cons_succ]
  refine held_pure 14 16 (.bool true) rfl (fun W => by rfl) hG3 ?_
  try simp only [Act.put, List.setIfInBounds_toArray, List.set_cons_zero, List.set_cons_succ]
  refine wpAnyH_done (by kernel_rfl) ?_ _
  try simp only [Act.put, List.setIfInBounds_toArray, List.set_cons_zero, List.set_cons_succ]
  go_wp2_with fail
  go_ret
  exact ⟨rfl, hF.1.trans ((hB6.trans (hG3.mono hB6.size)).mono hF.1.size)⟩

theorem walk (w : World) (s : BitVec 64) (lv leaf : Int) (m o : BitVec 64) (v : Value) (l : List UInt8) (at_ : Int) (by_ : UInt8) (hlv : I64 lv) (hleaf : I64 leaf) (h : VB w v l) (hl : l.length ≤ 140737488351232) (hat : I64 at_) :
    Calls Try.prog 6 #[nm s, .int .i64 lv, .int .i64 leaf, nm m, nm o, v, .int .i64 at_, B by_] w fun e w' => e = .returned (.bool true) ∧ Below w.heap.size w w' := by
  obtain ⟨A, hA⟩ : ∃ n : Nat, IntKind.u64.wrap lv = (n : Int) := ⟨(IntKind.u64.wrap lv).toNat, by rw [IntKind.wrap_u64]; omega⟩
  by_cases h2 : A % 2 = 0
  · exact walk1 w s lv leaf m o v l at_ by_ hlv hleaf h hl hat A hA h2
  · exact walk2 w s lv leaf m o v l at_ by_ hlv hleaf h hl hat A hA (by omega)

set_option maxRecDepth 100000 in
/-- The law's step, at every reading. -/
theorem lifted (os : Os) (started : os.Started) (H : Type) (enc : TypeId × Value → H) :
    ReturnsInHanded {} Try.checked os 6 .any (Rows.manytimeVerifiesSpec.pre6 enc Try.prog Try.f6 Rows.manytimeVerifiesRow.domain false) (Rows.manytimeVerifiesSpec.post enc Try.prog Try.f6 false true false false) := by
  refine law_lifted (C := Try.checked) (n := 8) (tb := 4) own started (by kernel_rfl) Try.func6 rfl (by kernel_rfl)
    (of_decide_eq_true (by kernel_rfl)) (by kernel_rfl) (by kernel_rfl) Try.underlying4
    (fun ds hd => by match ds, hd with | [_, _, _, _, _, _, _, _], _ => rfl)
    (ChangeSpec.witness6 (enc := enc) (C := Try.checked) false ⟨#[], #[.agg #[.int .u8 0, .int .u8 0, .int .u8 0, .int .u8 0, .int .u8 0, .int .u8 0, .int .u8 0, .int .u8 0], .int .i64 0, .int .i64 0, .agg #[.int .u8 0, .int .u8 0, .int .u8 0, .int .u8 0, .int .u8 0, .int .u8 0, .int .u8 0, .int .u8 0], .agg #[.int .u8 0, .int .u8 0, .int .u8 0, .int .u8 0, .int .u8 0, .int .u8 0, .int .u8 0, .int .u8 0], .slice none 0 0, .int .i64 0, .int .u8 0], []⟩ 8 (by kernel_rfl) (by kernel_rfl) (by kernel_rfl) (by kernel_rfl)) ?_
  intro W base args ds ps hval hA hlt hsz
  rw [Try.params6] at hA hval
  obtain ⟨v0, vs0, d0, ds0, p0, q0, hargs, rfl, rfl, h0, r0⟩ := trodAll_cons hA
  obtain ⟨v1, vs1, d1, ds1, p1, q1, rfl, rfl, rfl, h1, r1⟩ := trodAll_cons r0
  obtain ⟨v2, vs2, d2, ds2, p2, q2, rfl, rfl, rfl, h2, r2⟩ := trodAll_cons r1
  obtain ⟨v3, vs3, d3, ds3, p3, q3, rfl, rfl, rfl, h3, r3⟩ := trodAll_cons r2
  obtain ⟨v4, vs4, d4, ds4, p4, q4, rfl, rfl, rfl, h4, r4⟩ := trodAll_cons r3
  obtain ⟨v5, vs5, d5, ds5, p5, q5, rfl, rfl, rfl, h5, r5⟩ := trodAll_cons r4
  obtain ⟨v6, vs6, d6, ds6, p6, q6, rfl, rfl, rfl, h6, r6⟩ := trodAll_cons r5
  obtain ⟨v7, vs7, d7, ds7, p7, q7, rfl, rfl, rfl, h7, r7⟩ := trodAll_cons r6
  obtain ⟨rfl, rfl, rfl⟩ := trodAll_nil r7
  obtain rfl : args = #[v0, v1, v2, v3, v4, v5, v6, v7] := by cases args; simp_all
  obtain ⟨x0, rfl, rfl⟩ := open_name Try.underlying30 Try.underlying5 cells1 cells8 (hval 0 _ v0 rfl rfl) h0
  obtain ⟨x1, rfl, rfl, rfl, wn1⟩ := open_int Try.underlying3 (hval 1 _ v1 rfl rfl) h1
  obtain ⟨x2, rfl, rfl, rfl, wn2⟩ := open_int Try.underlying3 (hval 2 _ v2 rfl rfl) h2
  obtain ⟨x3, rfl, rfl⟩ := open_name Try.underlying30 Try.underlying5 cells1 cells8 (hval 3 _ v3 rfl rfl) h3
  obtain ⟨x4, rfl, rfl⟩ := open_name Try.underlying30 Try.underlying5 cells1 cells8 (hval 4 _ v4 rfl rfl) h4
  obtain ⟨A5, l5, c5, rfl, hc5, hm5, hr5⟩ := open_bytes Try.underlying22 Try.underlying5 cells1 bytes1 (hval 5 _ v5 rfl rfl) h5 (fun x hx => hlt x (by simp [hx])) hsz (j := 5) (by rw [Try.params6]; rfl) rfl
  obtain ⟨x6, rfl, rfl, rfl, wn6⟩ := open_int Try.underlying3 (hval 6 _ v6 rfl rfl) h6
  obtain ⟨x7, rfl, rfl, rfl⟩ := open_byte Try.underlying5 (hval 7 _ v7 rfl rfl) h7
  exact walk W x0 x1 x2 x3 x4 _ l5 x6 x7 (bounds_i64 wn1) (bounds_i64 wn2) (VB.mk hr5 hc5 hm5) (by omega) (bounds_i64 wn6)

theorem proved : Rows.ManytimeVerifiesSaid :=
  OpenClaim.holds_of_wide 6 Try.f6 rfl rfl rfl rfl rfl rfl rfl ⟨rfl, rfl, rfl, rfl, rfl⟩ rfl rfl rfl rfl rfl (by kernel_rfl) Try.func6 (by kernel_rfl)
    (of_decide_eq_true (by kernel_rfl)) (by unfold Func.isWrapper; first | (rw [if_pos (by decide +kernel)]; kernel_rfl) | (rw [if_neg (by decide +kernel)]; exact ⟨rfl, rfl⟩))
    (fun os started H enc _ => lifted os started H enc)
#print axioms proved
end Go.Proofs.Ytjghengkpbokaaa.manytimeVerifies
