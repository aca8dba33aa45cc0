/-
  The statement ManytimeAccepts, proved for every seed, name and pair of numbers, with no condition: Verify accepts every signature that Sign returns, with the public key of the seed; the signature has the documented size and names its leaf.
-/
import Derived.Test.YtjghengkpbokaaaG20
namespace Go.Proofs.Ytjghengkpbokaaa.manytimeAccepts
open Go.ChangeShapes Go.WideShapes Go.ChangeAt Go.RowKit Go.Fl

attribute [local go_sem] equal_nm eqGuard_nm

set_option maxRecDepth 10000 in
set_option maxHeartbeats 4000000 in
theorem walk1 (w : World) (s : BitVec 64) (lv leaf : Int) (m : BitVec 64) (hlv : I64 lv) (hleaf : I64 leaf) (A : Nat) (hA : IntKind.u64.wrap lv = (A : Int)) (hA2 : A % 2 = 0) :
    Calls Try.prog 5 #[nm s, .int .i64 lv, .int .i64 leaf, nm m] w fun e w' => e = .returned (.bool true) ∧ Below w.heap.size w w' := by
  obtain ⟨hlv1, hlv2⟩ := hlv
  obtain ⟨hle1, hle2⟩ := hleaf
  obtain ⟨hs, hm, hF⟩ := signW_facts w s m
  have hA3 : (A : Int) % 2 = 0 := by omega
  have hA4 : Int.tmod (A : Int) 2 = 0 := by rw [Int.tmod_eq_emod_of_nonneg (by omega)]; exact hA3
  obtain ⟨B, hB⟩ : ∃ n : Nat, IntKind.u64.wrap leaf = (n : Int) := ⟨(IntKind.u64.wrap leaf).toNat, by rw [IntKind.wrap_u64]; omega⟩
  obtain ⟨p, hp⟩ : ∃ n : Nat, B % 32 = n := ⟨_, rfl⟩
  have hp1 : (B : Int) % 32 = (p : Int) := by omega
  have hp2 : Int.tmod (B : Int) 32 = (p : Int) := by rw [Int.tmod_eq_emod_of_nonneg (by omega)]; exact hp1
  have hp3 : p < 32 := by omega
  have hp4 : IntKind.i64.wrap (p : Int) = (p : Int) := by rw [IntKind.wrap_i64]; omega
  have hp5 : IntKind.u64.wrap (p : Int) = (p : Int) := by rw [IntKind.wrap_u64]; omega
  obtain ⟨X, hX⟩ : ∃ x, sign1F s p m = x := ⟨_, rfl⟩
  obtain ⟨y, hy⟩ : ∃ y, mpubF s 1 = y := ⟨_, rfl⟩
  have HSX : Hid (signP s 1 (p : Int) m = (X, true)) := Lib.hid (by unfold signP; rw [if_pos ⟨rfl, by omega, by omega⟩, Int.toNat_natCast, hX])
  have HVX : Hid (verM y 1 m X = true) := Lib.hid (by rw [← hy, ← hX]; exact ver_one s p m hp3)
  have HXL : Hid (X.length = 186) := Lib.hid (by rw [← hX]; exact sign1F_len s p m hp3)
  have HVN : Hid (verM y 2 m X = false) := Lib.hid (ver_size y 2 m X (by rw [HXL.out]; decide))
  have HLP : Hid (leafP X = ((p : Int), true)) := Lib.hid (by unfold leafP; rw [if_pos (by rw [HXL.out]; omega), ← hX, leafN_one s p m hp3])
  have HY := Lib.hid hy
  have hp0 : (0 : Int) ≤ (p : Int) := by omega
  have hw3 : IntKind.i64.wrap (2 : Int) = 2 := by decide
  clear hX hy hA2 hp
  go_enter Try.func5, Try.ntmps5
  go_wp2_with fail
  refine (refN.cap (signW w s m) 1 ⟨by omega, by omega⟩).mono ?_
  rintro e w0 ⟨rfl, hb0⟩
  rw [cap_one]
  generalize signW w s m = W at *
  have hs0 := hs.next hb0
  have hm0 := hm.next hb0
  have hF0 := hF.next hb0
  have k1 := hs0.cell
  have k2 := hm0.cell
  go_wp2_with fail
  refine (manN.sign w0 s 1 (p : Int) m (X, true) ⟨by omega, by omega⟩ ⟨by omega, by omega⟩ HSX).mono ?_
  rintro e w1 ⟨v1, rfl, ho1, hb1⟩
  have hv1 := ho1.vb
  clear ho1 k1 k2
  go_wp2_with fail
  refine (leafM.leaf w1 v1 X hv1 (by have := HXL.out; omega)).mono ?_
  rintro e w2 ⟨rfl, hb2⟩
  rw [HLP.out]
  have hs2 := (hs0.next hb1).next hb2
  have hm2 := (hm0.next hb1).next hb2
  have hF2 := (hF0.next hb1).next hb2
  have hv2 := hv1.next hb2
  obtain ⟨A1, c1, e1, d1, d2, hr1⟩ := hv2
  have hXL := HXL.out
  rw [hXL] at e1
  subst e1
  have HVB : Hid (VB w2 (.slice A1 186 c1) X) := Lib.hid ⟨A1, c1, by rw [hXL], d1, d2, hr1⟩
  clear hv1 hXL d1 d2 hr1
  go_wp2_with fail
  refine wp_region_held_drew (S := fun w' => Below w2.heap.size w2 w') (by kernel_rfl) (Below.refl _ _).drew (fun hHeld => ?_)
  refine held_pure 0 38 (.bool true) rfl (fun W => by rfl) hHeld ?_
  try simp only [Act.put, List.setIfInBounds_toArray, List.set_cons_zero, List.set_cons_succ]
  refine held_pure 1 39 (.bool true) rfl (fun W => by rfl) hHeld ?_
  try simp only [Act.put, List.setIfInBounds_toArray, List.set_cons_zero, List.set_cons_succ]
  refine held_pure 2 40 (.bool true) rfl (fun W => by rfl) hHeld ?_
  try simp only [Act.put, List.setIfInBounds_toArray, List.set_cons_zero, List.set_cons_succ]
  refine held_pure 3 41 (.bool true) rfl (fun W => by rfl) hHeld ?_
  try simp only [Act.put, List.setIfInBounds_toArray, List.set_cons_zero, List.set_cons_succ]
  refine held_pure 4 42 (.bool true) rfl (fun W => by rfl) hHeld ?_
  try simp only [Act.put, List.setIfInBounds_toArray, List.set_cons_zero, List.set_cons_succ]
  refine held_pure 5 43 (.int .i64 (p : Int)) rfl (fun W => by rfl) hHeld ?_
  try simp only [Act.put, List.setIfInBounds_toArray, List.set_cons_zero, List.set_cons_succ]
  refine held_pure 6 44 (.int .i64 (p : Int)) rfl (fun W => by rfl) hHeld ?_
  try simp only [Act.put, List.setIfInBounds_toArray, List.set_cons_zero, List.set_cons_succ]
  refine held_pure 7 45 (.bool true) rfl (fun W => by go_simp) hHeld ?_
  try simp only [Act.put, List.setIfInBounds_toArray, List.set_cons_zero, List.set_cons_succ]
  refine held_pure 8 46 (.bool true) rfl (fun W => by rfl) hHeld ?_
  try simp only [Act.put, List.setIfInBounds_toArray, List.set_cons_zero, List.set_cons_succ]
  refine held_pure 9 47 (.bool true) rfl (fun W => by rfl) hHeld ?_
  try simp only [Act.put, List.setIfInBounds_toArray, List.set_cons_zero, List.set_cons_succ]
  refine held_pure 10 48 (.slice A1 186 c1) rfl (fun W => by rfl) hHeld ?_
  try simp only [Act.put, List.setIfInBounds_toArray, List.set_cons_zero, List.set_cons_succ]
  refine held_pure 11 49 (.int .i64 186) rfl (fun W => by go_simp) hHeld ?_
  try simp only [Act.put, List.setIfInBounds_toArray, List.set_cons_zero, List.set_cons_succ]
  refine held_pure 12 50 (.int .i64 1) rfl (fun W => by rfl) hHeld ?_
  try simp only [Act.put, List.setIfInBounds_toArray, List.set_cons_zero, List.set_cons_succ]
  refine held_one (i := 13) (by kernel_rfl) rfl (by rfl) (fun KK hK => ?_)
  go_wp2_with fail
  refine (manN.size _ 1 ⟨by omega, by omega⟩).mono ?_
  rintro e x1 ⟨rfl, hb⟩
  rw [size_one]
  go_wp2_with fail
  refine hK.out _ _ (hHeld.trans (hb.mono hHeld.size)) (fun hHeld1 => ?_)
  clear hK KK
  try simp only [Act.put, List.setIfInBounds_toArray, List.set_cons_zero, List.set_cons_succ]
  refine held_pure 14 52 (.bool true) rfl (fun W => by go_simp) hHeld1 ?_
  try simp only [Act.put, List.setIfInBounds_toArray, List.set_cons_zero, List.set_cons_succ]
  refine held_pure 15 53 (.bool true) rfl (fun W => by rfl) hHeld1 ?_
  try simp only [Act.put, List.setIfInBounds_toArray, List.set_cons_zero, List.set_cons_succ]
  refine held_pure 16 54 (.bool true) rfl (fun W => by rfl) hHeld1 ?_
  try simp only [Act.put, List.setIfInBounds_toArray, List.set_cons_zero, List.set_cons_succ]
  refine held_load 17 55 rfl 30 (.tmp 4) rfl w.heap.size 0 rfl (nmR s) (fun w' h => range_is (cs := nmR s) (hs2.next h)) Try.underlying30 name_info hHeld1 ?_
  try simp only [Act.put, List.setIfInBounds_toArray, List.set_cons_zero, List.set_cons_succ]
  refine held_pure 18 56 (.int .i64 1) rfl (fun W => by rfl) hHeld1 ?_
  try simp only [Act.put, List.setIfInBounds_toArray, List.set_cons_zero, List.set_cons_succ]
  refine held_pure 20 58 (.int .i64 1) rfl (fun W => by rfl) hHeld1 ?_
  try simp only [Act.put, List.setIfInBounds_toArray, List.set_cons_zero, List.set_cons_succ]
  refine held_load 21 59 rfl 30 (.tmp 7) rfl (w.heap.size + 1) 0 rfl (nmR m) (fun w' h => range_is (cs := nmR m) (hm2.next h)) Try.underlying30 name_info hHeld1 ?_
  try simp only [Act.put, List.setIfInBounds_toArray, List.set_cons_zero, List.set_cons_succ]
  refine held_pure 22 60 (.slice A1 186 c1) rfl (fun W => by rfl) hHeld1 ?_
  try simp only [Act.put, List.setIfInBounds_toArray, List.set_cons_zero, List.set_cons_succ]
  refine held_one (i := 19) (by kernel_rfl) rfl (by rfl) (fun KK hK => ?_)
  go_wp2_with fail
  refine (manN.pub _ s 1 y ⟨by omega, by omega⟩ HY).mono ?_
  rintro e x2 ⟨rfl, hb⟩
  go_wp2_with fail
  refine hK.out _ _ (hHeld1.trans (hb.mono hHeld1.size)) (fun hHeld2 => ?_)
  clear hK KK
  try simp only [Act.put, List.setIfInBounds_toArray, List.set_cons_zero, List.set_cons_succ]
  refine held_one (i := 23) (by kernel_rfl) rfl (by rfl) (fun KK hK => ?_)
  go_wp2_with fail
  refine (manN.ver _ y 1 m (.slice A1 186 c1) X true ⟨by omega, by omega⟩ (HVB.out.next hHeld2) (by have := HXL.out; omega) HVX).mono ?_
  rintro e x3 ⟨rfl, hb⟩
  go_wp2_with fail
  refine hK.out _ _ (hHeld2.trans (hb.mono hHeld2.size)) (fun hHeld3 => ?_)
  clear hK KK
  try simp only [Act.put, List.setIfInBounds_toArray, List.set_cons_zero, List.set_cons_succ]
  refine held_pure 24 62 (.bool true) rfl (fun W => by rfl) hHeld3 ?_
  try simp only [Act.put, List.setIfInBounds_toArray, List.set_cons_zero, List.set_cons_succ]
  refine held_pure 25 63 (.bool true) rfl (fun W => by rfl) hHeld3 ?_
  try simp only [Act.put, List.setIfInBounds_toArray, List.set_cons_zero, List.set_cons_succ]
  refine held_load 26 64 rfl 30 (.tmp 4) rfl w.heap.size 0 rfl (nmR s) (fun w' h => range_is (cs := nmR s) (hs2.next h)) Try.underlying30 name_info hHeld3 ?_
  try simp only [Act.put, List.setIfInBounds_toArray, List.set_cons_zero, List.set_cons_succ]
  refine held_pure 27 65 (.int .i64 1) rfl (fun W => by rfl) hHeld3 ?_
  try simp only [Act.put, List.setIfInBounds_toArray, List.set_cons_zero, List.set_cons_succ]
  refine held_pure 29 67 (.int .i64 1) rfl (fun W => by rfl) hHeld3 ?_
  try simp only [Act.put, List.setIfInBounds_toArray, List.set_cons_zero, List.set_cons_succ]
  refine held_pure 30 68 (.int .i64 2) rfl (fun W => by go_simp) hHeld3 ?_
  try simp only [Act.put, List.setIfInBounds_toArray, List.set_cons_zero, List.set_cons_succ]
  refine held_load 31 69 rfl 30 (.tmp 7) rfl (w.heap.size + 1) 0 rfl (nmR m) (fun w' h => range_is (cs := nmR m) (hm2.next h)) Try.underlying30 name_info hHeld3 ?_
  try simp only [Act.put, List.setIfInBounds_toArray, List.set_cons_zero, List.set_cons_succ]
  refine held_pure 32 70 (.slice A1 186 c1) rfl (fun W => by rfl) hHeld3 ?_
  try simp only [Act.put, List.setIfInBounds_toArray, List.set_cons_zero, List.set_cons_succ]
  refine held_one (i := 28) (by kernel_rfl) rfl (by rfl) (fun KK hK => ?_)
  go_wp2_with fail
  refine (manN.pub _ s 1 y ⟨by omega, by omega⟩ HY).mono ?_
  rintro e x4 ⟨rfl, hb⟩
  go_wp2_with fail
  refine hK.out _ _ (hHeld3.trans (hb.mono hHeld3.size)) (fun hHeld4 => ?_)
  clear hK KK
  try simp only [Act.put, List.setIfInBounds_toArray, List.set_cons_zero, List.set_cons_succ]
  refine held_one (i := 33) (by kernel_rfl) rfl (by rfl) (fun KK hK => ?_)
  go_wp2_with fail
  refine (manN.ver _ y 2 m (.slice A1 186 c1) X false ⟨by omega, by omega⟩ (HVB.out.next hHeld4) (by have := HXL.out; omega) HVN).mono ?_
  rintro e x5 ⟨rfl, hb⟩
  go_wp2_with fail
  refine hK.out _ _ (hHeld4.trans (hb.mono hHeld4.size)) (fun hHeld5 => ?_)
  clear hK KK
  try simp only [Act.put, List.setIfInBounds_toArray, List.set_cons_zero, List.set_cons_succ]
  refine held_pure 34 72 (.bool true) rfl (fun W => by go_simp) hHeld5 ?_
  try simp only [Act.put, List.setIfInBounds_toArray, List.set_cons_zero, List.set_cons_succ]
  refine held_pure 35 73 (.bool true) rfl (fun W => by rfl) hHeld5 ?_
  try simp only [Act.put, List.setIfInBounds_toArray, List.set_cons_zero, List.set_cons_succ]
  refine held_pure 36 74 (.bool true) rfl (fun W => by rfl) hHeld5 ?_
  try simp only [Act.put, List.setIfInBounds_toArray, List.set_cons_zero, List.set_cons_succ]
  refine held_one (i := 37) (by kernel_rfl) rfl (by rfl) (fun KK hK => ?_)
  go_wp2_with fail
  refine (awake_any _).mono ?_
  rintro e x6 ⟨rfl, hb⟩
  go_wp2_with fail
  refine hK.out _ _ (hHeld5.trans (hb.mono hHeld5.size)) (fun hHeld6 => ?_)
  clear hK KK
  try simp only [Act.put, List.setIfInBounds_toArray, List.set_cons_zero, List.set_cons_succ]
  refine held_pure 38 76 (.bool true) rfl (fun W => by rfl) hHeld6 ?_
  try simp only [Act.put, List.setIfInBounds_toArray, List.set_cons_zero, List.set_cons_succ]
  refine held_pure 39 8 (.bool true) rfl (fun W => by rfl) hHeld6 ?_
  try simp only [Act.put, List.setIfInBounds_toArray, List.set_cons_zero, List.set_cons_succ]
  refine wpAnyH_done (by kernel_rfl) ?_ _
  try simp only [Act.put, List.setIfInBounds_toArray, List.set_cons_zero, List.set_cons_succ]
  go_wp2_with fail
  go_ret
  exact ⟨rfl, hF2.1.trans (hHeld6.mono (by have := hF2.2; omega))⟩

set_option maxRecDepth 10000 in
set_option maxHeartbeats 4000000 in
theorem walk2 (w : World) (s : BitVec 64) (lv leaf : Int) (m : BitVec 64) (hlv : I64 lv) (hleaf : I64 leaf) (A : Nat) (hA : IntKind.u64.wrap lv = (A : Int)) (hA2 : A % 2 = 1) :
    Calls Try.prog 5 #[nm s, .int .i64 lv, .int .i64 leaf, nm m] w fun e w' => e = .returned (.bool true) ∧ Below w.heap.size w w' := by
  obtain ⟨hlv1, hlv2⟩ := hlv
  obtain ⟨hle1, hle2⟩ := hleaf
  obtain ⟨hs, hm, hF⟩ := signW_facts w s m
  have hA3 : (A : Int) % 2 = 1 := by omega
  have hA4 : Int.tmod (A : Int) 2 = 1 := by rw [Int.tmod_eq_emod_of_nonneg (by omega)]; exact hA3
  obtain ⟨B, hB⟩ : ∃ n : Nat, IntKind.u64.wrap leaf = (n : Int) := ⟨(IntKind.u64.wrap leaf).toNat, by rw [IntKind.wrap_u64]; omega⟩
  obtain ⟨p, hp⟩ : ∃ n : Nat, B % 1024 = n := ⟨_, rfl⟩
  have hp1 : (B : Int) % 1024 = (p : Int) := by omega
  have hp2 : Int.tmod (B : Int) 1024 = (p : Int) := by rw [Int.tmod_eq_emod_of_nonneg (by omega)]; exact hp1
  have hp3 : p < 1024 := by omega
  have hp4 : IntKind.i64.wrap (p : Int) = (p : Int) := by rw [IntKind.wrap_i64]; omega
  have hp5 : IntKind.u64.wrap (p : Int) = (p : Int) := by rw [IntKind.wrap_u64]; omega
  obtain ⟨X, hX⟩ : ∃ x, sign2F s p m = x := ⟨_, rfl⟩
  obtain ⟨y, hy⟩ : ∃ y, mpubF s 2 = y := ⟨_, rfl⟩
  have HSX : Hid (signP s 2 (p : Int) m = (X, true)) := Lib.hid (by unfold signP; rw [if_neg (by simp)]; rw [if_pos ⟨rfl, by omega, by omega⟩, Int.toNat_natCast, hX])
  have HVX : Hid (verM y 2 m X = true) := Lib.hid (by rw [← hy, ← hX]; exact ver_two s p m hp3)
  have HXL : Hid (X.length = 370) := Lib.hid (by rw [← hX]; exact sign2F_len s p m hp3)
  have HVN : Hid (verM y 1 m X = false) := Lib.hid (ver_size y 1 m X (by rw [HXL.out]; decide))
  have HLP : Hid (leafP X = ((p : Int), true)) := Lib.hid (by unfold leafP; rw [if_pos (by rw [HXL.out]; omega), ← hX, leafN_two s p m hp3])
  have HY := Lib.hid hy
  have hp0 : (0 : Int) ≤ (p : Int) := by omega
  have hw3 : IntKind.i64.wrap (1 : Int) = 1 := by decide
  clear hX hy hA2 hp
  go_enter Try.func5, Try.ntmps5
  go_wp2_with fail
  refine (refN.cap (signW w s m) 2 ⟨by omega, by omega⟩).mono ?_
  rintro e w0 ⟨rfl, hb0⟩
  rw [cap_two]
  generalize signW w s m = W at *
  have hs0 := hs.next hb0
  have hm0 := hm.next hb0
  have hF0 := hF.next hb0
  have k1 := hs0.cell
  have k2 := hm0.cell
  go_wp2_with fail
  refine (manN.sign w0 s 2 (p : Int) m (X, true) ⟨by omega, by omega⟩ ⟨by omega, by omega⟩ HSX).mono ?_
  rintro e w1 ⟨v1, rfl, ho1, hb1⟩
  have hv1 := ho1.vb
  clear ho1 k1 k2
  go_wp2_with fail
  refine (leafM.leaf w1 v1 X hv1 (by have := HXL.out; omega)).mono ?_
  rintro e w2 ⟨rfl, hb2⟩
  rw [HLP.out]
  have hs2 := (hs0.next hb1).next hb2
  have hm2 := (hm0.next hb1).next hb2
  have hF2 := (hF0.next hb1).next hb2
  have hv2 := hv1.next hb2
  obtain ⟨A1, c1, e1, d1, d2, hr1⟩ := hv2
  have hXL := HXL.out
  rw [hXL] at e1
  subst e1
  have HVB : Hid (VB w2 (.slice A1 370 c1) X) := Lib.hid ⟨A1, c1, by rw [hXL], d1, d2, hr1⟩
  clear hv1 hXL d1 d2 hr1
  go_wp2_with fail
  refine wp_region_held_drew (S := fun w' => Below w2.heap.size w2 w') (by kernel_rfl) (Below.refl _ _).drew (fun hHeld => ?_)
  refine held_pure 0 38 (.bool true) rfl (fun W => by rfl) hHeld ?_
  try simp only [Act.put, List.setIfInBounds_toArray, List.set_cons_zero, List.set_cons_succ]
  refine held_pure 1 39 (.bool true) rfl (fun W => by rfl) hHeld ?_
  try simp only [Act.put, List.setIfInBounds_toArray, List.set_cons_zero, List.set_cons_succ]
  refine held_pure 2 40 (.bool true) rfl (fun W => by rfl) hHeld ?_
  try simp only [Act.put, List.setIfInBounds_toArray, List.set_cons_zero, List.set_cons_succ]
  refine held_pure 3 41 (.bool true) rfl (fun W => by rfl) hHeld ?_
  try simp only [Act.put, List.setIfInBounds_toArray, List.set_cons_zero, List.set_cons_succ]
  refine held_pure 4 42 (.bool true) rfl (fun W => by rfl) hHeld ?_
  try simp only [Act.put, List.setIfInBounds_toArray, List.set_cons_zero, List.set_cons_succ]
  refine held_pure 5 43 (.int .i64 (p : Int)) rfl (fun W => by rfl) hHeld ?_
  try simp only [Act.put, List.setIfInBounds_toArray, List.set_cons_zero, List.set_cons_succ]
  refine held_pure 6 44 (.int .i64 (p : Int)) rfl (fun W => by rfl) hHeld ?_
  try simp only [Act.put, List.setIfInBounds_toArray, List.set_cons_zero, List.set_cons_succ]
  refine held_pure 7 45 (.bool true) rfl (fun W => by go_simp) hHeld ?_
  try simp only [Act.put, List.setIfInBounds_toArray, List.set_cons_zero, List.set_cons_succ]
  refine held_pure 8 46 (.bool true) rfl (fun W => by rfl) hHeld ?_
  try simp only [Act.put, List.setIfInBounds_toArray, List.set_cons_zero, List.set_cons_succ]
  refine held_pure 9 47 (.bool true) rfl (fun W => by rfl) hHeld ?_
  try simp only [Act.put, List.setIfInBounds_toArray, List.set_cons_zero, List.set_cons_succ]
  refine held_pure 10 48 (.slice A1 370 c1) rfl (fun W => by rfl) hHeld ?_
  try simp only [Act.put, List.setIfInBounds_toArray, List.set_cons_zero, List.set_cons_succ]
  refine held_pure 11 49 (.int .i64 370) rfl (fun W => by go_simp) hHeld ?_
  try simp only [Act.put, List.setIfInBounds_toArray, List.set_cons_zero, List.set_cons_succ]
  refine held_pure 12 50 (.int .i64 2) rfl (fun W => by rfl) hHeld ?_
  try simp only [Act.put, List.setIfInBounds_toArray, List.set_cons_zero, List.set_cons_succ]
  refine held_one (i := 13) (by kernel_rfl) rfl (by rfl) (fun KK hK => ?_)
  go_wp2_with fail
  refine (manN.size _ 2 ⟨by omega, by omega⟩).mono ?_
  rintro e x1 ⟨rfl, hb⟩
  rw [size_two]
  go_wp2_with fail
  refine hK.out _ _ (hHeld.trans (hb.mono hHeld.size)) (fun hHeld1 => ?_)
  clear hK KK
  try simp only [Act.put, List.setIfInBounds_toArray, List.set_cons_zero, List.set_cons_succ]
  refine held_pure 14 52 (.bool true) rfl (fun W => by go_simp) hHeld1 ?_
  try simp only [Act.put, List.setIfInBounds_toArray, List.set_cons_zero, List.set_cons_succ]
  refine held_pure 15 53 (.bool true) rfl (fun W => by rfl) hHeld1 ?_
  try simp only [Act.put, List.setIfInBounds_toArray, List.set_cons_zero, List.set_cons_succ]
  refine held_pure 16 54 (.bool true) rfl (fun W => by rfl) hHeld1 ?_
  try simp only [Act.put, List.setIfInBounds_toArray, List.set_cons_zero, List.set_cons_succ]
  refine held_load 17 55 rfl 30 (.tmp 4) rfl w.heap.size 0 rfl (nmR s) (fun w' h => range_is (cs := nmR s) (hs2.next h)) Try.underlying30 name_info hHeld1 ?_
  try simp only [Act.put, List.setIfInBounds_toArray, List.set_cons_zero, List.set_cons_succ]
  refine held_pure 18 56 (.int .i64 2) rfl (fun W => by rfl) hHeld1 ?_
  try simp only [Act.put, List.setIfInBounds_toArray, List.set_cons_zero, List.set_cons_succ]
  refine held_pure 20 58 (.int .i64 2) rfl (fun W => by rfl) hHeld1 ?_
  try simp only [Act.put, List.setIfInBounds_toArray, List.set_cons_zero, List.set_cons_succ]
  refine held_load 21 59 rfl 30 (.tmp 7) rfl (w.heap.size + 1) 0 rfl (nmR m) (fun w' h => range_is (cs := nmR m) (hm2.next h)) Try.underlying30 name_info hHeld1 ?_
  try simp only [Act.put, List.setIfInBounds_toArray, List.set_cons_zero, List.set_cons_succ]
  refine held_pure 22 60 (.slice A1 370 c1) rfl (fun W => by rfl) hHeld1 ?_
  try simp only [Act.put, List.setIfInBounds_toArray, List.set_cons_zero, List.set_cons_succ]
  refine held_one (i := 19) (by kernel_rfl) rfl (by rfl) (fun KK hK => ?_)
  go_wp2_with fail
  refine (manN.pub _ s 2 y ⟨by omega, by omega⟩ HY).mono ?_
  rintro e x2 ⟨rfl, hb⟩
  go_wp2_with fail
  refine hK.out _ _ (hHeld1.trans (hb.mono hHeld1.size)) (fun hHeld2 => ?_)
  clear hK KK
  try simp only [Act.put, List.setIfInBounds_toArray, List.set_cons_zero, List.set_cons_succ]
  refine held_one (i := 23) (by kernel_rfl) rfl (by rfl) (fun KK hK => ?_)
  go_wp2_with fail
  refine (manN.ver _ y 2 m (.slice A1 370 c1) X true ⟨by omega, by omega⟩ (HVB.out.next hHeld2) (by have := HXL.out; omega) HVX).mono ?_
  rintro e x3 ⟨rfl, hb⟩
  go_wp2_with fail
  refine hK.out _ _ (hHeld2.trans (hb.mono hHeld2.size)) (fun hHeld3 => ?_)
  clear hK KK
  try simp only [Act.put, List.setIfInBounds_toArray, List.set_cons_zero, List.set_cons_succ]
  refine held_pure 24 62 (.bool true) rfl (fun W => by rfl) hHeld3 ?_
  try simp only [Act.put, List.setIfInBounds_toArray, List.set_cons_zero, List.set_cons_succ]
  refine held_pure 25 63 (.bool true) rfl (fun W => by rfl) hHeld3 ?_
  try simp only [Act.put, List.setIfInBounds_toArray, List.set_cons_zero, List.set_cons_succ]
  refine held_load 26 64 rfl 30 (.tmp 4) rfl w.heap.size 0 rfl (nmR s) (fun w' h => range_is (cs := nmR s) (hs2.next h)) Try.underlying30 name_info hHeld3 ?_
  try simp only [Act.put, List.setIfInBounds_toArray, List.set_cons_zero, List.set_cons_succ]
  refine held_pure 27 65 (.int .i64 2) rfl (fun W => by rfl) hHeld3 ?_
  try simp only [Act.put, List.setIfInBounds_toArray, List.set_cons_zero, List.set_cons_succ]
  refine held_pure 29 67 (.int .i64 2) rfl (fun W => by rfl) hHeld3 ?_
  try simp only [Act.put, List.setIfInBounds_toArray, List.set_cons_zero, List.set_cons_succ]
  refine held_pure 30 68 (.int .i64 1) rfl (fun W => by go_simp) hHeld3 ?_
  try simp only [Act.put, List.setIfInBounds_toArray, List.set_cons_zero, List.set_cons_succ]
  refine held_load 31 69 rfl 30 (.tmp 7) rfl (w.heap.size + 1) 0 rfl (nmR m) (fun w' h => range_is (cs := nmR m) (hm2.next h)) Try.underlying30 name_info hHeld3 ?_
  try simp only [Act.put, List.setIfInBounds_toArray, List.set_cons_zero, List.set_cons_succ]
  refine held_pure 32 70 (.slice A1 370 c1) rfl (fun W => by rfl) hHeld3 ?_
  try simp only [Act.put, List.setIfInBounds_toArray, List.set_cons_zero, List.set_cons_succ]
  refine held_one (i := 28) (by kernel_rfl) rfl (by rfl) (fun KK hK => ?_)
  go_wp2_with fail
  refine (manN.pub _ s 2 y ⟨by omega, by omega⟩ HY).mono ?_
  rintro e x4 ⟨rfl, hb⟩
  go_wp2_with fail
  refine hK.out _ _ (hHeld3.trans (hb.mono hHeld3.size)) (fun hHeld4 => ?_)
  clear hK KK
  try simp only [Act.put, List.setIfInBounds_toArray, List.set_cons_zero, List.set_cons_succ]
  refine held_one (i := 33) (by kernel_rfl) rfl (by rfl) (fun KK hK => ?_)
  go_wp2_with fail
  refine (manN.ver _ y 1 m (.slice A1 370 c1) X false ⟨by omega, by omega⟩ (HVB.out.next hHeld4) (by have := HXL.out; omega) HVN).mono ?_
  rintro e x5 ⟨rfl, hb⟩
  go_wp2_with fail
  refine hK.out _ _ (hHeld4.trans (hb.mono hHeld4.size)) (fun hHeld5 => ?_)
  clear hK KK
  try simp only [Act.put, List.setIfInBounds_toArray, List.set_cons_zero, List.set_cons_succ]
  refine held_pure 34 72 (.bool true) rfl (fun W => by go_simp) hHeld5 ?_
  try simp only [Act.put, List.setIfInBounds_toArray, List.set_cons_zero, List.set_cons_succ]
  refine held_pure 35 73 (.bool true) rfl (fun W => by rfl) hHeld5 ?_
  try simp only [Act.put, List.setIfInBounds_toArray, List.set_cons_zero, List.set_cons_succ]
  refine held_pure 36 74 (.bool true) rfl (fun W => by rfl) hHeld5 ?_
  try simp only [Act.put, List.setIfInBounds_toArray, List.set_cons_zero, List.set_cons_succ]
  refine held_one (i := 37) (by kernel_rfl) rfl (by rfl) (fun KK hK => ?_)
  go_wp2_with fail
  refine (awake_any _).mono ?_
  rintro e x6 ⟨rfl, hb⟩
  go_wp2_with fail
  refine hK.out _ _ (hHeld5.trans (hb.mono hHeld5.size)) (fun hHeld6 => ?_)
  clear hK KK
  try simp only [Act.put, List.setIfInBounds_toArray, List.set_cons_zero, List.set_cons_succ]
  refine held_pure 38 76 (.bool true) rfl (fun W => by rfl) hHeld6 ?_
  try simp only [Act.put, List.setIfInBounds_toArray, List.set_cons_zero, List.set_cons_succ]
  refine held_pure 39 8 (.bool true) rfl (fun W => by rfl) hHeld6 ?_
  try simp only [Act.put, List.setIfInBounds_toArray, List.set_cons_zero, List.set_cons_succ]
  refine wpAnyH_done (by kernel_rfl) ?_ _
  try simp only [Act.put, List.setIfInBounds_toArray, List.set_cons_zero, List.set_cons_succ]
  go_wp2_with fail
  go_ret
  exact ⟨rfl, hF2.1.trans (hHeld6.mono (by have := hF2.2; omega))⟩

theorem walk (w : World) (s : BitVec 64) (lv leaf : Int) (m : BitVec 64) (hlv : I64 lv) (hleaf : I64 leaf) :
    Calls Try.prog 5 #[nm s, .int .i64 lv, .int .i64 leaf, nm m] w fun e w' => e = .returned (.bool true) ∧ Below w.heap.size w w' := by
  obtain ⟨A, hA⟩ : ∃ n : Nat, IntKind.u64.wrap lv = (n : Int) := ⟨(IntKind.u64.wrap lv).toNat, by rw [IntKind.wrap_u64]; omega⟩
  by_cases h : A % 2 = 0
  · exact walk1 w s lv leaf m hlv hleaf A hA h
  · exact walk2 w s lv leaf m hlv hleaf A hA (by omega)

set_option maxRecDepth 100000 in
/-- The law's step, at every reading. -/
theorem lifted (os : Os) (started : os.Started) (H : Type) (enc : TypeId × Value → H) :
    ReturnsInHanded {} Try.checked os 5 .any (Rows.manytimeAcceptsSpec.pre6 enc Try.prog Try.f5 Rows.manytimeAcceptsRow.domain false) (Rows.manytimeAcceptsSpec.post enc Try.prog Try.f5 false true false false) := by
  refine law_lifted (C := Try.checked) (n := 4) (tb := 4) own started (by kernel_rfl) Try.func5 rfl (by kernel_rfl)
    (of_decide_eq_true (by kernel_rfl)) (by kernel_rfl) (by kernel_rfl) Try.underlying4
    (fun ds hd => by match ds, hd with | [_, _, _, _], _ => rfl)
    (ChangeSpec.witness6 (enc := enc) (C := Try.checked) false ⟨#[], #[.agg #[.int .u8 0, .int .u8 0, .int .u8 0, .int .u8 0, .int .u8 0, .int .u8 0, .int .u8 0, .int .u8 0], .int .i64 0, .int .i64 0, .agg #[.int .u8 0, .int .u8 0, .int .u8 0, .int .u8 0, .int .u8 0, .int .u8 0, .int .u8 0, .int .u8 0]], []⟩ 8 (by kernel_rfl) (by kernel_rfl) (by kernel_rfl) (by kernel_rfl)) ?_
  intro W base args ds ps hval hA hlt hsz
  rw [Try.params5] at hA hval
  obtain ⟨v0, vs0, d0, ds0, p0, q0, hargs, rfl, rfl, h0, r0⟩ := trodAll_cons hA
  obtain ⟨v1, vs1, d1, ds1, p1, q1, rfl, rfl, rfl, h1, r1⟩ := trodAll_cons r0
  obtain ⟨v2, vs2, d2, ds2, p2, q2, rfl, rfl, rfl, h2, r2⟩ := trodAll_cons r1
  obtain ⟨v3, vs3, d3, ds3, p3, q3, rfl, rfl, rfl, h3, r3⟩ := trodAll_cons r2
  obtain ⟨rfl, rfl, rfl⟩ := trodAll_nil r3
  obtain rfl : args = #[v0, v1, v2, v3] := by cases args; simp_all
  obtain ⟨x0, rfl, rfl⟩ := open_name Try.underlying30 Try.underlying5 cells1 cells8 (hval 0 _ v0 rfl rfl) h0
  obtain ⟨x1, rfl, rfl, rfl, wn1⟩ := open_int Try.underlying3 (hval 1 _ v1 rfl rfl) h1
  obtain ⟨x2, rfl, rfl, rfl, wn2⟩ := open_int Try.underlying3 (hval 2 _ v2 rfl rfl) h2
  obtain ⟨x3, rfl, rfl⟩ := open_name Try.underlying30 Try.underlying5 cells1 cells8 (hval 3 _ v3 rfl rfl) h3
  exact walk W x0 x1 x2 x3 (bounds_i64 wn1) (bounds_i64 wn2)

theorem proved : Rows.ManytimeAcceptsSaid :=
  OpenClaim.holds_of_wide 5 Try.f5 rfl rfl rfl rfl rfl rfl rfl ⟨rfl, rfl, rfl, rfl, rfl⟩ rfl rfl rfl rfl rfl (by kernel_rfl) Try.func5 (by kernel_rfl)
    (of_decide_eq_true (by kernel_rfl)) (by unfold Func.isWrapper; first | (rw [if_pos (by decide +kernel)]; kernel_rfl) | (rw [if_neg (by decide +kernel)]; exact ⟨rfl, rfl⟩))
    (fun os started H enc _ => lifted os started H enc)
#print axioms proved
end Go.Proofs.Ytjghengkpbokaaa.manytimeAccepts
