/-
  The climb of the law of collisions: the nodes from a leaf to the root, as climbF says.
-/
import Derived.Test.YtllciohpphngiaaClimb
import Derived.Deep.DeepCutAuto
namespace Go.Fl
theorem bsOf_app (l m : List UInt8) : bsOf l ++ bsOf m = bsOf (l ++ m) := by
  apply ByteArray.ext
  simp [bsOf]
end Go.Fl
namespace Go.Proofs.Ytllciohpphngiaa
open Go.ChangeShapes Go.WideShapes Go.ChangeAt Go.RowKit Go.Fl

theorem infoS : (Try.prog.info? 45).map (fun i => (i.zero.map (fun z => z.cells.size), i.size, i.bytes)) = some (some 9, 9, 24) := by kernel_rfl
theorem info_step : ∃ i z, Try.prog.info? 45 = some i ∧ i.zero = some z ∧ z.cells.size = 9 ∧ i.size = 9 ∧ i.bytes = 24 := by
  obtain ⟨i, hi, hzz⟩ := Option.map_eq_some_iff.1 infoS
  simp only [Prod.mk.injEq] at hzz
  obtain ⟨hz, hs, hb⟩ := hzz
  obtain ⟨z, hz1, hz2⟩ := Option.map_eq_some_iff.1 hz
  exact ⟨i, z, hi, hz1, hz2, hs, hb⟩

/-- What climb answers. -/
def RetSO (w : World) (l : List Step) (e : Ending) (w' : World) : Prop := ∃ v, e = .returned v ∧ SO w' w.heap.size 45 v l ∧ Below w.heap.size w w'

set_option maxHeartbeats 600000 in
theorem climb_leaf (x : BitVec 64) (i : Nat) (A : Option Addr) (p : List (BitVec 64)) (m c : Nat) (w : World) :
    Calls Try.prog 25 #[nm x, .int .i64 (i : Int), .int .i64 1, .slice A m c] w (RetSO w (climbF x i 1 p)) := by
  rw [climbF_one (Nat.le_refl _)]
  obtain ⟨y, hy⟩ : ∃ y, leafF x = y := ⟨_, rfl⟩
  have HY : Hid (sumF (17 :: nmL x) = y) := Lib.hid hy
  rw [hy]
  clear hy
  have hl := Is.new w 27 (nmC x)
  have hF := (Fr.refl w).alloc (.cells (nmC x) 27)
  go_enter Try.func25, Try.ntmps25
  go_wp2
  generalize w.alloc (.cells (nmC x) 27) = W at *
  refine wp_region_held_drew (S := fun w' => Is w' w.heap.size 27 (nmC x) ∧ Fr w 1 w') (by kernel_rfl) ⟨hl.drew, hF.drew⟩ (fun hHeld => ?_)
  refine held_pure 0 16 (.slice (some ⟨w.heap.size, 0, none⟩) 8 8) rfl (fun W => by go_simp) hHeld ?_
  try simp only [Act.put, List.setIfInBounds_toArray, List.set_cons_zero, List.set_cons_succ]
  refine held_if 1 17 (.string (bsOf (nmL x))) rfl (fun w' h => by (have hc := run_convert_rb 8 8 rfl w' (is_rb h.1 h.1.lt); go_simp)) hHeld ?_
  try simp only [Act.put, List.setIfInBounds_toArray, List.set_cons_zero, List.set_cons_succ]
  refine held_pure 2 18 (.slice (some ⟨w.heap.size, 0, none⟩) 8 8) rfl (fun W => by go_simp) hHeld ?_
  try simp only [Act.put, List.setIfInBounds_toArray, List.set_cons_zero, List.set_cons_succ]
  refine held_one (i := 3) (by kernel_rfl) rfl (by rfl) (fun KK hK => ?_)
  go_wp2_with fail
  refine (rtagged_n 17 _ (nmL x) 8 8 rfl HY (by simp [nmL_len]) (by simp [nmL_len]) _ (is_rb hHeld.1 hHeld.1.lt)).mono ?_
  rintro e w1 ⟨rfl, hb⟩
  go_wp2_with fail
  refine hK.out _ _ ⟨hHeld.1.next hb, hHeld.2.next hb⟩ (fun hHeld1 => ?_)
  clear hK KK
  try simp only [Act.put, List.setIfInBounds_toArray, List.set_cons_zero, List.set_cons_succ]
  refine held_pure 4 20 (.agg (stR (nmL x, y)).toArray) rfl (fun W => by go_simp) hHeld1 ?_
  try simp only [Act.put, List.setIfInBounds_toArray, List.set_cons_zero, List.set_cons_succ]
  refine held_one (i := 5) (by kernel_rfl) rfl (by rfl) (fun KK hK => ?_)
  go_wp2_with fail
  refine hK.out _ _ ⟨hHeld1.1.old _, (hHeld1.2.alloc _).le (by omega)⟩ (fun hHeld2 => ?_)
  clear hK KK
  try simp only [Act.put, List.setIfInBounds_toArray, List.set_cons_zero, List.set_cons_succ]
  refine held_pure 6 8 (.slice (some ⟨w1.heap.size, 0, none⟩) 1 1) rfl (fun W => by rfl) hHeld2 ?_
  try simp only [Act.put, List.setIfInBounds_toArray, List.set_cons_zero, List.set_cons_succ]
  refine wpAnyH_done (by kernel_rfl) ?_ _
  try simp only [Act.put, List.setIfInBounds_toArray, List.set_cons_zero, List.set_cons_succ]
  go_wp2_with fail
  go_ret
  exact ⟨_, rfl, (so_build w1 45 (nmL x, y)).base_le (by have := hHeld1.2.2; omega), hHeld2.2.1⟩

set_option maxHeartbeats 1500000 in
set_option maxRecDepth 4000 in
theorem climb_any : ∀ (n : Nat) (x : BitVec 64) (i : Nat) (A : Option Addr) (p : List (BitVec 64)) (m c : Nat) (I N : Int), I = (i : Int) → N = (n : Int) → i < n → n ≤ 9223372036854775807 → p.length = m → p.length = depthF i n → p.length ≤ c → c ≤ 9223372036854775807 → ∀ w : World, RN w w.heap.size A p →
    Calls Try.prog 25 #[nm x, .int .i64 I, .int .i64 N, .slice A m c] w (RetSO w (climbF x i n p)) := by
  intro n
  induction n using Nat.strongRecOn with
  | _ n ih =>
  intro x i A p m c I N hI hN hin hn63 hm hpd hc hc63 w hr
  subst hI hN
  by_cases h1 : n = 1
  · subst h1
    exact climb_leaf x i A p m c w
  · have hn2 : 2 ≤ n := by omega
    obtain ⟨k, hk⟩ : ∃ k, splitN n = k := ⟨_, rfl⟩
    have k1 : 1 ≤ k := by rw [← hk]; exact splitN_pos n
    have k2 : k < n := by rw [← hk]; exact splitN_lt n hn2
    have hp1 : 1 ≤ p.length := by
      rw [hpd]
      by_cases hs : i < splitN n
      · rw [depthF_left hn2 hs]; omega
      · rw [depthF_right hn2 (by omega)]; omega
    obtain ⟨u, hu⟩ : ∃ u, p[m - 1]? = some u := ⟨_, List.getElem?_eq_getElem (by omega)⟩
    have hgd : lastF p = u := by unfold lastF; rw [List.getD_eq_getElem?_getD, hm, hu]; rfl
    obtain ⟨g, off, rfl, hg, hcell⟩ := hr.at_ hu
    obtain ⟨i8, hi8, hz0, hz8, hz9⟩ := info_parts info_name
    have hdl : p.dropLast = p.take (m - 1) := by rw [List.dropLast_eq_take, hm]
    have hq : RN w w.heap.size (some ⟨g, off, none⟩) p.dropLast := by rw [hdl]; exact hr.take _
    have hql : p.dropLast.length = m - 1 := by rw [List.length_dropLast, hm]
    have nb1 : ((n : Int) == 1) = false := by rw [beq_eq_false_iff_ne]; omega
    have HQ := Lib.hid hq
    have HK := Lib.hid hk
    have m1 : (1 : Int) ≤ (m : Int) := by omega
    have hm63 : m ≤ 63 := by have := depthF_le 63 i n (by omega) hin; omega
    have m2 : (m : Int) ≤ 63 := by omega
    have n2 : (n : Int) ≤ 9223372036854775807 := by omega
    obtain ⟨j, hj⟩ : ∃ j, m - 1 = j := ⟨_, rfl⟩
    have mj : (m : Int) - 1 = (j : Int) := by omega
    rw [hj] at hcell hql
    have hs1 := fun (W : World) => run_names_to (P := Try.prog) Try.underlying22 hi8 hz8 g off m c j (X := (j : Int)) (Lib.hid rfl) (by omega) (by omega) W
    have hwj : IntKind.i64.wrap (j : Int) = (j : Int) := by rw [IntKind.wrap_i64]; omega
    have jm : j < m := by omega
    have j0 : (0 : Int) ≤ (j : Int) := by omega
    have j2 : (j : Int) < (m : Int) := by omega
    have hl := Is.new w 27 (nmC x)
    have hF := (Fr.refl w).alloc (.cells (nmC x) 27)
    have hW : (w.alloc (.cells (nmC x) 27)).heap.size = w.heap.size + 1 := by simp
    have hz : ∀ w1 : World, Is (w1.alloc (.cells #[B 0, B 0, B 0, B 0, B 0, B 0, B 0, B 0] 27)) w1.heap.size 27 #[B 0, B 0, B 0, B 0, B 0, B 0, B 0, B 0] := fun w1 => Is.new _ _ _
    obtain ⟨iS, zS, hi1, hi2, hi3, hi4, hi5⟩ := info_step
    have HI1 := Lib.hid hi1
    have HI2 := Lib.hid hi2
    have HI3 := Lib.hid hi3
    have HI4 := Lib.hid hi4
    have HI5 := Lib.hid hi5
    clear hi8 hz0 hz8 hz9 hq hr hu hdl hj hk hi1 hi2 hi3 hi4 hi5
    go_enter Try.func25, Try.ntmps25
    go_wp2
    generalize w.alloc (.cells (nmC x) 27) = W at *
    have c0 : W.cell? ⟨g, off + j * 8, none⟩ = some (B (nb u 0)) := (hF.1.cell hg).trans (hcell 0 (by omega))
    have c1 : W.cell? ⟨g, off + j * 8 + 1, none⟩ = some (B (nb u 1)) := (hF.1.cell hg).trans (hcell 1 (by omega))
    have c2 : W.cell? ⟨g, off + j * 8 + 2, none⟩ = some (B (nb u 2)) := (hF.1.cell hg).trans (hcell 2 (by omega))
    have c3 : W.cell? ⟨g, off + j * 8 + 3, none⟩ = some (B (nb u 3)) := (hF.1.cell hg).trans (hcell 3 (by omega))
    have c4 : W.cell? ⟨g, off + j * 8 + 4, none⟩ = some (B (nb u 4)) := (hF.1.cell hg).trans (hcell 4 (by omega))
    have c5 : W.cell? ⟨g, off + j * 8 + 5, none⟩ = some (B (nb u 5)) := (hF.1.cell hg).trans (hcell 5 (by omega))
    have c6 : W.cell? ⟨g, off + j * 8 + 6, none⟩ = some (B (nb u 6)) := (hF.1.cell hg).trans (hcell 6 (by omega))
    have c7 : W.cell? ⟨g, off + j * 8 + 7, none⟩ = some (B (nb u 7)) := (hF.1.cell hg).trans (hcell 7 (by omega))
    clear hcell
    go_loop [9] (fun kk => ∃ jj K : Nat, jj ≤ Nat.log2 (n - 1) ∧ Hid (2 ^ jj = K) ∧ kk = .int .i64 (K : Int)) (fun kk => n - (intOf kk).toNat)
    case atStart => exact ⟨0, 1, Nat.zero_le _, Lib.hid rfl, rfl⟩
    case round =>
      obtain ⟨jj, K, hjj, hKK, rfl⟩ := hrel
      have q1 : 1 ≤ K := by rw [← hKK.out]; exact Nat.one_le_two_pow
      have q2 : K < n := by
        rw [← hKK.out]
        exact Nat.lt_of_le_of_lt (Nat.pow_le_pow_right (by omega) hjj) (splitN_lt n hn2)
      by_cases h : K + K < n
      · have s1 : (K : Int) < (n : Int) - (K : Int) := by omega
        have hj3 := splitN_more n jj (by rw [hKK.out]; exact h)
        clear c0 c1 c2 c3 c4 c5 c6 c7
        go_wp2
        go_round
        case rel => exact ⟨jj + 1, 2 * K, hj3, Lib.hid (by rw [Nat.pow_succ, hKK.out]; omega), by go_num⟩
        case measure => simp [intOf]; omega
      · have s1 : ¬ (K : Int) < (n : Int) - (K : Int) := by omega
        have e := splitN_eq n jj hjj (by rw [hKK.out]; omega)
        rw [hKK.out, HK.out] at e
        subst e
        go_wp2
        have hu2 := Is.newAt W 27 (nmC u) hW.symm
        have hl2 := hl.old (.cells (nmC u) 27)
        have hF2 : Fr w 2 (W.alloc (.cells (nmC u) 27)) := hF.alloc _
        have hsz2 : (W.alloc (.cells (nmC u) 27)).heap.size = w.heap.size + 2 := by simp [hW]
        change Code.wp _ _ _ _ (W.alloc (.cells (nmC u) 27))
        generalize W.alloc (.cells (nmC u) 27) = w2 at *
        clear c0 c1 c2 c3 c4 c5 c6 c7 hl hF hjj hKK
        go_cut [12, 13] (fun s12 s13 wx => ∃ bx by_ : Nat, s12 = .pointer (some ⟨bx, 0, none⟩) ∧ s13 = .pointer (some ⟨by_, 0, none⟩) ∧ bx ≠ by_ ∧ w.heap.size + 2 ≤ bx ∧ w.heap.size + 2 ≤ by_ ∧ Is wx w.heap.size 27 (nmC x) ∧ Is wx bx 27 (nmC u) ∧ Is wx by_ 27 (nmC u) ∧ Fr w 2 wx)
        case first =>
          refine wp_region_held_drew (S := fun w' => Is w' (w.heap.size + 1) 27 (nmC u) ∧ Is w' w.heap.size 27 (nmC x) ∧ Fr w 2 w') (by kernel_rfl) ⟨hu2.drew, hl2.drew, hF2.drew⟩ (fun hHeld => ?_)
          refine held_load 0 35 rfl 27 (.tmp 10) rfl (w.heap.size + 1) 0 rfl (nmR u) (fun w' h => range_is (cs := nmR u) h.1) Try.underlying27 name_info hHeld ?_
          try simp only [Act.put, List.setIfInBounds_toArray, List.set_cons_zero, List.set_cons_succ]
          refine held_load 1 36 rfl 27 (.tmp 10) rfl (w.heap.size + 1) 0 rfl (nmR u) (fun w' h => range_is (cs := nmR u) h.1) Try.underlying27 name_info hHeld ?_
          try simp only [Act.put, List.setIfInBounds_toArray, List.set_cons_zero, List.set_cons_succ]
          refine wpAnyH_ready (rs := [2, 3]) (by kernel_rfl) (by simp) (AllReadyH.cons rfl (fun KK hK => ?_) (AllReadyH.cons rfl (fun KK hK => ?_) AllReadyH.nil))
          · rw [if_pos (by rfl)]
            go_wp2_with fail
            refine hK.out _ _ ⟨hHeld.1.old _, hHeld.2.1.old _, (hHeld.2.2.alloc _).le (by omega)⟩ (fun hHeld1 => ?_)
            clear hK KK
            try simp only [Act.put, List.setIfInBounds_toArray, List.set_cons_zero, List.set_cons_succ]
            refine held_one (i := 3) (by kernel_rfl) rfl (by rfl) (fun KK hK => ?_)
            go_wp2_with fail
            refine hK.out _ _ ⟨hHeld1.1.old _, hHeld1.2.1.old _, (hHeld1.2.2.alloc _).le (by omega)⟩ (fun hHeld2 => ?_)
            clear hK KK
            try simp only [Act.put, List.setIfInBounds_toArray, List.set_cons_zero, List.set_cons_succ]
            have i1 : Is ((w2.drew.alloc (.cells #[B 0, B 0, B 0, B 0, B 0, B 0, B 0, B 0] 27)).alloc (.cells #[B 0, B 0, B 0, B 0, B 0, B 0, B 0, B 0] 27)) (w.heap.size + 2) 27 #[B 0, B 0, B 0, B 0, B 0, B 0, B 0, B 0] := (Is.newAt w2.drew 27 #[B 0, B 0, B 0, B 0, B 0, B 0, B 0, B 0] hsz2.symm).old _
            have e1 : (w2.drew.alloc (.cells #[B 0, B 0, B 0, B 0, B 0, B 0, B 0, B 0] 27)).heap.size = w2.heap.size + 1 := Array.size_push _
            have i2 : Is ((w2.drew.alloc (.cells #[B 0, B 0, B 0, B 0, B 0, B 0, B 0, B 0] 27)).alloc (.cells #[B 0, B 0, B 0, B 0, B 0, B 0, B 0, B 0] 27)) (w.heap.size + 2 + 1) 27 #[B 0, B 0, B 0, B 0, B 0, B 0, B 0, B 0] := Is.newAt _ _ _ (by omega)
            have e2 := hF2.2
            have held2 := hHeld2
            refine held_one (i := 4) (by kernel_rfl) rfl (by rfl) (fun KK hK => ?_)
            refine oper_store_is 27 (.tmp 12) (.tmp 35) rfl (w.heap.size + 2) 27 _ (nmC u) rfl rfl i1 (nmC_size _) name_info (nmC_one _) ?_
            intro w4 hz4 hb4 hfar4
            have iy4 : Is w4 (w.heap.size + 2 + 1) 27 #[B 0, B 0, B 0, B 0, B 0, B 0, B 0, B 0] := (hfar4 _ (by omega)).trans i2
            refine hK.out _ _ ⟨hHeld2.1.keep hb4 (by omega), hHeld2.2.1.keep hb4 (by omega), hHeld2.2.2.step hb4 (by omega)⟩ (fun hHeld3 => ?_)
            clear hK KK
            try simp only [Act.put, List.setIfInBounds_toArray]
            refine held_one (i := 5) (by kernel_rfl) rfl (by rfl) (fun KK hK => ?_)
            refine oper_store_is 27 (.tmp 13) (.tmp 36) rfl (w.heap.size + 2 + 1) 27 _ (nmC u) rfl rfl iy4 (nmC_size _) name_info (nmC_one _) ?_
            intro w5 hz5 hb5 hfar5
            have ix5 : Is w5 (w.heap.size + 2) 27 (nmC u) := (hfar5 _ (by omega)).trans hz4
            refine hK.out _ _ ⟨hHeld3.1.keep hb5 (by omega), hHeld3.2.1.keep hb5 (by omega), hHeld3.2.2.step hb5 (by omega)⟩ (fun hHeld4 => ?_)
            clear hK KK
            try simp only [Act.put]
            refine wpAnyH_done (by kernel_rfl) ?_ _
            try simp only [Act.put, List.setIfInBounds_toArray, List.set_cons_zero, List.set_cons_succ]
            go_wp2_with fail
            go_meet
            case rel => exact ⟨(w.heap.size + 2), (w.heap.size + 2 + 1), rfl, rfl, by omega, by omega, by omega, hHeld4.2.1, ix5, hz5, hHeld4.2.2⟩
          · rw [if_pos (by rfl)]
            go_wp2_with fail
            refine hK.out _ _ ⟨hHeld.1.old _, hHeld.2.1.old _, (hHeld.2.2.alloc _).le (by omega)⟩ (fun hHeld1 => ?_)
            clear hK KK
            try simp only [Act.put, List.setIfInBounds_toArray, List.set_cons_zero, List.set_cons_succ]
            refine held_one (i := 2) (by kernel_rfl) rfl (by rfl) (fun KK hK => ?_)
            go_wp2_with fail
            refine hK.out _ _ ⟨hHeld1.1.old _, hHeld1.2.1.old _, (hHeld1.2.2.alloc _).le (by omega)⟩ (fun hHeld2 => ?_)
            clear hK KK
            try simp only [Act.put, List.setIfInBounds_toArray, List.set_cons_zero, List.set_cons_succ]
            have i1 : Is ((w2.drew.alloc (.cells #[B 0, B 0, B 0, B 0, B 0, B 0, B 0, B 0] 27)).alloc (.cells #[B 0, B 0, B 0, B 0, B 0, B 0, B 0, B 0] 27)) (w.heap.size + 2) 27 #[B 0, B 0, B 0, B 0, B 0, B 0, B 0, B 0] := (Is.newAt w2.drew 27 #[B 0, B 0, B 0, B 0, B 0, B 0, B 0, B 0] hsz2.symm).old _
            have e1 : (w2.drew.alloc (.cells #[B 0, B 0, B 0, B 0, B 0, B 0, B 0, B 0] 27)).heap.size = w2.heap.size + 1 := Array.size_push _
            have i2 : Is ((w2.drew.alloc (.cells #[B 0, B 0, B 0, B 0, B 0, B 0, B 0, B 0] 27)).alloc (.cells #[B 0, B 0, B 0, B 0, B 0, B 0, B 0, B 0] 27)) (w.heap.size + 2 + 1) 27 #[B 0, B 0, B 0, B 0, B 0, B 0, B 0, B 0] := Is.newAt _ _ _ (by omega)
            have e2 := hF2.2
            have held2 := hHeld2
            refine held_one (i := 4) (by kernel_rfl) rfl (by rfl) (fun KK hK => ?_)
            refine oper_store_is 27 (.tmp 12) (.tmp 35) rfl (w.heap.size + 2 + 1) 27 _ (nmC u) rfl rfl i2 (nmC_size _) name_info (nmC_one _) ?_
            intro w4 hz4 hb4 hfar4
            have iy4 : Is w4 (w.heap.size + 2) 27 #[B 0, B 0, B 0, B 0, B 0, B 0, B 0, B 0] := (hfar4 _ (by omega)).trans i1
            refine hK.out _ _ ⟨hHeld2.1.keep hb4 (by omega), hHeld2.2.1.keep hb4 (by omega), hHeld2.2.2.step hb4 (by omega)⟩ (fun hHeld3 => ?_)
            clear hK KK
            try simp only [Act.put, List.setIfInBounds_toArray]
            refine held_one (i := 5) (by kernel_rfl) rfl (by rfl) (fun KK hK => ?_)
            refine oper_store_is 27 (.tmp 13) (.tmp 36) rfl (w.heap.size + 2) 27 _ (nmC u) rfl rfl iy4 (nmC_size _) name_info (nmC_one _) ?_
            intro w5 hz5 hb5 hfar5
            have ix5 : Is w5 (w.heap.size + 2 + 1) 27 (nmC u) := (hfar5 _ (by omega)).trans hz4
            refine hK.out _ _ ⟨hHeld3.1.keep hb5 (by omega), hHeld3.2.1.keep hb5 (by omega), hHeld3.2.2.step hb5 (by omega)⟩ (fun hHeld4 => ?_)
            clear hK KK
            try simp only [Act.put]
            refine wpAnyH_done (by kernel_rfl) ?_ _
            try simp only [Act.put, List.setIfInBounds_toArray, List.set_cons_zero, List.set_cons_succ]
            go_wp2_with fail
            go_meet
            case rel => exact ⟨(w.heap.size + 2 + 1), (w.heap.size + 2), rfl, rfl, by omega, by omega, by omega, hHeld4.2.1, ix5, hz5, hHeld4.2.2⟩
        case rest =>
          obtain ⟨bx, by_, rfl, rfl, hne, hbx, hby, hl3, hx3, hy3, hF3⟩ := hcut
          clear hu2 hl2 hF2
          by_cases hs : i < K
          · have ey := climbF_left (x := x) (p := p) hn2 (show i < splitN n by rw [HK.out]; exact hs)
            have ef := followF_left (x := x) (p := p) hn2 (show i < splitN n by rw [HK.out]; exact hs)
            rw [HK.out, hgd] at ey
            rw [HK.out, show p.getD (p.length - 1) 0 = u from hgd] at ef
            obtain ⟨y1, hy1⟩ : ∃ y1, followF x i K p.dropLast = y1 := ⟨_, rfl⟩
            obtain ⟨L, hL⟩ : ∃ L, climbF x i K p.dropLast = L := ⟨_, rfl⟩
            obtain ⟨lb, hlb⟩ := climb_last K i x p.dropLast
            have hLl := climb_len K i x p.dropLast
            have hd := depthF_left hn2 (show i < splitN n by rw [HK.out]; exact hs)
            rw [HK.out] at hd
            have s2 : (i : Int) < (K : Int) := by omega
            rw [hL, hy1] at hlb
            rw [hL] at hLl
            rw [hL, hy1] at ey
            rw [hy1] at ef
            obtain ⟨y, hy⟩ : ∃ y, followF x i n p = y := ⟨_, rfl⟩
            rw [hy] at ey ef
            have HXP : Hid (sumF (18 :: (nmL y1 ++ nmL u)) = y) := Lib.hid (by rw [ef]; rfl)
            have HPD : Hid (p.dropLast.length = depthF i K) := Lib.hid (by omega)
            have HQL := Lib.hid hql
            have hLj : L.length = j + 1 := by rw [hLl]; have := HPD.out; omega
            have hlb2 : L[j]? = some (lb, y1) := by have := HPD.out; rw [← hlb]; congr 1; omega
            have HLB := Lib.hid hlb2
            have HLL := Lib.hid hLj
            have HL := Lib.hid hL
            have EY := Lib.hid ey
            clear ey ef hL hlb hLl hd hy hy1 hlb2 hLj hql hpd
            go_wp2
            refine wp_region_held_drew (S := fun w' => Is w' w.heap.size 27 (nmC x) ∧ Fr w 2 w') (by kernel_rfl) ⟨hl3.drew, hF3.drew⟩ (fun hHeld => ?_)
            refine held_load 0 40 rfl 27 (.tmp 4) rfl w.heap.size 0 rfl (nmR x) (fun w' h => range_is (cs := nmR x) h.1) Try.underlying27 name_info hHeld ?_
            try simp only [Act.put, List.setIfInBounds_toArray, List.set_cons_zero, List.set_cons_succ]
            refine held_pure 1 41 (.int .i64 (i : Int)) rfl (fun W => by rfl) hHeld ?_
            try simp only [Act.put, List.setIfInBounds_toArray, List.set_cons_zero, List.set_cons_succ]
            refine held_pure 2 42 (.int .i64 (K : Int)) rfl (fun W => by rfl) hHeld ?_
            try simp only [Act.put, List.setIfInBounds_toArray, List.set_cons_zero, List.set_cons_succ]
            refine held_pure 3 43 (.slice (some ⟨g, off, none⟩) m c) rfl (fun W => by rfl) hHeld ?_
            try simp only [Act.put, List.setIfInBounds_toArray, List.set_cons_zero, List.set_cons_succ]
            refine held_pure 4 44 (.slice (some ⟨g, off, none⟩) m c) rfl (fun W => by rfl) hHeld ?_
            try simp only [Act.put, List.setIfInBounds_toArray, List.set_cons_zero, List.set_cons_succ]
            refine held_pure 5 45 (.int .i64 (m : Int)) rfl (fun W => by go_simp) hHeld ?_
            try simp only [Act.put, List.setIfInBounds_toArray, List.set_cons_zero, List.set_cons_succ]
            refine held_pure 6 46 (.int .i64 (j : Int)) rfl (fun W => by go_simp) hHeld ?_
            try simp only [Act.put, List.setIfInBounds_toArray, List.set_cons_zero, List.set_cons_succ]
            refine held_pure 7 47 (.slice (some ⟨g, off, none⟩) j c) rfl (fun W => by go_simp) hHeld ?_
            try simp only [Act.put, List.setIfInBounds_toArray, List.set_cons_zero, List.set_cons_succ]
            refine held_one (i := 8) (by kernel_rfl) rfl (by rfl) (fun KK hK => ?_)
            go_wp2_with fail
            refine (ih K q2 x i _ p.dropLast j c _ _ rfl rfl hs (by omega) HQL.out HPD.out (by have := HQL.out; omega) hc63 _ ((HQ.out.keep hF3.drew.1).mono (by have := hF3.drew.2; omega))).mono ?_
            rintro e w6 ⟨v6, rfl, ho6, hb6⟩
            rw [HL.out] at ho6
            have ho6 : SO w6 wc.heap.size 45 v6 L := ho6
            have hF6 := hF3.drew.next hb6
            have hx6 := hx3.drew.next hb6
            have hy6 := hy3.drew.next hb6
            go_wp2_with fail
            refine hK.out _ _ ⟨hHeld.1.next hb6, hHeld.2.next hb6⟩ (fun hHeld1 => ?_)
            clear hK KK
            try simp only [Act.put, List.setIfInBounds_toArray, List.set_cons_zero, List.set_cons_succ]
            refine held_pure 9 11 (v6) rfl (fun W => by rfl) hHeld1 ?_
            try simp only [Act.put, List.setIfInBounds_toArray, List.set_cons_zero, List.set_cons_succ]
            refine wpAnyH_done (by kernel_rfl) ?_ _
            try simp only [Act.put, List.setIfInBounds_toArray, List.set_cons_zero, List.set_cons_succ]
            obtain ⟨gl, cl, rfl, kl1, kl2, hgl, hgl2, hat⟩ := ho6.form (by have := HLL.out; omega)
            have hat2 := (hat j (lb, y1) HLB.out).1
            have LL := HLL.out
            rw [LL] at ho6 ⊢
            have hlj : ((j + 1 : Nat) : Int) - 1 = (j : Int) := by omega
            have d0 : w6.cell? ⟨gl, j * 9 + 1, none⟩ = some (B (nb y1 0)) := by have := hat2 0 _ rfl; simpa using this
            have d1 : w6.cell? ⟨gl, j * 9 + 1 + 1, none⟩ = some (B (nb y1 1)) := by have := hat2 1 _ rfl; simpa using this
            have d2 : w6.cell? ⟨gl, j * 9 + 1 + 2, none⟩ = some (B (nb y1 2)) := by have := hat2 2 _ rfl; simpa using this
            have d3 : w6.cell? ⟨gl, j * 9 + 1 + 3, none⟩ = some (B (nb y1 3)) := by have := hat2 3 _ rfl; simpa using this
            have d4 : w6.cell? ⟨gl, j * 9 + 1 + 4, none⟩ = some (B (nb y1 4)) := by have := hat2 4 _ rfl; simpa using this
            have d5 : w6.cell? ⟨gl, j * 9 + 1 + 5, none⟩ = some (B (nb y1 5)) := by have := hat2 5 _ rfl; simpa using this
            have d6 : w6.cell? ⟨gl, j * 9 + 1 + 6, none⟩ = some (B (nb y1 6)) := by have := hat2 6 _ rfl; simpa using this
            have d7 : w6.cell? ⟨gl, j * 9 + 1 + 7, none⟩ = some (B (nb y1 7)) := by have := hat2 7 _ rfl; simpa using this
            have lx := hx3.lt
            have ly := hy3.lt
            have hFF := hF3.2
            go_wp2_with (refine wpList_store_far rfl 27 (.tmp 12) (.tmp 55) rfl bx 27 _ (nmC y1) rfl rfl hx6 (nmC_size _) name_info (nmC_one _) ?_; intro w7 hz7 hb7 hfar7)
            have hF7 := hF6.step hb7 (by omega)
            have ho7 := ho6.far (fun b hb => hfar7 b (by omega))
            have io7 : Is w7 by_ 27 (nmC u) := (hfar7 _ (by omega)).trans hy6
            have z1 : (bsOf (nmL y1)).size + (bsOf (nmL u)).size ≤ 9223372036854775807 := by (have h8 : ∀ q, (bsOf (nmL q)).size = 8 := fun _ => rfl; rw [h8, h8]; omega)
            refine wp_region_held_drew (S := fun w' => Is w' bx 27 (nmC y1) ∧ Is w' by_ 27 (nmC u) ∧ Fr w 2 w') (by kernel_rfl) ⟨hz7.drew, io7.drew, hF7.drew⟩ (fun hI => ?_)
            refine held_pure 0 76 (.slice (some ⟨gl, 0, none⟩) (j + 1) cl) rfl (fun W => by rfl) hI ?_
            try simp only [Act.put, List.setIfInBounds_toArray, List.set_cons_zero, List.set_cons_succ]
            refine held_pure 1 77 (.slice (some ⟨bx, 0, none⟩) 8 8) rfl (fun W => by go_simp) hI ?_
            try simp only [Act.put, List.setIfInBounds_toArray, List.set_cons_zero, List.set_cons_succ]
            refine held_if 2 78 (.string (bsOf (nmL y1))) rfl (fun w' h => by (have hc := run_convert_rb 8 8 rfl w' (is_rb h.1 h.1.lt); go_simp)) hI ?_
            try simp only [Act.put, List.setIfInBounds_toArray, List.set_cons_zero, List.set_cons_succ]
            refine held_pure 3 79 (.slice (some ⟨by_, 0, none⟩) 8 8) rfl (fun W => by go_simp) hI ?_
            try simp only [Act.put, List.setIfInBounds_toArray, List.set_cons_zero, List.set_cons_succ]
            refine held_if 4 80 (.string (bsOf (nmL u))) rfl (fun w' h => by (have hc := run_convert_rb 8 8 rfl w' (is_rb h.2.1 h.2.1.lt); go_simp)) hI ?_
            try simp only [Act.put, List.setIfInBounds_toArray, List.set_cons_zero, List.set_cons_succ]
            refine held_pure 5 81 (.string (bsOf (nmL y1 ++ nmL u))) rfl (fun W => by (rw [← bsOf_app]; go_simp)) hI ?_
            try simp only [Act.put, List.setIfInBounds_toArray, List.set_cons_zero, List.set_cons_succ]
            refine held_load 6 82 rfl 27 (.tmp 12) rfl bx 0 rfl (nmR y1) (fun w' h => range_is (cs := nmR y1) h.1) Try.underlying27 name_info hI ?_
            try simp only [Act.put, List.setIfInBounds_toArray, List.set_cons_zero, List.set_cons_succ]
            refine held_load 7 83 rfl 27 (.tmp 13) rfl by_ 0 rfl (nmR u) (fun w' h => range_is (cs := nmR u) h.2.1) Try.underlying27 name_info hI ?_
            try simp only [Act.put, List.setIfInBounds_toArray, List.set_cons_zero, List.set_cons_succ]
            refine held_one (i := 8) (by kernel_rfl) rfl (by rfl) (fun KK hK => ?_)
            go_wp2_with fail
            refine (rpair_any 18 y1 u HXP _).mono ?_
            rintro e w8 ⟨rfl, hb⟩
            have ho8 := SO.keep (w := w7.drew) ho7 hb
            go_wp2_with fail
            refine hK.out _ _ ⟨hI.1.next hb, hI.2.1.next hb, hI.2.2.next hb⟩ (fun hHeld1 => ?_)
            clear hK KK
            try simp only [Act.put, List.setIfInBounds_toArray, List.set_cons_zero, List.set_cons_succ]
            refine held_pure 9 85 (.agg (stR (nmL y1 ++ nmL u, y)).toArray) rfl (fun W => by go_simp) hHeld1 ?_
            try simp only [Act.put, List.setIfInBounds_toArray, List.set_cons_zero, List.set_cons_succ]
            refine held_one (i := 10) (by kernel_rfl) rfl (by rfl) (fun KK hK => ?_)
            go_wp2_with fail
            refine hK.out _ _ ⟨hHeld1.1.old _, hHeld1.2.1.old _, (hHeld1.2.2.alloc _).le (by omega)⟩ (fun hHeld2 => ?_)
            clear hK KK
            try simp only [Act.put, List.setIfInBounds_toArray, List.set_cons_zero, List.set_cons_succ]
            have hn9 := Is.new w8 45 (stR (nmL y1 ++ nmL u, y)).toArray
            have ho9 := ho8.keep ((Below.refl _ _).alloc (Nat.le_refl _) (.cells (stR (nmL y1 ++ nmL u, y)).toArray 45))
            have hs8 := hb.size
            have hs6 := hb6.size
            have hs7 := hb7.size
            refine held_one (i := 11) (by kernel_rfl) rfl (by rfl) (fun KK hK => ?_)
            refine oper_append_so 87 (.tmp 76) (.tmp 86) 42 rfl wc.heap.size 45 iS zS 24 Try.underlying42 HI1.out HI2.out HI3.out HI4.out HI5.out _ L rfl ho9 (nmL y1 ++ nmL u, y) w8.heap.size 45 rfl hn9 (by (have := HLL.out; omega)) (by (have := HLL.out; simp only [maxLen]; omega)) (by simp; have : w7.drew.heap.size = w7.heap.size := rfl; have : wc.drew.heap.size = wc.heap.size := rfl; omega) ?_
            intro v9 w9 ho10 hg9
            refine hK.out _ _ ⟨hHeld2.1.grown hg9 (fun q hq => by have := ho9.own q hq; omega), hHeld2.2.1.grown hg9 (fun q hq => by have := ho9.own q hq; omega), hHeld2.2.2.grown hg9 (fun q hq => by have := ho9.own q hq; omega)⟩ (fun hHeld3 => ?_)
            clear hK KK
            try simp only [Act.put, List.setIfInBounds_toArray, List.set_cons_zero, List.set_cons_succ]
            refine held_pure 12 8 (v9) rfl (fun W => by rfl) hHeld3 ?_
            try simp only [Act.put, List.setIfInBounds_toArray, List.set_cons_zero, List.set_cons_succ]
            refine wpAnyH_done (by kernel_rfl) ?_ _
            try simp only [Act.put, List.setIfInBounds_toArray, List.set_cons_zero, List.set_cons_succ]
            go_wp2_with fail
            go_ret
            exact ⟨v9, rfl, by rw [EY.out]; exact ho10.base_le (by omega), hHeld3.2.2.1⟩
          · have ey := climbF_right (x := x) (p := p) hn2 (show splitN n ≤ i by rw [HK.out]; omega)
            have ef := followF_right (x := x) (p := p) hn2 (show splitN n ≤ i by rw [HK.out]; omega)
            rw [HK.out, hgd] at ey
            rw [HK.out, show p.getD (p.length - 1) 0 = u from hgd] at ef
            obtain ⟨y1, hy1⟩ : ∃ y1, followF x (i - K) (n - K) p.dropLast = y1 := ⟨_, rfl⟩
            obtain ⟨L, hL⟩ : ∃ L, climbF x (i - K) (n - K) p.dropLast = L := ⟨_, rfl⟩
            obtain ⟨lb, hlb⟩ := climb_last (n - K) (i - K) x p.dropLast
            have hLl := climb_len (n - K) (i - K) x p.dropLast
            have hd := depthF_right hn2 (show splitN n ≤ i by rw [HK.out]; omega)
            rw [HK.out] at hd
            have s2 : ¬ (i : Int) < (K : Int) := by omega
            have s3 : (K : Int) ≤ (i : Int) := by omega
            have s4 : (K : Int) < (n : Int) := by omega
            have s5 : (i : Int) < (n : Int) := by omega
            have hw1 : IntKind.i64.wrap ((i : Int) - (K : Int)) = (i : Int) - (K : Int) := by rw [IntKind.wrap_i64]; omega
            have hw2 : IntKind.i64.wrap ((n : Int) - (K : Int)) = (n : Int) - (K : Int) := by rw [IntKind.wrap_i64]; omega
            rw [hL, hy1] at hlb
            rw [hL] at hLl
            rw [hL, hy1] at ey
            rw [hy1] at ef
            obtain ⟨y, hy⟩ : ∃ y, followF x i n p = y := ⟨_, rfl⟩
            rw [hy] at ey ef
            have HXP : Hid (sumF (18 :: (nmL u ++ nmL y1)) = y) := Lib.hid (by rw [ef]; rfl)
            have HPD : Hid (p.dropLast.length = depthF (i - K) (n - K)) := Lib.hid (by omega)
            have HQL := Lib.hid hql
            have hLj : L.length = j + 1 := by rw [hLl]; have := HPD.out; omega
            have hlb2 : L[j]? = some (lb, y1) := by have := HPD.out; rw [← hlb]; congr 1; omega
            have HLB := Lib.hid hlb2
            have HLL := Lib.hid hLj
            have HL := Lib.hid hL
            have EY := Lib.hid ey
            clear ey ef hL hlb hLl hd hy hy1 hlb2 hLj hql hpd
            go_wp2
            refine wp_region_held_drew (S := fun w' => Is w' w.heap.size 27 (nmC x) ∧ Fr w 2 w') (by kernel_rfl) ⟨hl3.drew, hF3.drew⟩ (fun hHeld => ?_)
            refine held_load 0 56 rfl 27 (.tmp 4) rfl w.heap.size 0 rfl (nmR x) (fun w' h => range_is (cs := nmR x) h.1) Try.underlying27 name_info hHeld ?_
            try simp only [Act.put, List.setIfInBounds_toArray, List.set_cons_zero, List.set_cons_succ]
            refine held_pure 1 57 (.int .i64 (i : Int)) rfl (fun W => by rfl) hHeld ?_
            try simp only [Act.put, List.setIfInBounds_toArray, List.set_cons_zero, List.set_cons_succ]
            refine held_pure 2 58 (.int .i64 (K : Int)) rfl (fun W => by rfl) hHeld ?_
            try simp only [Act.put, List.setIfInBounds_toArray, List.set_cons_zero, List.set_cons_succ]
            refine held_pure 3 59 (.int .i64 ((i : Int) - (K : Int))) rfl (fun W => by go_simp) hHeld ?_
            try simp only [Act.put, List.setIfInBounds_toArray, List.set_cons_zero, List.set_cons_succ]
            refine held_pure 4 60 (.int .i64 (n : Int)) rfl (fun W => by rfl) hHeld ?_
            try simp only [Act.put, List.setIfInBounds_toArray, List.set_cons_zero, List.set_cons_succ]
            refine held_pure 5 61 (.int .i64 (K : Int)) rfl (fun W => by rfl) hHeld ?_
            try simp only [Act.put, List.setIfInBounds_toArray, List.set_cons_zero, List.set_cons_succ]
            refine held_pure 6 62 (.int .i64 ((n : Int) - (K : Int))) rfl (fun W => by go_simp) hHeld ?_
            try simp only [Act.put, List.setIfInBounds_toArray, List.set_cons_zero, List.set_cons_succ]
            refine held_pure 7 63 (.slice (some ⟨g, off, none⟩) m c) rfl (fun W => by rfl) hHeld ?_
            try simp only [Act.put, List.setIfInBounds_toArray, List.set_cons_zero, List.set_cons_succ]
            refine held_pure 8 64 (.slice (some ⟨g, off, none⟩) m c) rfl (fun W => by rfl) hHeld ?_
            try simp only [Act.put, List.setIfInBounds_toArray, List.set_cons_zero, List.set_cons_succ]
            refine held_pure 9 65 (.int .i64 (m : Int)) rfl (fun W => by go_simp) hHeld ?_
            try simp only [Act.put, List.setIfInBounds_toArray, List.set_cons_zero, List.set_cons_succ]
            refine held_pure 10 66 (.int .i64 (j : Int)) rfl (fun W => by go_simp) hHeld ?_
            try simp only [Act.put, List.setIfInBounds_toArray, List.set_cons_zero, List.set_cons_succ]
            refine held_pure 11 67 (.slice (some ⟨g, off, none⟩) j c) rfl (fun W => by go_simp) hHeld ?_
            try simp only [Act.put, List.setIfInBounds_toArray, List.set_cons_zero, List.set_cons_succ]
            refine held_one (i := 12) (by kernel_rfl) rfl (by rfl) (fun KK hK => ?_)
            go_wp2_with fail
            refine (ih (n - K) (by omega) x (i - K) _ p.dropLast j c _ _ (by omega) (by omega) (by omega) (by omega) HQL.out HPD.out (by have := HQL.out; omega) hc63 _ ((HQ.out.keep hF3.drew.1).mono (by have := hF3.drew.2; omega))).mono ?_
            rintro e w6 ⟨v6, rfl, ho6, hb6⟩
            rw [HL.out] at ho6
            have ho6 : SO w6 wc.heap.size 45 v6 L := ho6
            have hF6 := hF3.drew.next hb6
            have hx6 := hx3.drew.next hb6
            have hy6 := hy3.drew.next hb6
            go_wp2_with fail
            refine hK.out _ _ ⟨hHeld.1.next hb6, hHeld.2.next hb6⟩ (fun hHeld1 => ?_)
            clear hK KK
            try simp only [Act.put, List.setIfInBounds_toArray, List.set_cons_zero, List.set_cons_succ]
            refine held_pure 13 11 (v6) rfl (fun W => by rfl) hHeld1 ?_
            try simp only [Act.put, List.setIfInBounds_toArray, List.set_cons_zero, List.set_cons_succ]
            refine wpAnyH_done (by kernel_rfl) ?_ _
            try simp only [Act.put, List.setIfInBounds_toArray, List.set_cons_zero, List.set_cons_succ]
            obtain ⟨gl, cl, rfl, kl1, kl2, hgl, hgl2, hat⟩ := ho6.form (by have := HLL.out; omega)
            have hat2 := (hat j (lb, y1) HLB.out).1
            have LL := HLL.out
            rw [LL] at ho6 ⊢
            have hlj : ((j + 1 : Nat) : Int) - 1 = (j : Int) := by omega
            have d0 : w6.cell? ⟨gl, j * 9 + 1, none⟩ = some (B (nb y1 0)) := by have := hat2 0 _ rfl; simpa using this
            have d1 : w6.cell? ⟨gl, j * 9 + 1 + 1, none⟩ = some (B (nb y1 1)) := by have := hat2 1 _ rfl; simpa using this
            have d2 : w6.cell? ⟨gl, j * 9 + 1 + 2, none⟩ = some (B (nb y1 2)) := by have := hat2 2 _ rfl; simpa using this
            have d3 : w6.cell? ⟨gl, j * 9 + 1 + 3, none⟩ = some (B (nb y1 3)) := by have := hat2 3 _ rfl; simpa using this
            have d4 : w6.cell? ⟨gl, j * 9 + 1 + 4, none⟩ = some (B (nb y1 4)) := by have := hat2 4 _ rfl; simpa using this
            have d5 : w6.cell? ⟨gl, j * 9 + 1 + 5, none⟩ = some (B (nb y1 5)) := by have := hat2 5 _ rfl; simpa using this
            have d6 : w6.cell? ⟨gl, j * 9 + 1 + 6, none⟩ = some (B (nb y1 6)) := by have := hat2 6 _ rfl; simpa using this
            have d7 : w6.cell? ⟨gl, j * 9 + 1 + 7, none⟩ = some (B (nb y1 7)) := by have := hat2 7 _ rfl; simpa using this
            have lx := hx3.lt
            have ly := hy3.lt
            have hFF := hF3.2
            go_wp2_with (refine wpList_store_far rfl 27 (.tmp 13) (.tmp 75) rfl by_ 27 _ (nmC y1) rfl rfl hy6 (nmC_size _) name_info (nmC_one _) ?_; intro w7 hz7 hb7 hfar7)
            have hF7 := hF6.step hb7 (by omega)
            have ho7 := ho6.far (fun b hb => hfar7 b (by omega))
            have io7 : Is w7 bx 27 (nmC u) := (hfar7 _ (by omega)).trans hx6
            have z1 : (bsOf (nmL u)).size + (bsOf (nmL y1)).size ≤ 9223372036854775807 := by (have h8 : ∀ q, (bsOf (nmL q)).size = 8 := fun _ => rfl; rw [h8, h8]; omega)
            refine wp_region_held_drew (S := fun w' => Is w' bx 27 (nmC u) ∧ Is w' by_ 27 (nmC y1) ∧ Fr w 2 w') (by kernel_rfl) ⟨io7.drew, hz7.drew, hF7.drew⟩ (fun hI => ?_)
            refine held_pure 0 76 (.slice (some ⟨gl, 0, none⟩) (j + 1) cl) rfl (fun W => by rfl) hI ?_
            try simp only [Act.put, List.setIfInBounds_toArray, List.set_cons_zero, List.set_cons_succ]
            refine held_pure 1 77 (.slice (some ⟨bx, 0, none⟩) 8 8) rfl (fun W => by go_simp) hI ?_
            try simp only [Act.put, List.setIfInBounds_toArray, List.set_cons_zero, List.set_cons_succ]
            refine held_if 2 78 (.string (bsOf (nmL u))) rfl (fun w' h => by (have hc := run_convert_rb 8 8 rfl w' (is_rb h.1 h.1.lt); go_simp)) hI ?_
            try simp only [Act.put, List.setIfInBounds_toArray, List.set_cons_zero, List.set_cons_succ]
            refine held_pure 3 79 (.slice (some ⟨by_, 0, none⟩) 8 8) rfl (fun W => by go_simp) hI ?_
            try simp only [Act.put, List.setIfInBounds_toArray, List.set_cons_zero, List.set_cons_succ]
            refine held_if 4 80 (.string (bsOf (nmL y1))) rfl (fun w' h => by (have hc := run_convert_rb 8 8 rfl w' (is_rb h.2.1 h.2.1.lt); go_simp)) hI ?_
            try simp only [Act.put, List.setIfInBounds_toArray, List.set_cons_zero, List.set_cons_succ]
            refine held_pure 5 81 (.string (bsOf (nmL u ++ nmL y1))) rfl (fun W => by (rw [← bsOf_app]; go_simp)) hI ?_
            try simp only [Act.put, List.setIfInBounds_toArray, List.set_cons_zero, List.set_cons_succ]
            refine held_load 6 82 rfl 27 (.tmp 12) rfl bx 0 rfl (nmR u) (fun w' h => range_is (cs := nmR u) h.1) Try.underlying27 name_info hI ?_
            try simp only [Act.put, List.setIfInBounds_toArray, List.set_cons_zero, List.set_cons_succ]
            refine held_load 7 83 rfl 27 (.tmp 13) rfl by_ 0 rfl (nmR y1) (fun w' h => range_is (cs := nmR y1) h.2.1) Try.underlying27 name_info hI ?_
            try simp only [Act.put, List.setIfInBounds_toArray, List.set_cons_zero, List.set_cons_succ]
            refine held_one (i := 8) (by kernel_rfl) rfl (by rfl) (fun KK hK => ?_)
            go_wp2_with fail
            refine (rpair_any 18 u y1 HXP _).mono ?_
            rintro e w8 ⟨rfl, hb⟩
            have ho8 := SO.keep (w := w7.drew) ho7 hb
            go_wp2_with fail
            refine hK.out _ _ ⟨hI.1.next hb, hI.2.1.next hb, hI.2.2.next hb⟩ (fun hHeld1 => ?_)
            clear hK KK
            try simp only [Act.put, List.setIfInBounds_toArray, List.set_cons_zero, List.set_cons_succ]
            refine held_pure 9 85 (.agg (stR (nmL u ++ nmL y1, y)).toArray) rfl (fun W => by go_simp) hHeld1 ?_
            try simp only [Act.put, List.setIfInBounds_toArray, List.set_cons_zero, List.set_cons_succ]
            refine held_one (i := 10) (by kernel_rfl) rfl (by rfl) (fun KK hK => ?_)
            go_wp2_with fail
            refine hK.out _ _ ⟨hHeld1.1.old _, hHeld1.2.1.old _, (hHeld1.2.2.alloc _).le (by omega)⟩ (fun hHeld2 => ?_)
            clear hK KK
            try simp only [Act.put, List.setIfInBounds_toArray, List.set_cons_zero, List.set_cons_succ]
            have hn9 := Is.new w8 45 (stR (nmL u ++ nmL y1, y)).toArray
            have ho9 := ho8.keep ((Below.refl _ _).alloc (Nat.le_refl _) (.cells (stR (nmL u ++ nmL y1, y)).toArray 45))
            have hs8 := hb.size
            have hs6 := hb6.size
            have hs7 := hb7.size
            refine held_one (i := 11) (by kernel_rfl) rfl (by rfl) (fun KK hK => ?_)
            refine oper_append_so 87 (.tmp 76) (.tmp 86) 42 rfl wc.heap.size 45 iS zS 24 Try.underlying42 HI1.out HI2.out HI3.out HI4.out HI5.out _ L rfl ho9 (nmL u ++ nmL y1, y) w8.heap.size 45 rfl hn9 (by (have := HLL.out; omega)) (by (have := HLL.out; simp only [maxLen]; omega)) (by simp; have : w7.drew.heap.size = w7.heap.size := rfl; have : wc.drew.heap.size = wc.heap.size := rfl; omega) ?_
            intro v9 w9 ho10 hg9
            refine hK.out _ _ ⟨hHeld2.1.grown hg9 (fun q hq => by have := ho9.own q hq; omega), hHeld2.2.1.grown hg9 (fun q hq => by have := ho9.own q hq; omega), hHeld2.2.2.grown hg9 (fun q hq => by have := ho9.own q hq; omega)⟩ (fun hHeld3 => ?_)
            clear hK KK
            try simp only [Act.put, List.setIfInBounds_toArray, List.set_cons_zero, List.set_cons_succ]
            refine held_pure 12 8 (v9) rfl (fun W => by rfl) hHeld3 ?_
            try simp only [Act.put, List.setIfInBounds_toArray, List.set_cons_zero, List.set_cons_succ]
            refine wpAnyH_done (by kernel_rfl) ?_ _
            try simp only [Act.put, List.setIfInBounds_toArray, List.set_cons_zero, List.set_cons_succ]
            go_wp2_with fail
            go_ret
            exact ⟨v9, rfl, by rw [EY.out]; exact ho10.base_le (by omega), hHeld3.2.2.1⟩
end Go.Proofs.Ytllciohpphngiaa
