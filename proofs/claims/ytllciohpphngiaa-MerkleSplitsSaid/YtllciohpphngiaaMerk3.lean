/-
  The developers' merkle: climb.
-/
import Derived.Test.YtllciohpphngiaaMerk2
namespace Go.Proofs.Ytllciohpphngiaa
open Go.ChangeShapes Go.WideShapes Go.ChangeAt Go.RowKit Go.Fl

set_option maxHeartbeats 600000 in
theorem mclimb_any : ∀ (n : Nat) (x : BitVec 64) (i : Nat) (A : Option Addr) (p : List (BitVec 64)) (m c : Nat) (I N : Int) (y : BitVec 64), I = (i : Int) → N = (n : Int) → i < n → n ≤ 9223372036854775807 → p.length = m → p.length = depthF i n → Hid (followF x i n p = y) → p.length ≤ c → c ≤ 9223372036854775807 → ∀ w : World, RN w w.heap.size A p →
    Calls Try.prog 33 #[nm x, .int .i64 I, .int .i64 N, .slice A m c] w fun e w' => e = .returned (nm y) ∧ Below w.heap.size w w' := by
  intro n
  induction n using Nat.strongRecOn with
  | _ n ih =>
  intro x i A p m c I N y hI hN hin hn63 hm hpd hy hc hc63 w hr
  subst hI hN
  obtain ⟨hl, hz, hF, hW⟩ := folW_facts w x
  by_cases h1 : n = 1
  · subst h1
    rw [followF_one (Nat.le_refl _)] at hy
    have hlc := hl.cell
    go_enter Try.func33, Try.ntmps33
    go_wp2_with fail
    refine (msingle_any x y hy (folW w x)).mono ?_
    rintro e w1 ⟨rfl, hb1⟩
    have hF1 := hF.next hb1
    have hz1 := hz.next hb1
    go_wp2_with (refine wpList_store_is rfl 27 (.tmp 8) (.tmp 14) rfl (w.heap.size + 1) 27 _ (nmC _) rfl rfl hz1 (nmC_size _) name_info (nmC_one _) ?_; intro w6 hz7 hb6)
    exact ret_is rfl (w.heap.size + 1) 27 _ rfl hz7 Try.underlying27 rfl name_info rfl ⟨rfl, hF1.1.trans (hb6.mono (by omega))⟩
  · have hn2 : 2 ≤ n := by omega
    obtain ⟨k, hk⟩ : ∃ k, splitN n = k := ⟨_, rfl⟩
    have k1 : 1 ≤ k := by rw [← hk]; exact splitN_pos n
    have k2 : k < n := by rw [← hk]; exact splitN_lt n hn2
    have hp1 : 1 ≤ p.length := by
      rw [hpd]
      by_cases hs : i < splitN n
      · rw [depthF_left hn2 hs]; omega
      · rw [depthF_right hn2 (by omega)]; omega
    obtain ⟨u, hu⟩ : ∃ u, p[m - 1]? = some u := ⟨_, List.getElem?_eq_getElem (by omega)⟩
    have hgd : p.getD (p.length - 1) 0 = u := by rw [List.getD_eq_getElem?_getD, hm, hu]; rfl
    obtain ⟨g, off, rfl, hg, -⟩ := hr.at_ hu
    obtain ⟨i8, hi8, -, hz8, -⟩ := info_parts info_name
    have hdl : p.dropLast = p.take (m - 1) := by rw [List.dropLast_eq_take, hm]
    have hq : RN w w.heap.size (some ⟨g, off, none⟩) p.dropLast := by rw [hdl]; exact hr.take _
    have hql : p.dropLast.length = m - 1 := by rw [List.length_dropLast, hm]
    have hmi : (m : Int) - 1 = ((m - 1 : Nat) : Int) := by omega
    have nb1 : ((n : Int) == 1) = false := by rw [beq_eq_false_iff_ne]; omega
    have HRU := Lib.hid (rn_range hr rfl hu)
    have HQ := Lib.hid hq
    have HK := Lib.hid hk
    have m1 : (1 : Int) ≤ (m : Int) := by omega
    have m2 : (m : Int) ≤ 9223372036854775807 := by omega
    have n2 : (n : Int) ≤ 9223372036854775807 := by omega
    obtain ⟨j, hj⟩ : ∃ j, m - 1 = j := ⟨_, rfl⟩
    have mj : (m : Int) - 1 = (j : Int) := by omega
    rw [hj] at HRU hql
    have hs1 := fun (W : World) => run_names_to (P := Try.prog) Try.underlying22 hi8 hz8 g off m c j (X := (j : Int)) (Lib.hid rfl) (by omega) (by omega) W
    have jm : j < m := by omega
    have j0 : (0 : Int) ≤ (j : Int) := by omega
    have j2 : (j : Int) ≤ 9223372036854775807 := by omega
    clear hi8 hz8 hq hr hu hdl hmi hj hk
    have S0 : ∀ w' : World, (Is w' w.heap.size 27 (nmC x) ∧ Fr w 2 w') → w'.rangeAt g (off + j * 8) (nmR u) := fun w' h => range_keep HRU.out h.2.1 hg
    by_cases hs : i < k
    · have ey := followF_left (x := x) (p := p) hn2 (show i < splitN n by rw [HK.out]; exact hs)
      rw [HK.out, hgd] at ey
      obtain ⟨y1, hy1⟩ : ∃ y1, followF x i k p.dropLast = y1 := ⟨_, rfl⟩
      rw [hy1, hy.out] at ey
      have HY1 := Lib.hid hy1
      have HXP : Hid (sumF (18 :: (nmL y1 ++ nmL u)) = y) := Lib.hid (by rw [ey]; rfl)
      have HPD : p.dropLast.length = depthF i k := by have := depthF_left hn2 (show i < splitN n by rw [HK.out]; exact hs); rw [HK.out] at this; omega
      have s1 : (i : Int) < (k : Int) := by omega
      have HPD2 := Lib.hid HPD
      have HQL := Lib.hid hql
      have hlc := hl.cell
      clear hy1 ey HPD hql hpd
      go_enter Try.func33, Try.ntmps33
      go_wp2_with (go_at_call 30; refine (msplit_any _ n rfl hn2 hn63 _).mono ?_; rintro e w1 ⟨rfl, rfl⟩; rw [HK.out])
      refine wp_region_held_drew (S := fun w' => Is w' w.heap.size 27 (nmC x) ∧ Fr w 2 w') (by kernel_rfl) ⟨hl.drew, hF.drew⟩ (fun hHeld => ?_)
      refine held_load 0 23 rfl 27 (.tmp 4) rfl w.heap.size 0 rfl (nmR x) (fun w' h => range_is (cs := nmR x) h.1) Try.underlying27 name_info hHeld ?_
      try simp only [Act.put, List.setIfInBounds_toArray, List.set_cons_zero, List.set_cons_succ]
      refine held_pure 1 24 (.int .i64 (i : Int)) rfl (fun W => by rfl) hHeld ?_
      try simp only [Act.put, List.setIfInBounds_toArray, List.set_cons_zero, List.set_cons_succ]
      refine held_pure 2 25 (.int .i64 (k : Int)) rfl (fun W => by rfl) hHeld ?_
      try simp only [Act.put, List.setIfInBounds_toArray, List.set_cons_zero, List.set_cons_succ]
      refine held_pure 3 26 (.slice (some ⟨g, off, none⟩) m c) rfl (fun W => by rfl) hHeld ?_
      try simp only [Act.put, List.setIfInBounds_toArray, List.set_cons_zero, List.set_cons_succ]
      refine held_pure 4 27 (.int .i64 (j : Int)) rfl (fun W => by rfl) hHeld ?_
      try simp only [Act.put, List.setIfInBounds_toArray, List.set_cons_zero, List.set_cons_succ]
      refine held_pure 5 28 (.slice (some ⟨g, off, none⟩) j c) rfl (fun W => by go_simp) hHeld ?_
      try simp only [Act.put, List.setIfInBounds_toArray, List.set_cons_zero, List.set_cons_succ]
      refine held_pure 7 30 (.slice (some ⟨g, off, none⟩) m c) rfl (fun W => by rfl) hHeld ?_
      try simp only [Act.put, List.setIfInBounds_toArray, List.set_cons_zero, List.set_cons_succ]
      refine held_pure 8 31 (.int .i64 (j : Int)) rfl (fun W => by rfl) hHeld ?_
      try simp only [Act.put, List.setIfInBounds_toArray, List.set_cons_zero, List.set_cons_succ]
      refine held_pure 9 32 (.pointer (some ⟨g, off + j * 8, none⟩)) rfl (fun W => by go_simp) hHeld ?_
      try simp only [Act.put, List.setIfInBounds_toArray, List.set_cons_zero, List.set_cons_succ]
      refine held_load 10 33 rfl 27 (.tmp 32) rfl g (off + j * 8) rfl (nmR u) (fun w' h => S0 w' h) Try.underlying27 name_info hHeld ?_
      try simp only [Act.put, List.setIfInBounds_toArray, List.set_cons_zero, List.set_cons_succ]
      refine held_one (i := 6) (by kernel_rfl) rfl (by rfl) (fun K hK => ?_)
      go_wp2_with fail
      refine (ih k k2 x i _ p.dropLast j c _ _ y1 rfl rfl hs (by omega) HQL.out HPD2.out HY1 (by have := HQL.out; omega) hc63 _ ((HQ.out.keep hF.drew.1).mono hF.drew.1.size)).mono ?_
      rintro e w5 ⟨rfl, hb5⟩
      have hF5 := hF.drew.next hb5
      have hl5 := hl.drew.next hb5
      have hz5 := hz.drew.next hb5
      go_wp2_with fail
      refine hK.out _ _ ⟨hl5, hF5⟩ (fun hHeld2 => ?_)
      clear hK K
      try simp only [Act.put, List.setIfInBounds_toArray, List.set_cons_zero, List.set_cons_succ]
      refine held_one (i := 11) (by kernel_rfl) rfl (by rfl) (fun K hK => ?_)
      go_wp2_with fail
      refine (pair_any 18 y1 u HXP _).mono ?_
      rintro e w6 ⟨rfl, hb6⟩
      have hF6 := hF5.next hb6
      have hl6 := hl5.next hb6
      have hz6 := hz5.next hb6
      go_wp2_with fail
      refine hK.out _ _ ⟨hl6, hF6⟩ (fun hHeld3 => ?_)
      clear hK K
      try simp only [Act.put, List.setIfInBounds_toArray, List.set_cons_zero, List.set_cons_succ]
      refine held_one (i := 12) (by kernel_rfl) rfl (by rfl) (fun K hK => ?_)
      refine oper_store_is 27 (.tmp 8) (.tmp 34) rfl (w.heap.size + 1) 27 _ (nmC y) rfl rfl hz6 (nmC_size _) name_info (nmC_one _) ?_
      intro w7 hz7 hb7 hfar
      refine hK.out _ _ ⟨(hfar _ (by omega)).trans hl6, hF6.step hb7 (by omega)⟩ (fun _ => wpAnyH_done (by kernel_rfl) ?_ _)
      clear hK K
      go_wp2_with fail
      exact ret_is rfl (w.heap.size + 1) 27 _ rfl hz7 Try.underlying27 rfl name_info rfl ⟨rfl, hF6.1.trans (hb7.mono (by omega))⟩
    · have ey := followF_right (x := x) (p := p) hn2 (show splitN n ≤ i by rw [HK.out]; omega)
      rw [HK.out, hgd] at ey
      obtain ⟨y1, hy1⟩ : ∃ y1, followF x (i - k) (n - k) p.dropLast = y1 := ⟨_, rfl⟩
      rw [hy1, hy.out] at ey
      have HY1 := Lib.hid hy1
      have HXP : Hid (sumF (18 :: (nmL u ++ nmL y1)) = y) := Lib.hid (by rw [ey]; rfl)
      have HPD : p.dropLast.length = depthF (i - k) (n - k) := by have := depthF_right hn2 (show splitN n ≤ i by rw [HK.out]; omega); rw [HK.out] at this; omega
      have s1 : ¬ (i : Int) < (k : Int) := by omega
      have s2 : (k : Int) ≤ (i : Int) := by omega
      have s3 : (k : Int) < (n : Int) := by omega
      have s4 : (i : Int) < (n : Int) := by omega
      have hw1 : IntKind.i64.wrap ((i : Int) - (k : Int)) = (i : Int) - (k : Int) := by rw [IntKind.wrap_i64]; omega
      have hw2 : IntKind.i64.wrap ((n : Int) - (k : Int)) = (n : Int) - (k : Int) := by rw [IntKind.wrap_i64]; omega
      have HPD2 := Lib.hid HPD
      have HQL := Lib.hid hql
      have hlc := hl.cell
      clear hy1 ey HPD hql hpd
      go_enter Try.func33, Try.ntmps33
      go_wp2_with (go_at_call 30; refine (msplit_any _ n rfl hn2 hn63 _).mono ?_; rintro e w1 ⟨rfl, rfl⟩; rw [HK.out])
      refine wp_region_held_drew (S := fun w' => Is w' w.heap.size 27 (nmC x) ∧ Fr w 2 w') (by kernel_rfl) ⟨hl.drew, hF.drew⟩ (fun hHeld => ?_)
      refine held_pure 0 35 (.slice (some ⟨g, off, none⟩) m c) rfl (fun W => by rfl) hHeld ?_
      try simp only [Act.put, List.setIfInBounds_toArray, List.set_cons_zero, List.set_cons_succ]
      refine held_pure 1 36 (.int .i64 (j : Int)) rfl (fun W => by rfl) hHeld ?_
      try simp only [Act.put, List.setIfInBounds_toArray, List.set_cons_zero, List.set_cons_succ]
      refine held_pure 2 37 (.pointer (some ⟨g, off + j * 8, none⟩)) rfl (fun W => by go_simp) hHeld ?_
      try simp only [Act.put, List.setIfInBounds_toArray, List.set_cons_zero, List.set_cons_succ]
      refine held_load 3 38 rfl 27 (.tmp 37) rfl g (off + j * 8) rfl (nmR u) (fun w' h => S0 w' h) Try.underlying27 name_info hHeld ?_
      try simp only [Act.put, List.setIfInBounds_toArray, List.set_cons_zero, List.set_cons_succ]
      refine held_load 4 39 rfl 27 (.tmp 4) rfl w.heap.size 0 rfl (nmR x) (fun w' h => range_is (cs := nmR x) h.1) Try.underlying27 name_info hHeld ?_
      try simp only [Act.put, List.setIfInBounds_toArray, List.set_cons_zero, List.set_cons_succ]
      refine held_pure 5 40 (.int .i64 (i : Int)) rfl (fun W => by rfl) hHeld ?_
      try simp only [Act.put, List.setIfInBounds_toArray, List.set_cons_zero, List.set_cons_succ]
      refine held_pure 6 41 (.int .i64 (k : Int)) rfl (fun W => by rfl) hHeld ?_
      try simp only [Act.put, List.setIfInBounds_toArray, List.set_cons_zero, List.set_cons_succ]
      refine held_pure 7 42 (.int .i64 ((i : Int) - (k : Int))) rfl (fun W => by go_simp) hHeld ?_
      try simp only [Act.put, List.setIfInBounds_toArray, List.set_cons_zero, List.set_cons_succ]
      refine held_pure 8 43 (.int .i64 (n : Int)) rfl (fun W => by rfl) hHeld ?_
      try simp only [Act.put, List.setIfInBounds_toArray, List.set_cons_zero, List.set_cons_succ]
      refine held_pure 9 44 (.int .i64 (k : Int)) rfl (fun W => by rfl) hHeld ?_
      try simp only [Act.put, List.setIfInBounds_toArray, List.set_cons_zero, List.set_cons_succ]
      refine held_pure 10 45 (.int .i64 ((n : Int) - (k : Int))) rfl (fun W => by go_simp) hHeld ?_
      try simp only [Act.put, List.setIfInBounds_toArray, List.set_cons_zero, List.set_cons_succ]
      refine held_pure 11 46 (.slice (some ⟨g, off, none⟩) m c) rfl (fun W => by rfl) hHeld ?_
      try simp only [Act.put, List.setIfInBounds_toArray, List.set_cons_zero, List.set_cons_succ]
      refine held_pure 12 47 (.int .i64 (j : Int)) rfl (fun W => by rfl) hHeld ?_
      try simp only [Act.put, List.setIfInBounds_toArray, List.set_cons_zero, List.set_cons_succ]
      refine held_pure 13 48 (.slice (some ⟨g, off, none⟩) j c) rfl (fun W => by go_simp) hHeld ?_
      try simp only [Act.put, List.setIfInBounds_toArray, List.set_cons_zero, List.set_cons_succ]
      refine held_one (i := 14) (by kernel_rfl) rfl (by rfl) (fun K hK => ?_)
      go_wp2_with fail
      refine (ih (n - k) (by omega) x (i - k) _ p.dropLast j c _ _ y1 (by omega) (by omega) (by omega) (by omega) HQL.out HPD2.out HY1 (by have := HQL.out; omega) hc63 _ ((HQ.out.keep hF.drew.1).mono hF.drew.1.size)).mono ?_
      rintro e w5 ⟨rfl, hb5⟩
      have hF5 := hF.drew.next hb5
      have hl5 := hl.drew.next hb5
      have hz5 := hz.drew.next hb5
      go_wp2_with fail
      refine hK.out _ _ ⟨hl5, hF5⟩ (fun hHeld2 => ?_)
      clear hK K
      try simp only [Act.put, List.setIfInBounds_toArray, List.set_cons_zero, List.set_cons_succ]
      refine held_one (i := 15) (by kernel_rfl) rfl (by rfl) (fun K hK => ?_)
      go_wp2_with fail
      refine (pair_any 18 u y1 HXP _).mono ?_
      rintro e w6 ⟨rfl, hb6⟩
      have hF6 := hF5.next hb6
      have hl6 := hl5.next hb6
      have hz6 := hz5.next hb6
      go_wp2_with fail
      refine hK.out _ _ ⟨hl6, hF6⟩ (fun hHeld3 => ?_)
      clear hK K
      try simp only [Act.put, List.setIfInBounds_toArray, List.set_cons_zero, List.set_cons_succ]
      refine held_one (i := 16) (by kernel_rfl) rfl (by rfl) (fun K hK => ?_)
      refine oper_store_is 27 (.tmp 8) (.tmp 50) rfl (w.heap.size + 1) 27 _ (nmC y) rfl rfl hz6 (nmC_size _) name_info (nmC_one _) ?_
      intro w7 hz7 hb7 hfar
      refine hK.out _ _ ⟨(hfar _ (by omega)).trans hl6, hF6.step hb7 (by omega)⟩ (fun _ => wpAnyH_done (by kernel_rfl) ?_ _)
      clear hK K
      go_wp2_with fail
      exact ret_is rfl (w.heap.size + 1) 27 _ rfl hz7 Try.underlying27 rfl name_info rfl ⟨rfl, hF6.1.trans (hb7.mono (by omega))⟩
end Go.Proofs.Ytllciohpphngiaa
