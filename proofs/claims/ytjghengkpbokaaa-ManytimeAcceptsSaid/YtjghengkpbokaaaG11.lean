/-
  5 texts in one file: Merk3, Merk4, Many, ManyS, R5Key.
-/
import Derived.Test.YtjghengkpbokaaaG2
import Derived.Test.YtjghengkpbokaaaG4
import Derived.Test.YtjghengkpbokaaaG5
import Derived.Test.YtjghengkpbokaaaG6
import Derived.Test.YtjghengkpbokaaaG8
import Derived.Test.YtjghengkpbokaaaG9
import Derived.Test.YtjghengkpbokaaaG10

/-
  The developers' merkle: climb.
-/
namespace Go.Proofs.Ytjghengkpbokaaa
open Go.ChangeShapes Go.WideShapes Go.ChangeAt Go.RowKit Go.Fl

set_option maxRecDepth 10000 in
set_option maxHeartbeats 600000 in
theorem mclimb_any : ∀ (n : Nat) (x : BitVec 64) (i : Nat) (A : Option Addr) (p : List (BitVec 64)) (m c : Nat) (I N : Int) (y : BitVec 64), I = (i : Int) → N = (n : Int) → i < n → n ≤ 9223372036854775807 → p.length = m → p.length = depthF i n → Hid (followF x i n p = y) → p.length ≤ c → c ≤ 9223372036854775807 → ∀ w : World, RN w w.heap.size A p →
    Calls Try.prog 70 #[nm x, .int .i64 I, .int .i64 N, .slice A m c] w fun e w' => e = .returned (nm y) ∧ Below w.heap.size w w' := by
  intro n
  induction n using Nat.strongRecOn with
  | _ n ih =>
  intro x i A p m c I N y hI hN hin hn63 hm hpd hy hc hc63 w hr
  subst hI hN
  obtain ⟨hl, hz, hF, hW⟩ := folW_facts w x
  by_cases h1 : n = 1
  · subst h1
    rw [followF_one (Nat.le_refl _)] at hy
    have hlc := hl.cell
    go_enter Try.func70, Try.ntmps70
    go_wp2_with fail
    refine (msingle_any x y hy (folW w x)).mono ?_
    rintro e w1 ⟨rfl, hb1⟩
    have hF1 := hF.next hb1
    have hz1 := hz.next hb1
    go_wp2_with (refine wpList_store_is rfl 30 (.tmp 8) (.tmp 14) rfl (w.heap.size + 1) 30 _ (nmC _) rfl rfl hz1 (nmC_size _) name_info (nmC_one _) ?_; intro w6 hz7 hb6)
    exact ret_is rfl (w.heap.size + 1) 30 _ rfl hz7 Try.underlying30 rfl name_info rfl ⟨rfl, hF1.1.trans (hb6.mono (by omega))⟩
  · have hn2 : 2 ≤ n := by omega
    obtain ⟨k, hk⟩ : ∃ k, splitN n = k := ⟨_, rfl⟩
    have k1 : 1 ≤ k := by rw [← hk]; exact splitN_pos n
    have k2 : k < n := by rw [← hk]; exact splitN_lt n hn2
    have hp1 : 1 ≤ p.length := by
      rw [hpd]
      by_cases hs : i < splitN n
      · rw [depthF_left hn2 hs]; omega
      · rw [depthF_right hn2 (by omega)]; omega
    obtain ⟨u, hu⟩ : ∃ u, p[m - 1]? = some u := ⟨_, List.getElem?_eq_getElem (by omega)⟩
    have hgd : p.getD (p.length - 1) 0 = u := by rw [List.getD_eq_getElem?_getD, hm, hu]; rfl
    obtain ⟨g, off, rfl, hg, -⟩ := hr.at_ hu
    obtain ⟨i8, hi8, -, hz8, -⟩ := info_parts info_name
    have hdl : p.dropLast = p.take (m - 1) := by rw [List.dropLast_eq_take, hm]
    have hq : RN w w.heap.size (some ⟨g, off, none⟩) p.dropLast := by rw [hdl]; exact hr.take _
    have hql : p.dropLast.length = m - 1 := by rw [List.length_dropLast, hm]
    have hmi : (m : Int) - 1 = ((m - 1 : Nat) : Int) := by omega
    have nb1 : ((n : Int) == 1) = false := by rw [beq_eq_false_iff_ne]; omega
    have HRU := Lib.hid (rn_range hr rfl hu)
    have HQ := Lib.hid hq
    have HK := Lib.hid hk
    have m1 : (1 : Int) ≤ (m : Int) := by omega
    have m2 : (m : Int) ≤ 9223372036854775807 := by omega
    have n2 : (n : Int) ≤ 9223372036854775807 := by omega
    obtain ⟨j, hj⟩ : ∃ j, m - 1 = j := ⟨_, rfl⟩
    have mj : (m : Int) - 1 = (j : Int) := by omega
    rw [hj] at HRU hql
    have hs1 := fun (W : World) => run_names_to (P := Try.prog) Try.underlying48 hi8 hz8 g off m c j (X := (j : Int)) (Lib.hid rfl) (by omega) (by omega) W
    have jm : j < m := by omega
    have j0 : (0 : Int) ≤ (j : Int) := by omega
    have j2 : (j : Int) ≤ 9223372036854775807 := by omega
    clear hi8 hz8 hq hr hu hdl hmi hj hk
    have S0 : ∀ w' : World, (Is w' w.heap.size 30 (nmC x) ∧ Fr w 2 w') → w'.rangeAt g (off + j * 8) (nmR u) := fun w' h => range_keep HRU.out h.2.1 hg
    by_cases hs : i < k
    · have ey := followF_left (x := x) (p := p) hn2 (show i < splitN n by rw [HK.out]; exact hs)
      rw [HK.out, hgd] at ey
      obtain ⟨y1, hy1⟩ : ∃ y1, followF x i k p.dropLast = y1 := ⟨_, rfl⟩
      rw [hy1, hy.out] at ey
      have HY1 := Lib.hid hy1
      have HXP : Hid (sumF (18 :: (nmL y1 ++ nmL u)) = y) := Lib.hid (by rw [ey]; rfl)
      have HPD : p.dropLast.length = depthF i k := by have := depthF_left hn2 (show i < splitN n by rw [HK.out]; exact hs); rw [HK.out] at this; omega
      have s1 : (i : Int) < (k : Int) := by omega
      have HPD2 := Lib.hid HPD
      have HQL := Lib.hid hql
      have hlc := hl.cell
      clear hy1 ey HPD hql hpd
      go_enter Try.func70, Try.ntmps70
      go_wp2_with (go_at_call 73; refine (msplit_any _ n rfl hn2 hn63 _).mono ?_; rintro e w1 ⟨rfl, rfl⟩; rw [HK.out])
      refine wp_region_held_drew (S := fun w' => Is w' w.heap.size 30 (nmC x) ∧ Fr w 2 w') (by kernel_rfl) ⟨hl.drew, hF.drew⟩ (fun hHeld => ?_)
      refine held_load 0 23 rfl 30 (.tmp 4) rfl w.heap.size 0 rfl (nmR x) (fun w' h => range_is (cs := nmR x) h.1) Try.underlying30 name_info hHeld ?_
      try simp only [Act.put, List.setIfInBounds_toArray, List.set_cons_zero, List.set_cons_succ]
      refine held_pure 1 24 (.int .i64 (i : Int)) rfl (fun W => by rfl) hHeld ?_
      try simp only [Act.put, List.setIfInBounds_toArray, List.set_cons_zero, List.set_cons_succ]
      refine held_pure 2 25 (.int .i64 (k : Int)) rfl (fun W => by rfl) hHeld ?_
      try simp only [Act.put, List.setIfInBounds_toArray, List.set_cons_zero, List.set_cons_succ]
      refine held_pure 3 26 (.slice (some ⟨g, off, none⟩) m c) rfl (fun W => by rfl) hHeld ?_
      try simp only [Act.put, List.setIfInBounds_toArray, List.set_cons_zero, List.set_cons_succ]
      refine held_pure 4 27 (.int .i64 (j : Int)) rfl (fun W => by rfl) hHeld ?_
      try simp only [Act.put, List.setIfInBounds_toArray, List.set_cons_zero, List.set_cons_succ]
      refine held_pure 5 28 (.slice (some ⟨g, off, none⟩) j c) rfl (fun W => by go_simp) hHeld ?_
      try simp only [Act.put, List.setIfInBounds_toArray, List.set_cons_zero, List.set_cons_succ]
      refine held_pure 7 30 (.slice (some ⟨g, off, none⟩) m c) rfl (fun W => by rfl) hHeld ?_
      try simp only [Act.put, List.setIfInBounds_toArray, List.set_cons_zero, List.set_cons_succ]
      refine held_pure 8 31 (.int .i64 (j : Int)) rfl (fun W => by rfl) hHeld ?_
      try simp only [Act.put, List.setIfInBounds_toArray, List.set_cons_zero, List.set_cons_succ]
      refine held_pure 9 32 (.pointer (some ⟨g, off + j * 8, none⟩)) rfl (fun W => by go_simp) hHeld ?_
      try simp only [Act.put, List.setIfInBounds_toArray, List.set_cons_zero, List.set_cons_succ]
      refine held_load 10 33 rfl 30 (.tmp 32) rfl g (off + j * 8) rfl (nmR u) (fun w' h => S0 w' h) Try.underlying30 name_info hHeld ?_
      try simp only [Act.put, List.setIfInBounds_toArray, List.set_cons_zero, List.set_cons_succ]
      refine held_one (i := 6) (by kernel_rfl) rfl (by rfl) (fun K hK => ?_)
      go_wp2_with fail
      refine (ih k k2 x i _ p.dropLast j c _ _ y1 rfl rfl hs (by omega) HQL.out HPD2.out HY1 (by have := HQL.out; omega) hc63 _ ((HQ.out.keep hF.drew.1).mono hF.drew.1.size)).mono ?_
      rintro e w5 ⟨rfl, hb5⟩
      have hF5 := hF.drew.next hb5
      have hl5 := hl.drew.next hb5
      have hz5 := hz.drew.next hb5
      go_wp2_with fail
      refine hK.out _ _ ⟨hl5, hF5⟩ (fun hHeld2 => ?_)
      clear hK K
      try simp only [Act.put, List.setIfInBounds_toArray, List.set_cons_zero, List.set_cons_succ]
      refine held_one (i := 11) (by kernel_rfl) rfl (by rfl) (fun K hK => ?_)
      go_wp2_with fail
      refine (pair_any 18 y1 u HXP _).mono ?_
      rintro e w6 ⟨rfl, hb6⟩
      have hF6 := hF5.next hb6
      have hl6 := hl5.next hb6
      have hz6 := hz5.next hb6
      go_wp2_with fail
      refine hK.out _ _ ⟨hl6, hF6⟩ (fun hHeld3 => ?_)
      clear hK K
      try simp only [Act.put, List.setIfInBounds_toArray, List.set_cons_zero, List.set_cons_succ]
      refine held_one (i := 12) (by kernel_rfl) rfl (by rfl) (fun K hK => ?_)
      refine oper_store_is 30 (.tmp 8) (.tmp 34) rfl (w.heap.size + 1) 30 _ (nmC y) rfl rfl hz6 (nmC_size _) name_info (nmC_one _) ?_
      intro w7 hz7 hb7 hfar
      refine hK.out _ _ ⟨(hfar _ (by omega)).trans hl6, hF6.step hb7 (by omega)⟩ (fun _ => wpAnyH_done (by kernel_rfl) ?_ _)
      clear hK K
      go_wp2_with fail
      exact ret_is rfl (w.heap.size + 1) 30 _ rfl hz7 Try.underlying30 rfl name_info rfl ⟨rfl, hF6.1.trans (hb7.mono (by omega))⟩
    · have ey := followF_right (x := x) (p := p) hn2 (show splitN n ≤ i by rw [HK.out]; omega)
      rw [HK.out, hgd] at ey
      obtain ⟨y1, hy1⟩ : ∃ y1, followF x (i - k) (n - k) p.dropLast = y1 := ⟨_, rfl⟩
      rw [hy1, hy.out] at ey
      have HY1 := Lib.hid hy1
      have HXP : Hid (sumF (18 :: (nmL u ++ nmL y1)) = y) := Lib.hid (by rw [ey]; rfl)
      have HPD : p.dropLast.length = depthF (i - k) (n - k) := by have := depthF_right hn2 (show splitN n ≤ i by rw [HK.out]; omega); rw [HK.out] at this; omega
      have s1 : ¬ (i : Int) < (k : Int) := by omega
      have s2 : (k : Int) ≤ (i : Int) := by omega
      have s3 : (k : Int) < (n : Int) := by omega
      have s4 : (i : Int) < (n : Int) := by omega
      have hw1 : IntKind.i64.wrap ((i : Int) - (k : Int)) = (i : Int) - (k : Int) := by rw [IntKind.wrap_i64]; omega
      have hw2 : IntKind.i64.wrap ((n : Int) - (k : Int)) = (n : Int) - (k : Int) := by rw [IntKind.wrap_i64]; omega
      have HPD2 := Lib.hid HPD
      have HQL := Lib.hid hql
      have hlc := hl.cell
      clear hy1 ey HPD hql hpd
      go_enter Try.func70, Try.ntmps70
      go_wp2_with (go_at_call 73; refine (msplit_any _ n rfl hn2 hn63 _).mono ?_; rintro e w1 ⟨rfl, rfl⟩; rw [HK.out])
      refine wp_region_held_drew (S := fun w' => Is w' w.heap.size 30 (nmC x) ∧ Fr w 2 w') (by kernel_rfl) ⟨hl.drew, hF.drew⟩ (fun hHeld => ?_)
      refine held_pure 0 35 (.slice (some ⟨g, off, none⟩) m c) rfl (fun W => by rfl) hHeld ?_
      try simp only [Act.put, List.setIfInBounds_toArray, List.set_cons_zero, List.set_cons_succ]
      refine held_pure 1 36 (.int .i64 (j : Int)) rfl (fun W => by rfl) hHeld ?_
      try simp only [Act.put, List.setIfInBounds_toArray, List.set_cons_zero, List.set_cons_succ]
      refine held_pure 2 37 (.pointer (some ⟨g, off + j * 8, none⟩)) rfl (fun W => by go_simp) hHeld ?_
      try simp only [Act.put, List.setIfInBounds_toArray, List.set_cons_zero, List.set_cons_succ]
      refine held_load 3 38 rfl 30 (.tmp 37) rfl g (off + j * 8) rfl (nmR u) (fun w' h => S0 w' h) Try.underlying30 name_info hHeld ?_
      try simp only [Act.put, List.setIfInBounds_toArray, List.set_cons_zero, List.set_cons_succ]
      refine held_load 4 39 rfl 30 (.tmp 4) rfl w.heap.size 0 rfl (nmR x) (fun w' h => range_is (cs := nmR x) h.1) Try.underlying30 name_info hHeld ?_
      try simp only [Act.put, List.setIfInBounds_toArray, List.set_cons_zero, List.set_cons_succ]
      refine held_pure 5 40 (.int .i64 (i : Int)) rfl (fun W => by rfl) hHeld ?_
      try simp only [Act.put, List.setIfInBounds_toArray, List.set_cons_zero, List.set_cons_succ]
      refine held_pure 6 41 (.int .i64 (k : Int)) rfl (fun W => by rfl) hHeld ?_
      try simp only [Act.put, List.setIfInBounds_toArray, List.set_cons_zero, List.set_cons_succ]
      refine held_pure 7 42 (.int .i64 ((i : Int) - (k : Int))) rfl (fun W => by go_simp) hHeld ?_
      try simp only [Act.put, List.setIfInBounds_toArray, List.set_cons_zero, List.set_cons_succ]
      refine held_pure 8 43 (.int .i64 (n : Int)) rfl (fun W => by rfl) hHeld ?_
      try simp only [Act.put, List.setIfInBounds_toArray, List.set_cons_zero, List.set_cons_succ]
      refine held_pure 9 44 (.int .i64 (k : Int)) rfl (fun W => by rfl) hHeld ?_
      try simp only [Act.put, List.setIfInBounds_toArray, List.set_cons_zero, List.set_cons_succ]
      refine held_pure 10 45 (.int .i64 ((n : Int) - (k : Int))) rfl (fun W => by go_simp) hHeld ?_
      try simp only [Act.put, List.setIfInBounds_toArray, List.set_cons_zero, List.set_cons_succ]
      refine held_pure 11 46 (.slice (some ⟨g, off, none⟩) m c) rfl (fun W => by rfl) hHeld ?_
      try simp only [Act.put, List.setIfInBounds_toArray, List.set_cons_zero, List.set_cons_succ]
      refine held_pure 12 47 (.int .i64 (j : Int)) rfl (fun W => by rfl) hHeld ?_
      try simp only [Act.put, List.setIfInBounds_toArray, List.set_cons_zero, List.set_cons_succ]
      refine held_pure 13 48 (.slice (some ⟨g, off, none⟩) j c) rfl (fun W => by go_simp) hHeld ?_
      try simp only [Act.put, List.setIfInBounds_toArray, List.set_cons_zero, List.set_cons_succ]
      refine held_one (i := 14) (by kernel_rfl) rfl (by rfl) (fun K hK => ?_)
      go_wp2_with fail
      refine (ih (n - k) (by omega) x (i - k) _ p.dropLast j c _ _ y1 (by omega) (by omega) (by omega) (by omega) HQL.out HPD2.out HY1 (by have := HQL.out; omega) hc63 _ ((HQ.out.keep hF.drew.1).mono hF.drew.1.size)).mono ?_
      rintro e w5 ⟨rfl, hb5⟩
      have hF5 := hF.drew.next hb5
      have hl5 := hl.drew.next hb5
      have hz5 := hz.drew.next hb5
      go_wp2_with fail
      refine hK.out _ _ ⟨hl5, hF5⟩ (fun hHeld2 => ?_)
      clear hK K
      try simp only [Act.put, List.setIfInBounds_toArray, List.set_cons_zero, List.set_cons_succ]
      refine held_one (i := 15) (by kernel_rfl) rfl (by rfl) (fun K hK => ?_)
      go_wp2_with fail
      refine (pair_any 18 u y1 HXP _).mono ?_
      rintro e w6 ⟨rfl, hb6⟩
      have hF6 := hF5.next hb6
      have hl6 := hl5.next hb6
      have hz6 := hz5.next hb6
      go_wp2_with fail
      refine hK.out _ _ ⟨hl6, hF6⟩ (fun hHeld3 => ?_)
      clear hK K
      try simp only [Act.put, List.setIfInBounds_toArray, List.set_cons_zero, List.set_cons_succ]
      refine held_one (i := 16) (by kernel_rfl) rfl (by rfl) (fun K hK => ?_)
      refine oper_store_is 30 (.tmp 8) (.tmp 50) rfl (w.heap.size + 1) 30 _ (nmC y) rfl rfl hz6 (nmC_size _) name_info (nmC_one _) ?_
      intro w7 hz7 hb7 hfar
      refine hK.out _ _ ⟨(hfar _ (by omega)).trans hl6, hF6.step hb7 (by omega)⟩ (fun _ => wpAnyH_done (by kernel_rfl) ?_ _)
      clear hK K
      go_wp2_with fail
      exact ret_is rfl (w.heap.size + 1) 30 _ rfl hz7 Try.underlying30 rfl name_info rfl ⟨rfl, hF6.1.trans (hb7.mono (by omega))⟩
end Go.Proofs.Ytjghengkpbokaaa

/-
  The developers' merkle: Follow.
-/
namespace Go.Proofs.Ytjghengkpbokaaa
open Go.ChangeShapes Go.WideShapes Go.ChangeAt Go.RowKit Go.Fl

attribute [local go_sem] equal_nm eqGuard_nm

set_option maxRecDepth 10000 in
set_option maxHeartbeats 600000 in
theorem mFollow_no (w : World) (x : BitVec 64) (i n : Int) (A : Option Addr) (m c : Nat) (hm : m ≤ 17592186044160) (hi : I64 i) (hn : I64 n) (h : depthI i n < 0 ∨ depthI i n ≠ (m : Int)) :
    Calls Try.prog 53 #[nm x, .int .i64 i, .int .i64 n, .slice A m c] w fun e w' => e = .returned (.tuple #[nm 0, .bool false]) ∧ Below w.heap.size w w' := by
  obtain ⟨hl, hz, hF, hW⟩ := folW_facts w x
  obtain ⟨D, hD⟩ : ∃ D, depthI i n = D := ⟨_, rfl⟩
  rw [hD] at h
  have HD := Lib.hid hD
  clear hD
  have h1 : (m : Int) ≠ D := by omega
  have b1 : ((m : Int) == D) = false := by rw [beq_eq_false_iff_ne]; exact h1
  have b2 : ((m : Int) != D) = true := by rw [bne, b1]; rfl
  have b3 : decide ((m : Int) = D) = false := by rw [decide_eq_false_iff_not]; exact h1
  clear h
  go_enter Try.func53, Try.ntmps53
  go_wp2_with fail
  refine (mdepth_any i n hi hn (folW w x)).mono ?_
  rintro e w1 ⟨rfl, rfl⟩
  rw [HD.out]
  generalize folW w x = W at *
  go_wp2_with (refine wpList_store_is rfl 30 (.tmp 8) (.tmp 16) rfl (w.heap.size + 1) 30 _ (nmC 0) rfl rfl hz (nmC_size _) name_info (nmC_one _) ?_; intro w6 hz7 hb6)
  exact ret_is_tmp rfl (w.heap.size + 1) 30 _ rfl hz7 Try.underlying30 rfl name_info rfl ⟨rfl, hF.1.trans (hb6.mono (by omega))⟩

set_option maxRecDepth 10000 in
set_option maxHeartbeats 600000 in
theorem mFollow_yes (w : World) (x : BitVec 64) (i n : Nat) (A : Option Addr) (p : List (BitVec 64)) (c : Nat) (y : BitVec 64) (hin : i < n) (hn : n ≤ 9223372036854775807) (hp : p.length = depthF i n) (hy : Hid (followF x i n p = y)) (hc : p.length ≤ c) (hc63 : c ≤ 9223372036854775807) (hr : RN w w.heap.size A p) :
    Calls Try.prog 53 #[nm x, .int .i64 (i : Int), .int .i64 (n : Int), .slice A p.length c] w fun e w' => e = .returned (.tuple #[nm y, .bool true]) ∧ Below w.heap.size w w' := by
  obtain ⟨hl, hz, hF, hW⟩ := folW_facts w x
  have hd : depthI i n = (p.length : Int) := by unfold depthI; rw [if_pos (by omega), Int.toNat_natCast, Int.toNat_natCast, hp]
  have HD := Lib.hid hd
  have HR := Lib.hid hr
  have HP := Lib.hid hp
  have m0 : ¬ ((p.length : Int) < 0) := by omega
  clear hd hr hp
  go_enter Try.func53, Try.ntmps53
  go_wp2_with fail
  refine (mdepth_any i n ⟨by omega, by omega⟩ ⟨by omega, by omega⟩ (folW w x)).mono ?_
  rintro e w1 ⟨rfl, rfl⟩
  rw [HD.out]
  generalize folW w x = W at *
  have hlc := hl.cell
  go_wp2_with (first
    | (go_at_call 70; refine (mclimb_any n x i A p _ c _ _ y rfl rfl hin hn rfl HP.out hy hc hc63 _ ((HR.out.keep hF.1).mono (by (have := hF.2; omega)))).mono ?_; rintro e w2 ⟨rfl, hb2⟩; have hF2 := hF.next hb2; have hz2 := hz.next hb2)
    | (refine wpList_store_is rfl 30 (.tmp 8) (.tmp 21) rfl (w.heap.size + 1) 30 _ (nmC y) rfl rfl hz2 (nmC_size _) name_info (nmC_one _) ?_; intro w6 hz7 hb6))
  exact ret_is_tmp rfl (w.heap.size + 1) 30 _ rfl hz7 Try.underlying30 rfl name_info rfl ⟨rfl, hF2.1.trans (hb6.mono (by omega))⟩

theorem mFollow_any (w : World) (x : BitVec 64) (i n : Int) (v : Value) (p : List (BitVec 64)) (r : BitVec 64 × Bool) (hv : VN w v p) (hp : p.length ≤ 17592186044160) (hi : I64 i) (hn : I64 n) (hr0 : Hid (followP x i n p = r)) :
    Calls Try.prog 53 #[nm x, .int .i64 i, .int .i64 n, v] w fun e w' => e = .returned (.tuple #[nm r.1, .bool r.2]) ∧ Below w.heap.size w w' := by
  obtain ⟨A, c, rfl, h1, h2, hr⟩ := hv
  have h := hr0.out
  unfold followP at h
  split at h
  · rename_i hd
    subst h
    have h3 : 0 ≤ i ∧ i < n := by
      have := hd.1
      unfold depthI at this
      split at this
      · assumption
      · omega
    obtain ⟨a, rfl⟩ : ∃ q : Nat, i = (q : Int) := ⟨i.toNat, by omega⟩
    obtain ⟨b, rfl⟩ : ∃ q : Nat, n = (q : Int) := ⟨n.toNat, by omega⟩
    have hd2 := hd.2
    unfold depthI at hd2
    rw [if_pos h3] at hd2
    exact mFollow_yes w x a b A p c _ (by omega) (by have := hn.2; omega) (by have : ((depthF a b : Nat) : Int) = (p.length : Int) := hd2; omega) (Lib.hid rfl) h1 h2 hr
  · rename_i hd
    subst h
    refine mFollow_no w x i n A p.length c hp hi hn ?_
    by_cases h0 : depthI i n < 0
    · exact Or.inl h0
    · exact Or.inr (fun e => hd ⟨by omega, e⟩)
end Go.Proofs.Ytjghengkpbokaaa

/-
  Many-time signatures as plain functions: keys, trees, signatures as bytes, what a signature shows; a signature is accepted.
-/
namespace Go.Fl
open Go.ChangeShapes Go.WideShapes Go.ChangeAt Go.RowKit

def keyF (seed : BitVec 64) (l t j : Nat) : BitVec 64 := sumF (48 :: (nmL seed ++ [UInt8.ofNat l, UInt8.ofNat (t / 256), UInt8.ofNat t, UInt8.ofNat j]))
def leavesF (seed : BitVec 64) (l t : Nat) : List (BitVec 64) := (List.range 32).map fun j => publicF (keyF seed l t j)
def treeF (seed : BitVec 64) (l t : Nat) : BitVec 64 := rootF (leavesF seed l t)
theorem leavesF_len (seed : BitVec 64) (l t : Nat) : (leavesF seed l t).length = 32 := by simp [leavesF]
theorem leavesF_snoc (seed : BitVec 64) (l t k : Nat) (hk : k < 32) : (leavesF seed l t).take k ++ [publicF (keyF seed l t k)] = (leavesF seed l t).take (k + 1) := by
  rw [List.take_add_one]
  congr 1
  simp [leavesF, hk]
def capF (levels : Int) : Int := if levels = 1 then 32 else if levels = 2 then 1024 else 0
def sizeF (levels : Int) : Int := if levels = 1 then 186 else if levels = 2 then 370 else 0
def mpubF (seed : BitVec 64) (levels : Int) : BitVec 64 := if levels = 1 then treeF seed 1 0 else if levels = 2 then treeF seed 2 0 else 0
theorem mpub_one (seed : BitVec 64) : mpubF seed 1 = treeF seed 1 0 := if_pos rfl
theorem mpub_two (seed : BitVec 64) : mpubF seed 2 = treeF seed 2 0 := by
  unfold mpubF
  rw [if_neg (by decide), if_pos rfl]
/-- The bytes of one level: the values and the path. -/
def lvlF (seed : BitVec 64) (l t j : Nat) (m : BitVec 64) : List UInt8 := nsB (valsF (keyF seed l t j) (digF m)) ++ nsB (pathF (leavesF seed l t) j)
def sign1F (seed : BitVec 64) (leaf : Nat) (m : BitVec 64) : List UInt8 := [0, UInt8.ofNat leaf] ++ lvlF seed 1 0 leaf m
def sign2F (seed : BitVec 64) (leaf : Nat) (m : BitVec 64) : List UInt8 :=
  [UInt8.ofNat (leaf / 256), UInt8.ofNat leaf] ++ lvlF seed 1 (leaf / 32) (leaf % 32) m ++ lvlF seed 2 0 (leaf / 32) (treeF seed 1 (leaf / 32))
def signP (seed : BitVec 64) (levels leaf : Int) (m : BitVec 64) : List UInt8 × Bool :=
  if levels = 1 ∧ 0 ≤ leaf ∧ leaf < 32 then (sign1F seed leaf.toNat m, true) else if levels = 2 ∧ 0 ≤ leaf ∧ leaf < 1024 then (sign2F seed leaf.toNat m, true) else ([], false)

/-- n names from p on. -/
def listF (l : List UInt8) (p n : Nat) : List (BitVec 64) := (List.range n).map fun i => uintV ((l.drop (p + 8 * i)).take 8)
theorem listF_len (l : List UInt8) (p n : Nat) : (listF l p n).length = n := by simp [listF]
theorem listF_get (l : List UInt8) (p n k : Nat) (hk : k < n) : (listF l p n)[k]? = some (uintV ((l.drop (p + 8 * k)).take 8)) := by
  unfold listF
  rw [List.getElem?_map, List.getElem?_range hk]
  rfl
theorem listF_snoc (l : List UInt8) (p n k : Nat) (hk : k < n) : (listF l p n).take k ++ [uintV ((l.drop (p + 8 * k)).take 8)] = (listF l p n).take (k + 1) := by
  rw [List.take_add_one (l := listF l p n) (i := k), listF_get l p n k hk]
  rfl
theorem nsB_at (n : List (BitVec 64)) (c : List UInt8) (i : Nat) (y : BitVec 64) (h : n[i]? = some y) : ((nsB n ++ c).drop (8 * i)).take 8 = nmL y := by
  induction n generalizing i with
  | nil => simp at h
  | cons z n ih =>
    have e : nsB (z :: n) = nmL z ++ nsB n := rfl
    cases i with
    | zero =>
      simp at h
      subst h
      rw [e, List.append_assoc]
      exact List.take_left' rfl
    | succ i =>
      have h8 : (nmL z).length = 8 := rfl
      rw [e, List.append_assoc, show 8 * (i + 1) = (nmL z).length + 8 * i by omega, ← List.drop_drop, List.drop_left]
      exact ih i (by simpa using h)
theorem uintV_nm (x : BitVec 64) : uintV (nmL x) = x := by
  have hlt := x.isLt
  have h : beI (nmL x) = (x.toNat : Int) := by
    simp only [nmL, beI, List.foldl_cons, List.foldl_nil, ub_nb]
    omega
  unfold uintV
  rw [h, BitVec.ofInt_natCast]
  simp
def leafN (l : List UInt8) : Nat := (l.getD 0 0).toNat * 256 + (l.getD 1 0).toNat
def leafP (l : List UInt8) : Int × Bool := if 2 ≤ l.length then ((leafN l : Int), true) else (0, false)
/-- The root that one level shows. -/
def showF (m : BitVec 64) (l : List UInt8) (p j : Nat) : BitVec 64 := followF (endsF (recF m (listF l p 18))) j 32 (listF l (p + 144) 5)
def verM (pub : BitVec 64) (levels : Int) (m : BitVec 64) (l : List UInt8) : Bool :=
  if (levels = 1 ∨ levels = 2) ∧ (l.length : Int) = sizeF levels ∧ (leafN l : Int) < capF levels then
    if levels = 1 then nmEq (showF m l 2 (leafN l % 32)) pub else nmEq (showF (showF m l 2 (leafN l % 32)) l 186 (leafN l / 32)) pub
  else false

theorem depth32 : ∀ j, j < 32 → depthF j 32 = 5 := by
  have h : ∀ (b n i : Nat), n = 2 ^ b → i < n → depthF i n = b := by
    intro b
    induction b with
    | zero => intro n i hn hi; exact depthF_one (by simp at hn; omega)
    | succ b ih =>
      intro n i hn hi
      have hs : splitN n = 2 ^ b := by
        unfold splitN
        congr 1
        rw [Nat.log2_eq_iff (by rw [hn, Nat.pow_succ]; have := Nat.two_pow_pos b; omega)]
        rw [hn, Nat.pow_succ]
        have := Nat.two_pow_pos b
        omega
      have h2 : 2 ≤ n := by rw [hn, Nat.pow_succ]; have := Nat.two_pow_pos b; omega
      by_cases hi2 : i < splitN n
      · rw [depthF_left h2 hi2, ih (splitN n) i hs hi2]
      · rw [depthF_right h2 (by omega), ih (n - splitN n) (i - splitN n) (by rw [hs, hn, Nat.pow_succ]; omega) (by omega)]
  exact fun j hj => h 5 32 j rfl hj
theorem path32 (seed : BitVec 64) (l t j : Nat) (hj : j < 32) : (pathF (leavesF seed l t) j).length = 5 := by
  rw [pathF_len 32 _ j (leavesF_len seed l t) hj, depth32 j hj]

/-- Names that were written are read back. -/
theorem listF_back (a c : List UInt8) (l : List (BitVec 64)) (p n : Nat) (hp : p = a.length) (hn : n = l.length) : listF (a ++ nsB l ++ c) p n = l := by
  subst hp hn
  apply List.ext_getElem?
  intro i
  simp only [listF, List.getElem?_map]
  by_cases hi : i < l.length
  · obtain ⟨x, hx⟩ : ∃ x, l[i]? = some x := ⟨_, List.getElem?_eq_getElem hi⟩
    rw [List.getElem?_range hi, hx]
    simp only [Option.map_some]
    congr 1
    have h1 : ((a ++ nsB l ++ c).drop (a.length + 8 * i)).take 8 = nmL x := by
      rw [List.append_assoc, ← List.drop_drop, List.drop_left]
      exact nsB_at l c i x hx
    rw [h1]
    exact uintV_nm x
  · rw [List.getElem?_eq_none (by simp; omega), List.getElem?_eq_none (by omega)]
    rfl

theorem recP_len (m : BitVec 64) (sig : List (BitVec 64)) (h : sig.length = 18) : recP m sig = (endsF (recF m sig), true) := by
  unfold recP
  rw [if_pos h]

/-- What a level's bytes show is the root of its tree. -/
theorem show_lvl (a c : List UInt8) (seed : BitVec 64) (l t j : Nat) (m : BitVec 64) (hj : j < 32) (p : Nat) (hp : p = a.length) : showF m (a ++ lvlF seed l t j m ++ c) p j = treeF seed l t := by
  subst hp
  have e1 : a ++ lvlF seed l t j m ++ c = a ++ nsB (valsF (keyF seed l t j) (digF m)) ++ (nsB (pathF (leavesF seed l t) j) ++ c) := by simp [lvlF]
  have e2 : a ++ lvlF seed l t j m ++ c = (a ++ nsB (valsF (keyF seed l t j) (digF m))) ++ nsB (pathF (leavesF seed l t) j) ++ c := by simp [lvlF]
  have hv : (valsF (keyF seed l t j) (digF m)).length = 18 := by simp [valsF]
  have h1 : listF (a ++ lvlF seed l t j m ++ c) a.length 18 = valsF (keyF seed l t j) (digF m) := by
    rw [e1]
    exact listF_back a _ _ _ _ rfl hv.symm
  have h2 : listF (a ++ lvlF seed l t j m ++ c) (a.length + 144) 5 = pathF (leavesF seed l t) j := by
    rw [e2]
    exact listF_back _ c _ _ _ (by rw [List.length_append, nsB_len, hv]) (path32 seed l t j hj).symm
  have h3 : endsF (recF m (valsF (keyF seed l t j) (digF m))) = publicF (keyF seed l t j) := by rw [rec_vals]; rfl
  have h4 : publicF (keyF seed l t j) = (leavesF seed l t).getD j 0 := by simp [leavesF, List.getD_eq_getElem?_getD, hj]
  unfold showF
  rw [h1, h2, h3, h4]
  have := follow_path 32 (leavesF seed l t) j (leavesF_len seed l t) hj
  exact this

theorem lvlF_len (seed : BitVec 64) (l t j : Nat) (m : BitVec 64) (hj : j < 32) : (lvlF seed l t j m).length = 184 := by
  unfold lvlF
  rw [List.length_append, nsB_len, nsB_len, path32 seed l t j hj]
  simp [valsF]
theorem sign1F_len (seed : BitVec 64) (j : Nat) (m : BitVec 64) (hj : j < 32) : (sign1F seed j m).length = 186 := by
  unfold sign1F
  rw [List.length_append, lvlF_len _ _ _ _ _ hj]
  rfl
theorem sign2F_len (seed : BitVec 64) (n : Nat) (m : BitVec 64) (hn : n < 1024) : (sign2F seed n m).length = 370 := by
  unfold sign2F
  rw [List.length_append, List.length_append, lvlF_len _ _ _ _ _ (by omega), lvlF_len _ _ _ _ _ (by omega)]
  rfl
theorem leafN_one (seed : BitVec 64) (j : Nat) (m : BitVec 64) (hj : j < 32) : leafN (sign1F seed j m) = j := by
  have : leafN (sign1F seed j m) = 0 * 256 + (UInt8.ofNat j).toNat := rfl
  rw [this]
  simp
  omega
theorem leafN_two (seed : BitVec 64) (n : Nat) (m : BitVec 64) (hn : n < 1024) : leafN (sign2F seed n m) = n := by
  have : leafN (sign2F seed n m) = (UInt8.ofNat (n / 256)).toNat * 256 + (UInt8.ofNat n).toNat := rfl
  rw [this]
  simp
  omega
theorem ver_one (seed : BitVec 64) (j : Nat) (m : BitVec 64) (hj : j < 32) : verM (mpubF seed 1) 1 m (sign1F seed j m) = true := by
  unfold verM
  rw [sign1F_len seed j m hj, leafN_one seed j m hj, if_pos ⟨Or.inl rfl, rfl, by simp [capF]; omega⟩, if_pos rfl, show j % 32 = j by omega]
  have := show_lvl [0, UInt8.ofNat j] [] seed 1 0 j m hj 2 rfl
  rw [List.append_nil] at this
  have e : sign1F seed j m = [0, UInt8.ofNat j] ++ lvlF seed 1 0 j m := rfl
  rw [e, this, mpub_one]
  exact nmEq_self _
theorem ver_two (seed : BitVec 64) (n : Nat) (m : BitVec 64) (hn : n < 1024) : verM (mpubF seed 2) 2 m (sign2F seed n m) = true := by
  unfold verM
  rw [sign2F_len seed n m hn, leafN_two seed n m hn, if_pos ⟨Or.inr rfl, rfl, by simp [capF]; omega⟩, if_neg (by decide)]
  have h1 := show_lvl [UInt8.ofNat (n / 256), UInt8.ofNat n] (lvlF seed 2 0 (n / 32) (treeF seed 1 (n / 32))) seed 1 (n / 32) (n % 32) m (by omega) 2 rfl
  have h2 := show_lvl ([UInt8.ofNat (n / 256), UInt8.ofNat n] ++ lvlF seed 1 (n / 32) (n % 32) m) [] seed 2 0 (n / 32) (treeF seed 1 (n / 32)) (by omega) 186 (by rw [List.length_append, lvlF_len _ _ _ _ _ (by omega)]; rfl)
  rw [List.append_nil] at h2
  have e : sign2F seed n m = [UInt8.ofNat (n / 256), UInt8.ofNat n] ++ lvlF seed 1 (n / 32) (n % 32) m ++ lvlF seed 2 0 (n / 32) (treeF seed 1 (n / 32)) := rfl
  rw [e, h1, h2, mpub_two]
  exact nmEq_self _
theorem ver_size (pub : BitVec 64) (levels : Int) (m : BitVec 64) (l : List UInt8) (h : (l.length : Int) ≠ sizeF levels) : verM pub levels m l = false := by
  unfold verM
  rw [if_neg (fun hh => h hh.2.1)]
end Go.Fl

/-
  What package manytime promises, as a contract of Go functions ('ManyS', 'LeafS', 'KeyS').
-/
namespace Go.Fl
open Go.ChangeShapes Go.WideShapes Go.ChangeAt Go.RowKit
/-- What a function that returns bytes of its own and a truth answers. -/
def RetBy (w : World) (tb : TypeId) (r : List UInt8 × Bool) (e : Ending) (w' : World) : Prop :=
  ∃ v, e = .returned (.tuple #[v, .bool r.2]) ∧ OB w' w.heap.size tb v r.1 ∧ Below w.heap.size w w'
/-- Five functions that keep chapter 5. -/
structure ManyS (P : Program) (tb : TypeId) (fCap fSize fPub fSign fVer : FuncId) : Prop where
  cap : ∀ (w : World) (n : Int), I64 n → Calls P fCap #[.int .i64 n] w fun e w' => e = .returned (.int .i64 (capF n)) ∧ Below w.heap.size w w'
  size : ∀ (w : World) (n : Int), I64 n → Calls P fSize #[.int .i64 n] w fun e w' => e = .returned (.int .i64 (sizeF n)) ∧ Below w.heap.size w w'
  pub : ∀ (w : World) (s : BitVec 64) (n : Int) (y : BitVec 64), I64 n → Hid (mpubF s n = y) → Calls P fPub #[nm s, .int .i64 n] w fun e w' => e = .returned (nm y) ∧ Below w.heap.size w w'
  sign : ∀ (w : World) (s : BitVec 64) (lv leaf : Int) (m : BitVec 64) (r : List UInt8 × Bool), I64 lv → I64 leaf → Hid (signP s lv leaf m = r) → Calls P fSign #[nm s, .int .i64 lv, .int .i64 leaf, nm m] w (RetBy w tb r)
  ver : ∀ (w : World) (p : BitVec 64) (lv : Int) (m : BitVec 64) (v : Value) (l : List UInt8) (r : Bool), I64 lv → VB w v l → l.length ≤ 281474976710656 → Hid (verM p lv m l = r) →
    Calls P fVer #[nm p, .int .i64 lv, nm m, v] w fun e w' => e = .returned (.bool r) ∧ Below w.heap.size w w'
/-- Leaf. -/
structure LeafS (P : Program) (fLeaf : FuncId) : Prop where
  leaf : ∀ (w : World) (v : Value) (l : List UInt8), VB w v l → l.length ≤ 281474976710656 → Calls P fLeaf #[v] w fun e w' => e = .returned (.tuple #[.int .i64 (leafP l).1, .bool (leafP l).2]) ∧ Below w.heap.size w w'
/-- A key: what it is that a value is the key of a seed, whose memory lies from a block on. -/
structure KeyS (P : Program) (tb : TypeId) (fNew fPub fSign : FuncId) (KI : World → Nat → Value → BitVec 64 → Int → Prop) : Prop where
  keep : ∀ {w w' : World} {b : Nat} {v : Value} {s : BitVec 64} {n : Int}, KI w b v s n → Below w.heap.size w w' → KI w' b v s n
  new : ∀ (w : World) (s : BitVec 64) (n : Int), I64 n → Calls P fNew #[nm s, .int .i64 n] w fun e w' => ∃ v, e = .returned v ∧ (if n = 1 ∨ n = 2 then (∃ a, v = .pointer (some a)) else v = .pointer none) ∧ KI w' w.heap.size v s n ∧ Below w.heap.size w w'
  pub : ∀ (w : World) (b : Nat) (v : Value) (s : BitVec 64) (n : Int) (y : BitVec 64), b ≤ w.heap.size → KI w b v s n → Hid (mpubF s n = y) → Calls P fPub #[v] w fun e w' => e = .returned (nm y) ∧ KI w' b v s n ∧ Below b w w'
  sign : ∀ (w : World) (b : Nat) (v : Value) (s : BitVec 64) (n leaf : Int) (m : BitVec 64) (r : List UInt8 × Bool), b ≤ w.heap.size → KI w b v s n → I64 leaf → Hid (signP s n leaf m = r) →
    Calls P fSign #[v, .int .i64 leaf, nm m] w fun e w' => ∃ u, e = .returned (.tuple #[u, .bool r.2]) ∧ VB w' u r.1 ∧ KI w' b v s n ∧ Below b w w'
end Go.Fl

/-
  forkledgerref1's many-time signatures: key, leaves, Public, names, list.
-/
namespace Go.Proofs.Ytjghengkpbokaaa
open Go.ChangeShapes Go.WideShapes Go.ChangeAt Go.RowKit Go.Fl

theorem conv_byte (n : Nat) (N : Int) (hN : N = (n : Int)) (hn : n < 256) (b : UInt8) (hb : UInt8.ofNat n = b) (W : World) : (convert 3 5 (.int .i64 N)).run Try.prog W = .ok (B b) W := by
  subst hN
  have h := ub_ofNat n hn
  rw [hb] at h
  have hw : IntKind.u8.wrap (n : Int) = (n : Int) := by rw [IntKind.wrap_u8]; omega
  rw [show B b = Value.int .u8 (n : Int) by rw [← h]]
  go_simp

set_option maxRecDepth 10000 in
set_option maxHeartbeats 600000 in
theorem rkey_i (s : BitVec 64) (l t j : Nat) (L T J : Int) (hL : L = (l : Int)) (hT : T = (t : Int)) (hJ : J = (j : Int)) (hl : l < 256) (ht : t < 256) (hj : j < 256) (y : BitVec 64) (hy : Hid (keyF s l t j = y)) (w : World) :
    Calls Try.prog 31 #[nm s, .int .i64 L, .int .i64 T, .int .i64 J] w fun e w' => e = .returned (nm y) ∧ Below w.heap.size w w' := by
  subst hL hT hJ
  obtain ⟨hb, hz, hF⟩ := boxW_facts w s
  obtain ⟨i0, hi, hz0, hz1, hz2⟩ := info_parts info_byte
  have HI := Lib.hid hi
  have HZ0 := Lib.hid hz0
  have HZ1 := Lib.hid hz1
  have HZ2 := Lib.hid hz2
  have hsz : (boxW w s).heap.size = w.heap.size + 2 := by simp [boxW]
  obtain ⟨b1, hb1'⟩ : ∃ b, UInt8.ofNat l = b := ⟨_, rfl⟩
  obtain ⟨b2, hb2'⟩ : ∃ b, UInt8.ofNat (t / 256) = b := ⟨_, rfl⟩
  obtain ⟨b3, hb3'⟩ : ∃ b, UInt8.ofNat t = b := ⟨_, rfl⟩
  obtain ⟨b4, hb4'⟩ : ∃ b, UInt8.ofNat j = b := ⟨_, rfl⟩
  have HY : Hid (sumF (48 :: (nmL s ++ [b1, b2, b3, b4])) = y) := Lib.hid (by rw [← hy.out, ← hb1', ← hb2', ← hb3', ← hb4']; rfl)
  have cv1 := fun W : World => conv_byte l (l : Int) rfl hl b1 hb1' W
  have cv2 := fun W : World => conv_byte (t / 256) ((t : Int) / 256) (by omega) (by omega) b2 hb2' W
  have cv3 := fun W : World => conv_byte t (t : Int) rfl ht b3 hb3' W
  have cv4 := fun W : World => conv_byte j (j : Int) rfl hj b4 hb4' W
  have t0 : (0 : Int) ≤ (t : Int) := by omega
  have t9 : (t : Int) < 256 := by omega
  clear hi hz0 hz1 hz2 hy hb1' hb2' hb3' hb4'
  go_enter Try.func31, Try.ntmps31
  have hob0 : OB ((boxW w s).alloc (.cells #[] 5)) (w.heap.size + 2) 5 (.slice (some ⟨w.heap.size + 2, 0, none⟩) 0 0) [] := by
    have := ob_empty (boxW w s) 5 (g := (boxW w s).heap.size) rfl
    rwa [hsz] at this
  have hF0 := hF.alloc (.cells #[] 5)
  have hb0 := hb.old (.cells #[] 5)
  have hz0 := hz.old (.cells #[] 5)
  go_wp2_with (first
    | (at_builtin; (refine wpList_append_ob rfl (.tmp 9) (.tmp 10) 22 rfl (w.heap.size + 2) 5 i0 Try.underlying22 HI.out HZ0.out HZ1.out HZ2.out (.slice (some ⟨w.heap.size + 2, 0, none⟩) 0 0) [] rfl hob0 _ (some ⟨w.heap.size, 0, none⟩) (nmL s) 8 8 rfl rfl (is_rb hb0 hb0.lt) (by simp [nmL_len]) (Nat.le_of_succ_le hF0.2) ?_); intro v1 w1 hob1 hg1 hat1; have hF1 := hF0.grown hg1 (fun k hk => by (have := hob0.own k hk; omega)); have hz1 := hz0.grown hg1 (fun k hk => by (have := hob0.own k hk; omega)))
    | (at_builtin; refine wpList_append_ob rfl (.tmp 11) (.tmp 21) 22 rfl (w.heap.size + 2) 5 i0 Try.underlying22 HI.out HZ0.out HZ1.out HZ2.out _ ([] ++ nmL s) rfl (hob1.keep ((Below.refl _ _).alloc (Nat.le_refl _) _)) (w1.heap.size + 1) (some ⟨w1.heap.size, 0, none⟩) [b1, b2, b3, b4] 4 4 rfl rfl (is_list_rb (l := [b1, b2, b3, b4]) (Lib.hid (Is.new w1 5 #[B b1, B b2, B b3, B b4])) (by simp)) (by simp [nmL_len]) (by (have := hF1.2; simp; omega)) ?_; intro v2 w2 hob2 hg2 hat2; have hF2 := (hF1.alloc _).grown hg2 (fun k hk => by (have := hob1.own k hk; omega)); have hz2 := (hz1.old _).grown hg2 (fun k hk => by (have := hob1.own k hk; omega)); have hob3 : OB w2 (w.heap.size + 2) 5 v2 (nmL s ++ [b1, b2, b3, b4]) := hob2; clear hob2; obtain ⟨A3, n3, c3, rfl, HN, hc3, hm3, HR3⟩ := hob3.form_n)
    | (go_at_call 49; refine (rtagged_n 48 A3 (nmL s ++ [b1, b2, b3, b4]) n3 c3 HN.out HY hc3 (by simp [nmL_len]) _ HR3.out).mono ?_; rintro e w3 ⟨rfl, hb3⟩; have hF3 := hF2.next hb3; have hz3 := hz2.next hb3)
    | (refine wpList_store_is rfl 30 (.tmp 8) (.tmp 23) rfl (w.heap.size + 1) 30 _ (nmC y) rfl rfl hz3 (nmC_size _) name_info (nmC_one _) ?_; intro w6 hz7 hb6))
  exact ret_is rfl (w.heap.size + 1) 30 _ rfl hz7 Try.underlying30 rfl name_info rfl ⟨rfl, hF3.1.trans (hb6.mono (by omega))⟩

set_option maxRecDepth 10000 in
set_option maxHeartbeats 600000 in
theorem rleaves_any (s : BitVec 64) (l t : Nat) (LL TT : Int) (hLL : LL = (l : Int)) (hTT : TT = (t : Int)) (hl : l < 256) (ht : t < 256) (L : List (BitVec 64)) (hL : Hid (leavesF s l t = L)) (w : World) :
    Calls Try.prog 28 #[nm s, .int .i64 LL, .int .i64 TT] w fun e w' => ∃ v, e = .returned v ∧ ON w' w.heap.size 30 v L ∧ Below w.heap.size w w' := by
  subst hLL hTT
  have hb := Is.new w 30 (nmC s)
  have hF := (Fr.refl w).alloc (.cells (nmC s) 30)
  obtain ⟨i8, hi8, hz0, hz8, hz9⟩ := info_parts info_name
  have HI := Lib.hid hi8
  have HZ0 := Lib.hid hz0
  have HZ1 := Lib.hid hz8
  have HZ2 := Lib.hid hz9
  have hLL := leavesF_len s l t
  rw [hL.out] at hLL
  clear hi8 hz0 hz8 hz9
  go_enter Try.func28, Try.ntmps28
  go_wp2
  change Code.wp _ _ _ _ (w.alloc (.cells (nmC s) 30))
  generalize w.alloc (.cells (nmC s) 30) = W at *
  go_loopw [7, 8] (fun v i wr => ∃ k : Nat, k ≤ 32 ∧ i = .int .i64 (k : Int) ∧ ON wr (w.heap.size + 1) 30 v (L.take k) ∧ Is wr w.heap.size 30 (nmC s) ∧ Fr w 1 wr) (fun _ i _ => 32 - (intOf i).toNat)
  case atStart => exact ⟨0, Nat.zero_le _, rfl, ON.nil _ _ _, hb, hF⟩
  case round =>
    clear hb hF
    obtain ⟨k, hk, rfl, hob, hb, hF⟩ := hrel
    by_cases hlt : k < 32
    · obtain ⟨x1, hx1⟩ : ∃ x1, keyF s l t k = x1 := ⟨_, rfl⟩
      obtain ⟨x2, hx2⟩ : ∃ x2, publicF x1 = x2 := ⟨_, rfl⟩
      have hsn := leavesF_snoc s l t k hlt
      rw [hL.out, hx1, hx2] at hsn
      have HX1 := Lib.hid hx1
      have HX2 := Lib.hid hx2
      have HSN := Lib.hid hsn
      have s1 : (k : Int) < 32 := by omega
      have hbc := hb.cell
      clear hx1 hx2 hsn
      go_wp2_with (first
        | (go_at_call 31; refine (rkey_i s l t k _ _ _ rfl rfl rfl hl ht (by omega) x1 HX1 _).mono ?_; rintro e w1 ⟨rfl, hb1⟩; have hF1 := hF.next hb1; have hb2 := hb.next hb1; have hob1 := hob.keep hb1)
        | (go_at_call 45; refine (rpublic_any x1 x2 HX2 _).mono ?_; rintro e w2 ⟨rfl, hb3⟩; have hF2 := hF1.next hb3; have hb4 := hb2.next hb3; have hob2 := hob1.keep hb3)
        | (at_builtin; refine wpList_append_on rfl (.tmp 13) (.tmp 20) 48 rfl (w.heap.size + 1) 30 i8 _ Try.underlying48 HI.out HZ0.out rfl HZ1.out HZ2.out _ (L.take k) rfl (hob2.keep ((Below.refl _ _).alloc (Nat.le_refl _) _)) _ ⟨w2.heap.size, 0, none⟩ 1 1 x2 rfl rfl (rn_build w2 30 x2) (by simp; omega) (by (have := hF2.2; simp; omega)) ?_; intro v3 w3 ho3 hg3 hat3; have hF3 := (hF2.alloc _).grown hg3 (fun k hk => by (have := hob2.own k hk; omega)); have hb5 := (hb4.old _).grown hg3 (fun k hk => by (have := hob2.own k hk; omega)))
        | fail)
      go_roundw
      case rel => exact ⟨k + 1, by omega, by go_num, by rw [HSN.out] at ho3; exact ho3, hb5, hF3.le (by omega)⟩
      case measure => simp [intOf]; omega
    · obtain rfl : k = 32 := by omega
      have hob3 := hob
      rw [List.take_of_length_le (by omega)] at hob3
      clear hob
      go_wp2
      go_ret
      exact ⟨_, rfl, on_base hob3 (by omega), hF.1⟩
end Go.Proofs.Ytjghengkpbokaaa
