/-
  forkledgerref1's trees: split, Root, Depth, Path.
-/
import Derived.Test.YtllciohpphngiaaTree
import Derived.Test.YtllciohpphngiaaHeld
import Derived.Test.YtllciohpphngiaaR1Pair
namespace Go.Proofs.Ytllciohpphngiaa
open Go.ChangeShapes Go.WideShapes Go.ChangeAt Go.RowKit Go.Fl

theorem rsplit_any (n : Int) (m : Nat) (hn : n = (m : Int)) (h2 : 2 ≤ m) (hm : m ≤ 9223372036854775807) (w : World) :
    Calls Try.prog 27 #[.int .i64 n] w fun e w' => e = .returned (.int .i64 (splitN m)) ∧ w = w' := by
  subst hn
  have hm' : (m : Int) ≤ 9223372036854775807 := by omega
  go_enter Try.func27, Try.ntmps27
  go_wp2
  go_loop [3] (fun k => ∃ j K : Nat, j ≤ Nat.log2 (m - 1) ∧ Hid (2 ^ j = K) ∧ k = .int .i64 (K : Int)) (fun k => m - (intOf k).toNat)
  case atStart => exact ⟨0, 1, Nat.zero_le _, Lib.hid rfl, rfl⟩
  case round =>
    obtain ⟨j, K, hj, hK, rfl⟩ := hrel
    have k1 : 1 ≤ K := by rw [← hK.out]; exact Nat.one_le_two_pow
    have k2 : K < m := by
      rw [← hK.out]
      exact Nat.lt_of_le_of_lt (Nat.pow_le_pow_right (by omega) hj) (splitN_lt m h2)
    by_cases h : K + K < m
    · have s1 : (K : Int) < (m : Int) - (K : Int) := by omega
      have hj2 := splitN_more m j (by rw [hK.out]; exact h)
      go_wp2
      go_round
      case rel => exact ⟨j + 1, 2 * K, hj2, Lib.hid (by rw [Nat.pow_succ, hK.out]; omega), by go_num⟩
      case measure => simp [intOf]; omega
    · have s1 : ¬ (K : Int) < (m : Int) - (K : Int) := by omega
      have e := splitN_eq m j hj (by rw [hK.out]; omega)
      rw [hK.out] at e
      go_wp2
      go_ret
      exact ⟨rfl, rfl⟩

set_option maxHeartbeats 1000000 in
theorem rroot_any : ∀ (n : Nat) (A : Option Addr) (l : List (BitVec 64)) (c : Nat) (x : BitVec 64), l.length = n → Hid (rootF l = x) → l.length ≤ c → c ≤ 9223372036854775807 → ∀ w : World, RN w w.heap.size A l →
    Calls Try.prog 14 #[.slice A n c] w fun e w' => e = .returned (nm x) ∧ Below w.heap.size w w' := by
  intro n
  induction n using Nat.strongRecOn with
  | _ n ih =>
  intro A l c x hn hx hc hm w hr
  have hz := Is.new w 27 #[B 0, B 0, B 0, B 0, B 0, B 0, B 0, B 0]
  have hF := (Fr.refl w).alloc (.cells #[B 0, B 0, B 0, B 0, B 0, B 0, B 0, B 0] 27)
  have HR := Lib.hid hr
  by_cases h0 : n = 0
  · subst h0
    have hl : l = [] := List.eq_nil_of_length_eq_zero hn
    subst hl
    rw [rootF_nil] at hx
    go_enter Try.func14, Try.ntmps14
    go_wp2_with fail
    refine (rtagged_n 16 none [] 0 0 rfl hx (by simp) (by simp) _ (RB.nil _ _ _)).mono ?_
    rintro e w1 ⟨rfl, hb1⟩
    have hF1 := hF.next hb1
    have hz1 := hz.next hb1
    go_wp2_with (refine wpList_store_is rfl 27 (.tmp 2) (.tmp 8) rfl w.heap.size 27 _ (nmC _) rfl rfl hz1 (nmC_size _) name_info (nmC_one _) ?_; intro w6 hz7 hb6)
    exact ret_is rfl w.heap.size 27 _ rfl hz7 Try.underlying27 rfl name_info rfl ⟨rfl, hF1.1.trans hb6⟩
  · obtain ⟨y, hy⟩ : ∃ y, l[0]? = some y := ⟨_, List.getElem?_eq_getElem (by omega)⟩
    obtain ⟨g, off, rfl, hg, -⟩ := hr.at_ hy
    by_cases h1 : n = 1
    · subst h1
      have hl : l = [y] := by
        obtain ⟨z, rfl⟩ := List.length_eq_one_iff.1 hn
        simp at hy
        rw [hy]
      subst hl
      rw [rootF_one] at hx
      have HB := Lib.hid (hr.rb rfl hy)
      rw [Nat.zero_mul, Nat.add_zero] at HB
      clear hr
      go_enter Try.func14, Try.ntmps14
      go_wp2_with (first
        | (go_at_call 31; refine (rtagged_n 17 _ (nmL y) _ _ rfl hx (by simp [nmL_len]) (by simp [nmL_len]) _ ((HB.out.keep hF.1).mono (by (have := hF.2; omega)))).mono ?_; rintro e w1 ⟨rfl, hb1⟩; have hF1 := hF.next hb1; have hz1 := hz.next hb1)
        | (refine wpList_store_is rfl 27 (.tmp 2) (.tmp 14) rfl w.heap.size 27 _ (nmC _) rfl rfl hz1 (nmC_size _) name_info (nmC_one _) ?_; intro w6 hz7 hb6))
      exact ret_is rfl w.heap.size 27 _ rfl hz7 Try.underlying27 rfl name_info rfl ⟨rfl, hF1.1.trans hb6⟩
    · have hn2 : 2 ≤ n := by omega
      obtain ⟨k, hk⟩ : ∃ k, splitN n = k := ⟨_, rfl⟩
      have k1 : 1 ≤ k := by rw [← hk]; exact splitN_pos n
      have k2 : k < n := by rw [← hk]; exact splitN_lt n hn2
      have e := rootF_two (l := l) (by omega)
      rw [hn, hk] at e
      obtain ⟨x1, hx1⟩ : ∃ x1, rootF (l.take k) = x1 := ⟨_, rfl⟩
      obtain ⟨x2, hx2⟩ : ∃ x2, rootF (l.drop k) = x2 := ⟨_, rfl⟩
      rw [hx1, hx2] at e
      have HX1 := Lib.hid hx1
      have HX2 := Lib.hid hx2
      have HXP : Hid (sumF (18 :: (nmL x1 ++ nmL x2)) = x) := Lib.hid (by rw [← hx.out, e]; rfl)
      have HK := Lib.hid hk
      obtain ⟨i0, hi, _, hz8, _⟩ := info_parts info_name
      have hs1 := fun (W : World) => run_names_to (P := Try.prog) Try.underlying22 hi hz8 g off n c k (X := (k : Int)) (Lib.hid rfl) (by omega) (by omega) W
      have hs2 := fun (W : World) => run_names_from (P := Try.prog) Try.underlying22 hi hz8 g off n c k (X := (k : Int)) (Lib.hid rfl) (by omega) (by omega) W
      have hr1 : RN w w.heap.size (some ⟨g, off, none⟩) (l.take k) := hr.take k
      have hr2 : RN w w.heap.size (some ⟨g, off + k * 8, none⟩) (l.drop k) := by have := hr.drop k; simpa [add_plain] using this
      have HR1 := Lib.hid hr1
      have HR2 := Lib.hid hr2
      have nb0 : ((n : Int) == 0) = false := by rw [beq_eq_false_iff_ne]; omega
      have nb1 : ((n : Int) == 1) = false := by rw [beq_eq_false_iff_ne]; omega
      clear hr hr1 hr2 hx hi hz8 hx1 hx2 e hk hy
      go_enter Try.func14, Try.ntmps14
      go_wp2_with (first
        | (go_at_call 27; refine (rsplit_any _ n rfl hn2 (by omega) _).mono ?_; rintro e w1 ⟨rfl, rfl⟩; rw [HK.out])
        | fail)
      refine wp_region_held_drew (S := fun _ => True) (by kernel_rfl) trivial (fun _ => ?_)
      refine held_pure 0 18 (.slice (some ⟨g, off, none⟩) n c) rfl (fun _ => rfl) trivial ?_
      refine held_pure 1 19 (.int .i64 k) rfl (fun _ => rfl) trivial ?_
      refine held_pure 2 20 (.slice (some ⟨g, off, none⟩) k c) rfl (fun W => by go_simp) trivial ?_
      refine held_pure 4 22 (.slice (some ⟨g, off, none⟩) n c) rfl (fun _ => rfl) trivial ?_
      refine held_pure 5 23 (.int .i64 k) rfl (fun _ => rfl) trivial ?_
      refine held_pure 6 24 (.slice (some ⟨g, off + k * 8, none⟩) (n - k) (c - k)) rfl (fun W => by go_simp) trivial ?_
      try simp only [Act.put, List.setIfInBounds_toArray, List.set_cons_zero, List.set_cons_succ]
      refine held_one (i := 3) (by kernel_rfl) rfl (by rfl) (fun K hK => ?_)
      go_wp2_with fail
      refine (ih k k2 _ (l.take k) c x1 (by rw [List.length_take]; omega) HX1 (by rw [List.length_take]; omega) hm _ ((HR1.out.keep hF.drew.1).mono (by have := hF.drew.2; omega))).mono ?_
      rintro e w1 ⟨rfl, hb1⟩
      have hF1 := hF.drew.next hb1
      have hz1 := hz.drew.next hb1
      go_wp2_with fail
      refine hK.out _ _ trivial (fun _ => ?_)
      clear hK K
      refine held_one (i := 7) (by kernel_rfl) rfl (by rfl) (fun K hK => ?_)
      go_wp2_with fail
      refine (ih (n - k) (by omega) _ (l.drop k) (c - k) x2 (by rw [List.length_drop]; omega) HX2 (by rw [List.length_drop]; omega) (by omega) _ ((HR2.out.keep hF1.1).mono (by have := hF1.2; omega))).mono ?_
      rintro e w2 ⟨rfl, hb2⟩
      have hF2 := hF1.next hb2
      have hz2 := hz1.next hb2
      go_wp2_with fail
      refine hK.out _ _ trivial (fun _ => ?_)
      clear hK K
      refine held_one (i := 8) (by kernel_rfl) rfl (by rfl) (fun K hK => ?_)
      go_wp2_with fail
      refine (rpair_any 18 x1 x2 HXP _).mono ?_
      rintro e w3 ⟨rfl, hb3⟩
      have hF3 := hF2.next hb3
      have hz3 := hz2.next hb3
      go_wp2_with fail
      refine hK.out _ _ trivial (fun _ => ?_)
      clear hK K
      refine held_one (i := 9) (by kernel_rfl) rfl (by rfl) (fun K hK => ?_)
      refine oper_store_is 27 (.tmp 2) (.tmp 26) rfl w.heap.size 27 _ (nmC x) rfl rfl hz3 (nmC_size _) name_info (nmC_one _) ?_
      intro w4 hz4 hb4 _
      refine hK.out _ _ trivial (fun _ => wpAnyH_done (by kernel_rfl) ?_ _)
      clear hK K
      go_wp2_with fail
      exact ret_is rfl w.heap.size 27 _ rfl hz4 Try.underlying27 rfl name_info rfl ⟨rfl, hF3.1.trans hb4⟩
end Go.Proofs.Ytllciohpphngiaa
