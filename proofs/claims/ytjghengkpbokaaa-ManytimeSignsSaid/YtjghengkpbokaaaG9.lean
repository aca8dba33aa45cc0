/-
  4 texts in one file: R3Root, R3Path, R3Fol, HPair.
-/
import Derived.Deep.DeepCutAuto
import Derived.Deep.RegionHeld3
import Derived.Test.YtjghengkpbokaaaG5
import Derived.Test.YtjghengkpbokaaaG7
import Derived.Test.YtjghengkpbokaaaG8

/-
  forkledgerref1's trees: split, Root, Depth, Path.
-/
namespace Go.Proofs.Ytjghengkpbokaaa
open Go.ChangeShapes Go.WideShapes Go.ChangeAt Go.RowKit Go.Fl

theorem rsplit_any (n : Int) (m : Nat) (hn : n = (m : Int)) (h2 : 2 ≤ m) (hm : m ≤ 9223372036854775807) (w : World) :
    Calls Try.prog 44 #[.int .i64 n] w fun e w' => e = .returned (.int .i64 (splitN m)) ∧ w = w' := by
  subst hn
  have hm' : (m : Int) ≤ 9223372036854775807 := by omega
  go_enter Try.func44, Try.ntmps44
  go_wp2
  go_loop [3] (fun k => ∃ j K : Nat, j ≤ Nat.log2 (m - 1) ∧ Hid (2 ^ j = K) ∧ k = .int .i64 (K : Int)) (fun k => m - (intOf k).toNat)
  case atStart => exact ⟨0, 1, Nat.zero_le _, Lib.hid rfl, rfl⟩
  case round =>
    obtain ⟨j, K, hj, hK, rfl⟩ := hrel
    have k1 : 1 ≤ K := by rw [← hK.out]; exact Nat.one_le_two_pow
    have k2 : K < m := by
      rw [← hK.out]
      exact Nat.lt_of_le_of_lt (Nat.pow_le_pow_right (by omega) hj) (splitN_lt m h2)
    by_cases h : K + K < m
    · have s1 : (K : Int) < (m : Int) - (K : Int) := by omega
      have hj2 := splitN_more m j (by rw [hK.out]; exact h)
      go_wp2
      go_round
      case rel => exact ⟨j + 1, 2 * K, hj2, Lib.hid (by rw [Nat.pow_succ, hK.out]; omega), by go_num⟩
      case measure => simp [intOf]; omega
    · have s1 : ¬ (K : Int) < (m : Int) - (K : Int) := by omega
      have e := splitN_eq m j hj (by rw [hK.out]; omega)
      rw [hK.out] at e
      go_wp2
      go_ret
      exact ⟨rfl, rfl⟩

set_option maxRecDepth 10000 in
set_option maxHeartbeats 1000000 in
theorem rroot_any : ∀ (n : Nat) (A : Option Addr) (l : List (BitVec 64)) (c : Nat) (x : BitVec 64), l.length = n → Hid (rootF l = x) → l.length ≤ c → c ≤ 9223372036854775807 → ∀ w : World, RN w w.heap.size A l →
    Calls Try.prog 32 #[.slice A n c] w fun e w' => e = .returned (nm x) ∧ Below w.heap.size w w' := by
  intro n
  induction n using Nat.strongRecOn with
  | _ n ih =>
  intro A l c x hn hx hc hm w hr
  have hz := Is.new w 30 #[B 0, B 0, B 0, B 0, B 0, B 0, B 0, B 0]
  have hF := (Fr.refl w).alloc (.cells #[B 0, B 0, B 0, B 0, B 0, B 0, B 0, B 0] 30)
  have HR := Lib.hid hr
  by_cases h0 : n = 0
  · subst h0
    have hl : l = [] := List.eq_nil_of_length_eq_zero hn
    subst hl
    rw [rootF_nil] at hx
    go_enter Try.func32, Try.ntmps32
    go_wp2_with fail
    refine (rtagged_n 16 none [] 0 0 rfl hx (by simp) (by simp) _ (RB.nil _ _ _)).mono ?_
    rintro e w1 ⟨rfl, hb1⟩
    have hF1 := hF.next hb1
    have hz1 := hz.next hb1
    go_wp2_with (refine wpList_store_is rfl 30 (.tmp 2) (.tmp 8) rfl w.heap.size 30 _ (nmC _) rfl rfl hz1 (nmC_size _) name_info (nmC_one _) ?_; intro w6 hz7 hb6)
    exact ret_is rfl w.heap.size 30 _ rfl hz7 Try.underlying30 rfl name_info rfl ⟨rfl, hF1.1.trans hb6⟩
  · obtain ⟨y, hy⟩ : ∃ y, l[0]? = some y := ⟨_, List.getElem?_eq_getElem (by omega)⟩
    obtain ⟨g, off, rfl, hg, -⟩ := hr.at_ hy
    by_cases h1 : n = 1
    · subst h1
      have hl : l = [y] := by
        obtain ⟨z, rfl⟩ := List.length_eq_one_iff.1 hn
        simp at hy
        rw [hy]
      subst hl
      rw [rootF_one] at hx
      have HB := Lib.hid (hr.rb rfl hy)
      rw [Nat.zero_mul, Nat.add_zero] at HB
      clear hr
      go_enter Try.func32, Try.ntmps32
      go_wp2_with (first
        | (go_at_call 49; refine (rtagged_n 17 _ (nmL y) _ _ rfl hx (by simp [nmL_len]) (by simp [nmL_len]) _ ((HB.out.keep hF.1).mono (by (have := hF.2; omega)))).mono ?_; rintro e w1 ⟨rfl, hb1⟩; have hF1 := hF.next hb1; have hz1 := hz.next hb1)
        | (refine wpList_store_is rfl 30 (.tmp 2) (.tmp 14) rfl w.heap.size 30 _ (nmC _) rfl rfl hz1 (nmC_size _) name_info (nmC_one _) ?_; intro w6 hz7 hb6))
      exact ret_is rfl w.heap.size 30 _ rfl hz7 Try.underlying30 rfl name_info rfl ⟨rfl, hF1.1.trans hb6⟩
    · have hn2 : 2 ≤ n := by omega
      obtain ⟨k, hk⟩ : ∃ k, splitN n = k := ⟨_, rfl⟩
      have k1 : 1 ≤ k := by rw [← hk]; exact splitN_pos n
      have k2 : k < n := by rw [← hk]; exact splitN_lt n hn2
      have e := rootF_two (l := l) (by omega)
      rw [hn, hk] at e
      obtain ⟨x1, hx1⟩ : ∃ x1, rootF (l.take k) = x1 := ⟨_, rfl⟩
      obtain ⟨x2, hx2⟩ : ∃ x2, rootF (l.drop k) = x2 := ⟨_, rfl⟩
      rw [hx1, hx2] at e
      have HX1 := Lib.hid hx1
      have HX2 := Lib.hid hx2
      have HXP : Hid (sumF (18 :: (nmL x1 ++ nmL x2)) = x) := Lib.hid (by rw [← hx.out, e]; rfl)
      have HK := Lib.hid hk
      obtain ⟨i0, hi, _, hz8, _⟩ := info_parts info_name
      have hs1 := fun (W : World) => run_names_to (P := Try.prog) Try.underlying48 hi hz8 g off n c k (X := (k : Int)) (Lib.hid rfl) (by omega) (by omega) W
      have hs2 := fun (W : World) => run_names_from (P := Try.prog) Try.underlying48 hi hz8 g off n c k (X := (k : Int)) (Lib.hid rfl) (by omega) (by omega) W
      have hr1 : RN w w.heap.size (some ⟨g, off, none⟩) (l.take k) := hr.take k
      have hr2 : RN w w.heap.size (some ⟨g, off + k * 8, none⟩) (l.drop k) := by have := hr.drop k; simpa [add_plain] using this
      have HR1 := Lib.hid hr1
      have HR2 := Lib.hid hr2
      have nb0 : ((n : Int) == 0) = false := by rw [beq_eq_false_iff_ne]; omega
      have nb1 : ((n : Int) == 1) = false := by rw [beq_eq_false_iff_ne]; omega
      clear hr hr1 hr2 hx hi hz8 hx1 hx2 e hk hy
      go_enter Try.func32, Try.ntmps32
      go_wp2_with (first
        | (go_at_call 44; refine (rsplit_any _ n rfl hn2 (by omega) _).mono ?_; rintro e w1 ⟨rfl, rfl⟩; rw [HK.out])
        | fail)
      refine wp_region_held_drew (S := fun _ => True) (by kernel_rfl) trivial (fun _ => ?_)
      refine held_pure 0 18 (.slice (some ⟨g, off, none⟩) n c) rfl (fun _ => rfl) trivial ?_
      refine held_pure 1 19 (.int .i64 k) rfl (fun _ => rfl) trivial ?_
      refine held_pure 2 20 (.slice (some ⟨g, off, none⟩) k c) rfl (fun W => by go_simp) trivial ?_
      refine held_pure 4 22 (.slice (some ⟨g, off, none⟩) n c) rfl (fun _ => rfl) trivial ?_
      refine held_pure 5 23 (.int .i64 k) rfl (fun _ => rfl) trivial ?_
      refine held_pure 6 24 (.slice (some ⟨g, off + k * 8, none⟩) (n - k) (c - k)) rfl (fun W => by go_simp) trivial ?_
      try simp only [Act.put, List.setIfInBounds_toArray, List.set_cons_zero, List.set_cons_succ]
      refine held_one (i := 3) (by kernel_rfl) rfl (by rfl) (fun K hK => ?_)
      go_wp2_with fail
      refine (ih k k2 _ (l.take k) c x1 (by rw [List.length_take]; omega) HX1 (by rw [List.length_take]; omega) hm _ ((HR1.out.keep hF.drew.1).mono (by have := hF.drew.2; omega))).mono ?_
      rintro e w1 ⟨rfl, hb1⟩
      have hF1 := hF.drew.next hb1
      have hz1 := hz.drew.next hb1
      go_wp2_with fail
      refine hK.out _ _ trivial (fun _ => ?_)
      clear hK K
      refine held_one (i := 7) (by kernel_rfl) rfl (by rfl) (fun K hK => ?_)
      go_wp2_with fail
      refine (ih (n - k) (by omega) _ (l.drop k) (c - k) x2 (by rw [List.length_drop]; omega) HX2 (by rw [List.length_drop]; omega) (by omega) _ ((HR2.out.keep hF1.1).mono (by have := hF1.2; omega))).mono ?_
      rintro e w2 ⟨rfl, hb2⟩
      have hF2 := hF1.next hb2
      have hz2 := hz1.next hb2
      go_wp2_with fail
      refine hK.out _ _ trivial (fun _ => ?_)
      clear hK K
      refine held_one (i := 8) (by kernel_rfl) rfl (by rfl) (fun K hK => ?_)
      go_wp2_with fail
      refine (rpair_any 18 x1 x2 HXP _).mono ?_
      rintro e w3 ⟨rfl, hb3⟩
      have hF3 := hF2.next hb3
      have hz3 := hz2.next hb3
      go_wp2_with fail
      refine hK.out _ _ trivial (fun _ => ?_)
      clear hK K
      refine held_one (i := 9) (by kernel_rfl) rfl (by rfl) (fun K hK => ?_)
      refine oper_store_is 30 (.tmp 2) (.tmp 26) rfl w.heap.size 30 _ (nmC x) rfl rfl hz3 (nmC_size _) name_info (nmC_one _) ?_
      intro w4 hz4 hb4 _
      refine hK.out _ _ trivial (fun _ => wpAnyH_done (by kernel_rfl) ?_ _)
      clear hK K
      go_wp2_with fail
      exact ret_is rfl w.heap.size 30 _ rfl hz4 Try.underlying30 rfl name_info rfl ⟨rfl, hF3.1.trans hb4⟩
end Go.Proofs.Ytjghengkpbokaaa

/-
  forkledgerref1's trees: Depth, Path.
-/
namespace Go.Proofs.Ytjghengkpbokaaa
open Go.ChangeShapes Go.WideShapes Go.ChangeAt Go.RowKit Go.Fl

set_option maxRecDepth 10000 in
set_option maxHeartbeats 1000000 in
theorem rdepth_any (i n : Int) (hi : I64 i) (hn : I64 n) (w : World) :
    Calls Try.prog 57 #[.int .i64 i, .int .i64 n] w fun e w' => e = .returned (.int .i64 (depthI i n)) ∧ w = w' := by
  obtain ⟨hi1, hi2⟩ := hi
  obtain ⟨hn1, hn2⟩ := hn
  by_cases h0 : i < 0
  · have e : depthI i n = -1 := by unfold depthI; rw [if_neg (by omega)]
    rw [e]
    go_enter Try.func57, Try.ntmps57
    go_wp2
    go_ret
    exact ⟨rfl, rfl⟩
  · by_cases h1 : n ≤ i
    · have e : depthI i n = -1 := by unfold depthI; rw [if_neg (by omega)]
      rw [e]
      go_enter Try.func57, Try.ntmps57
      go_wp2
      go_ret
      exact ⟨rfl, rfl⟩
    · obtain ⟨a, rfl⟩ : ∃ q : Nat, i = (q : Int) := ⟨i.toNat, by omega⟩
      obtain ⟨b, rfl⟩ : ∃ q : Nat, n = (q : Int) := ⟨n.toNat, by omega⟩
      obtain ⟨D, hD⟩ : ∃ D, depthF a b = D := ⟨_, rfl⟩
      have e : depthI a b = (D : Int) := by unfold depthI; rw [if_pos (by omega), Int.toNat_natCast, Int.toNat_natCast, hD]
      have hD2 : D ≤ 63 := by rw [← hD]; exact depthF_le 63 a b (by omega) (by omega)
      have HD := Lib.hid hD
      rw [e]
      clear e hD
      go_enter Try.func57, Try.ntmps57
      go_wp2
      go_loop [0, 1, 5] (fun i n d => ∃ i' n' d' : Nat, i = .int .i64 i' ∧ n = .int .i64 n' ∧ d = .int .i64 d' ∧ i' < n' ∧ n' ≤ b ∧ Hid (d' + depthF i' n' = D)) (fun _ n _ => (intOf n).toNat)
      case atStart => exact ⟨a, b, 0, rfl, rfl, rfl, by omega, Nat.le_refl _, Lib.hid (by rw [HD.out]; omega)⟩
      case round =>
        obtain ⟨i', n', d', rfl, rfl, rfl, hlt, hle, hd⟩ := hrel
        by_cases hn1 : n' ≤ 1
        · have ed : d' = D := by have := hd.out; rw [depthF_one hn1] at this; omega
          subst ed
          go_wp2
          go_ret
          exact ⟨rfl, rfl⟩
        · obtain ⟨k, hk⟩ : ∃ k, splitN n' = k := ⟨_, rfl⟩
          have k1 : 1 ≤ k := by rw [← hk]; exact splitN_pos n'
          have k2 : k < n' := by rw [← hk]; exact splitN_lt n' (by omega)
          have HK := Lib.hid hk
          by_cases hs : i' < k
          · have ed : d' + (depthF i' k + 1) = D := by have := hd.out; rw [depthF_left (by omega) (by rw [hk]; exact hs), hk] at this; exact this
            have ed2 : d' + 1 ≤ 63 := by omega
            have ED := Lib.hid ed
            clear ed hk
            go_wp2_with (first
              | (go_at_call 44; refine (rsplit_any _ n' rfl (by omega) (by omega) _).mono ?_; rintro e w1 ⟨rfl, rfl⟩; rw [HK.out])
              | fail)
            go_round
            case rel => exact ⟨i', k, d' + 1, rfl, rfl, by go_num, hs, by omega, Lib.hid (by have := ED.out; omega)⟩
            case measure => simp [intOf]; omega
          · have ed : d' + (depthF (i' - k) (n' - k) + 1) = D := by have := hd.out; rw [depthF_right (by omega) (by rw [hk]; omega), hk] at this; exact this
            have ed2 : d' + 1 ≤ 63 := by omega
            have ED := Lib.hid ed
            clear ed hk
            go_wp2_with (first
              | (go_at_call 44; refine (rsplit_any _ n' rfl (by omega) (by omega) _).mono ?_; rintro e w1 ⟨rfl, rfl⟩; rw [HK.out])
              | fail)
            go_round
            case rel => exact ⟨i' - k, n' - k, d' + 1, by go_num, by go_num, by go_num, by omega, by omega, Lib.hid (by have := ED.out; omega)⟩
            case measure => simp [intOf]; omega


set_option maxRecDepth 10000 in
set_option maxHeartbeats 1000000 in
theorem rpath_any : ∀ (n : Nat) (A : Option Addr) (l : List (BitVec 64)) (c i : Nat) (I : Int) (r : List (BitVec 64)), I = (i : Int) → l.length = n → i < n → Hid (pathF l i = r) → l.length ≤ c → c ≤ 9223372036854775807 → ∀ w : World, RN w w.heap.size A l →
    Calls Try.prog 27 #[.slice A n c, .int .i64 I] w (RetN w 30 (r, true)) := by
  intro n
  induction n using Nat.strongRecOn with
  | _ n ih =>
  intro A l c i I r hI hn hin hr0 hc hm w hr
  subst hI
  by_cases h1 : n = 1
  · subst h1
    have er : r = [] := by rw [← hr0.out, pathF_one (by omega)]
    subst er
    obtain rfl : i = 0 := by omega
    go_enter Try.func27, Try.ntmps27
    go_wp2
    go_ret2
    exact ⟨_, rfl, ON.nil _ _ _, Below.refl _ _⟩
  · obtain ⟨y, hy⟩ : ∃ y, l[0]? = some y := ⟨_, List.getElem?_eq_getElem (by omega)⟩
    obtain ⟨g, off, rfl, hg, -⟩ := hr.at_ hy
    have hn2 : 2 ≤ n := by omega
    obtain ⟨k, hk⟩ : ∃ k, splitN n = k := ⟨_, rfl⟩
    have k1 : 1 ≤ k := by rw [← hk]; exact splitN_pos n
    have k2 : k < n := by rw [← hk]; exact splitN_lt n hn2
    obtain ⟨i8, hi8, hz0, hz8, hz9⟩ := info_parts info_name
    have hs1 := fun (W : World) => run_names_to (P := Try.prog) Try.underlying48 hi8 hz8 g off n c k (X := (k : Int)) (Lib.hid rfl) (by omega) (by omega) W
    have hs2 := fun (W : World) => run_names_from (P := Try.prog) Try.underlying48 hi8 hz8 g off n c k (X := (k : Int)) (Lib.hid rfl) (by omega) (by omega) W
    have HI := Lib.hid hi8
    have HZ0 := Lib.hid hz0
    have HZ1 := Lib.hid hz8
    have HZ2 := Lib.hid hz9
    have hr1 : RN w w.heap.size (some ⟨g, off, none⟩) (l.take k) := hr.take k
    have hr2 : RN w w.heap.size (some ⟨g, off + k * 8, none⟩) (l.drop k) := by have := hr.drop k; simpa [add_plain] using this
    have HR1 := Lib.hid hr1
    have HR2 := Lib.hid hr2
    have HL := Lib.hid (pathF_len n l i hn hin)
    have HD := Lib.hid (depthF_le 63 i n (by omega) hin)
    have nb1 : ((n : Int) == 1) = false := by rw [beq_eq_false_iff_ne]; omega
    by_cases hs : i < k
    · have e := pathF_left (l := l) (i := i) (by omega) (by rw [hn, hk]; exact hs)
      rw [hn, hk] at e
      obtain ⟨x2, hx2⟩ : ∃ x2, rootF (l.drop k) = x2 := ⟨_, rfl⟩
      obtain ⟨r1, hr1'⟩ : ∃ r1, pathF (l.take k) i = r1 := ⟨_, rfl⟩
      rw [hx2, hr1', hr0.out] at e
      subst e
      have HX2 := Lib.hid hx2
      have HP1 := Lib.hid hr1'
      have HK := Lib.hid hk
      have HLL : Hid (r1.length + 1 ≤ 63) := Lib.hid (by have h1 := HL.out; have h2 := HD.out; rw [hr0.out] at h1; simp at h1; omega)
      have s0 : (i : Int) < (n : Int) := by omega
      have s1 : (i : Int) < (k : Int) := by omega
      clear hr hr1 hr2 hi8 hz0 hz8 hz9 hx2 hr1' hk hy
      go_enter Try.func27, Try.ntmps27
      go_wp2_with (first
        | (go_at_call 44; refine (rsplit_any _ n rfl hn2 (by omega) _).mono ?_; rintro e w1 ⟨rfl, rfl⟩; rw [HK.out])
        | (go_at_call 27; refine (ih k k2 _ (l.take k) c i _ r1 rfl (by rw [List.length_take]; omega) hs HP1 (by rw [List.length_take]; omega) hm _ HR1.out).mono ?_; rintro e w1 ⟨v1, rfl, ho1, hb1⟩; have hF1 := (Fr.refl w).next hb1)
        | (go_at_call 32; refine (rroot_any (n - k) _ (l.drop k) (c - k) x2 (by rw [List.length_drop]; omega) HX2 (by rw [List.length_drop]; omega) (by omega) _ ((HR2.out.keep hF1.1).mono (by (have := hF1.2; omega)))).mono ?_; rintro e w2 ⟨rfl, hb2⟩; have hF2 := hF1.next hb2; have ho2 := ho1.keep hb2)
        | (at_builtin; refine wpList_append_on rfl (.tmp 36) (.tmp 41) 48 rfl w.heap.size 30 i8 _ Try.underlying48 HI.out HZ0.out rfl HZ1.out HZ2.out _ r1 rfl (ho2.keep ((Below.refl _ _).alloc (Nat.le_refl _) _)) _ ⟨w2.heap.size, 0, none⟩ 1 1 x2 rfl rfl (rn_build w2 30 x2) (by (have := HLL.out; omega)) (by (have := hF2.2; simp; omega)) ?_; intro v3 w3 ho3 hg3 hat3; have hF3 := ((hF2.alloc _).grown hg3 (fun k hk => ho2.own k hk)))
        | fail)
      go_ret2
      exact ⟨_, rfl, ho3, hF3.1⟩
    · have e := pathF_right (l := l) (i := i) (by omega) (by rw [hn, hk]; omega)
      rw [hn, hk] at e
      obtain ⟨x2, hx2⟩ : ∃ x2, rootF (l.take k) = x2 := ⟨_, rfl⟩
      obtain ⟨r1, hr1'⟩ : ∃ r1, pathF (l.drop k) (i - k) = r1 := ⟨_, rfl⟩
      rw [hx2, hr1', hr0.out] at e
      subst e
      have HX2 := Lib.hid hx2
      have HP1 := Lib.hid hr1'
      have HK := Lib.hid hk
      have HLL : Hid (r1.length + 1 ≤ 63) := Lib.hid (by have h1 := HL.out; have h2 := HD.out; rw [hr0.out] at h1; simp at h1; omega)
      have s0 : (i : Int) < (n : Int) := by omega
      have s1 : ¬ (i : Int) < (k : Int) := by omega
      clear hr hr1 hr2 hi8 hz0 hz8 hz9 hx2 hr1' hk hy
      go_enter Try.func27, Try.ntmps27
      go_wp2_with (first
        | (go_at_call 44; refine (rsplit_any _ n rfl hn2 (by omega) _).mono ?_; rintro e w1 ⟨rfl, rfl⟩; rw [HK.out])
        | (go_at_call 27; refine (ih (n - k) (by omega) _ (l.drop k) (c - k) (i - k) _ r1 (by omega) (by rw [List.length_drop]; omega) (by omega) HP1 (by rw [List.length_drop]; omega) (by omega) _ HR2.out).mono ?_; rintro e w1 ⟨v1, rfl, ho1, hb1⟩; have hF1 := (Fr.refl w).next hb1)
        | (go_at_call 32; refine (rroot_any k _ (l.take k) c x2 (by rw [List.length_take]; omega) HX2 (by rw [List.length_take]; omega) (by omega) _ ((HR1.out.keep hF1.1).mono (by (have := hF1.2; omega)))).mono ?_; rintro e w2 ⟨rfl, hb2⟩; have hF2 := hF1.next hb2; have ho2 := ho1.keep hb2)
        | (at_builtin; refine wpList_append_on rfl (.tmp 53) (.tmp 58) 48 rfl w.heap.size 30 i8 _ Try.underlying48 HI.out HZ0.out rfl HZ1.out HZ2.out _ r1 rfl (ho2.keep ((Below.refl _ _).alloc (Nat.le_refl _) _)) _ ⟨w2.heap.size, 0, none⟩ 1 1 x2 rfl rfl (rn_build w2 30 x2) (by (have := HLL.out; omega)) (by (have := hF2.2; simp; omega)) ?_; intro v3 w3 ho3 hg3 hat3; have hF3 := ((hF2.alloc _).grown hg3 (fun k hk => ho2.own k hk)))
        | fail)
      go_ret2
      exact ⟨_, rfl, ho3, hF3.1⟩

theorem rpath_no (A : Option Addr) (n c : Nat) (I : Int) (h : I < 0 ∨ (n : Int) ≤ I) (hI : I64 I) (w : World) :
    Calls Try.prog 27 #[.slice A n c, .int .i64 I] w (RetN w 30 ([], false)) := by
  obtain ⟨h3, h4⟩ := hI
  by_cases h0 : I < 0
  · go_enter Try.func27, Try.ntmps27
    go_wp2
    go_ret2
    exact ⟨_, rfl, ON.nil _ _ _, Below.refl _ _⟩
  · have h5 : (n : Int) ≤ I := by omega
    clear h
    go_enter Try.func27, Try.ntmps27
    go_wp2
    go_ret2
    exact ⟨_, rfl, ON.nil _ _ _, Below.refl _ _⟩
end Go.Proofs.Ytjghengkpbokaaa

/-
  forkledgerref1's trees: follow, Follow, VerifyPath; the reference keeps chapter 3.
-/
namespace Go.Proofs.Ytjghengkpbokaaa
open Go.ChangeShapes Go.WideShapes Go.ChangeAt Go.RowKit Go.Fl

def folW (w : World) (x : BitVec 64) : World := (w.alloc (.cells (nmC x) 30)).alloc (.cells #[B 0, B 0, B 0, B 0, B 0, B 0, B 0, B 0] 30)
theorem folW_facts (w : World) (x : BitVec 64) : Is (folW w x) w.heap.size 30 (nmC x) ∧ Is (folW w x) (w.heap.size + 1) 30 #[B 0, B 0, B 0, B 0, B 0, B 0, B 0, B 0] ∧ Fr w 2 (folW w x) ∧ (folW w x).heap.size = w.heap.size + 2 :=
  ⟨(Is.new w _ _).old _, Is.newAt _ _ _ (by simp), ((Fr.refl w).alloc _).alloc _, by simp [folW]⟩

set_option maxRecDepth 10000 in
set_option maxHeartbeats 600000 in
theorem rfollow_any : ∀ (n : Nat) (x : BitVec 64) (i : Nat) (A : Option Addr) (p : List (BitVec 64)) (m c : Nat) (I N : Int) (y : BitVec 64), I = (i : Int) → N = (n : Int) → i < n → n ≤ 9223372036854775807 → p.length = m → p.length = depthF i n → Hid (followF x i n p = y) → p.length ≤ c → c ≤ 9223372036854775807 → ∀ w : World, RN w w.heap.size A p →
    Calls Try.prog 58 #[nm x, .int .i64 I, .int .i64 N, .slice A m c] w fun e w' => e = .returned (nm y) ∧ Below w.heap.size w w' := by
  intro n
  induction n using Nat.strongRecOn with
  | _ n ih =>
  intro x i A p m c I N y hI hN hin hn63 hm hpd hy hc hc63 w hr
  subst hI hN
  obtain ⟨hl, hz, hF, hW⟩ := folW_facts w x
  by_cases h1 : n = 1
  · subst h1
    rw [followF_one (Nat.le_refl _)] at hy
    have hb := is_rb (n := (folW w x).heap.size) hl hl.lt
    go_enter Try.func58, Try.ntmps58
    go_wp2_with fail
    refine (rtagged_n 17 _ (nmL x) _ _ rfl hy (by simp [nmL_len]) (by simp [nmL_len]) (folW w x) hb).mono ?_
    rintro e w1 ⟨rfl, hb1⟩
    have hF1 := hF.next hb1
    have hz1 := hz.next hb1
    go_wp2_with (refine wpList_store_is rfl 30 (.tmp 8) (.tmp 14) rfl (w.heap.size + 1) 30 _ (nmC _) rfl rfl hz1 (nmC_size _) name_info (nmC_one _) ?_; intro w6 hz7 hb6)
    exact ret_is rfl (w.heap.size + 1) 30 _ rfl hz7 Try.underlying30 rfl name_info rfl ⟨rfl, hF1.1.trans (hb6.mono (by omega))⟩
  · have hn2 : 2 ≤ n := by omega
    obtain ⟨k, hk⟩ : ∃ k, splitN n = k := ⟨_, rfl⟩
    have k1 : 1 ≤ k := by rw [← hk]; exact splitN_pos n
    have k2 : k < n := by rw [← hk]; exact splitN_lt n hn2
    have hp1 : 1 ≤ p.length := by
      rw [hpd]
      by_cases hs : i < splitN n
      · rw [depthF_left hn2 hs]; omega
      · rw [depthF_right hn2 (by omega)]; omega
    obtain ⟨u, hu⟩ : ∃ u, p[m - 1]? = some u := ⟨_, List.getElem?_eq_getElem (by omega)⟩
    have hgd : p.getD (p.length - 1) 0 = u := by rw [List.getD_eq_getElem?_getD, hm, hu]; rfl
    obtain ⟨g, off, rfl, hg, -⟩ := hr.at_ hu
    obtain ⟨i8, hi8, hz0, hz8, hz9⟩ := info_parts info_name
    have hdl : p.dropLast = p.take (m - 1) := by rw [List.dropLast_eq_take, hm]
    have hq : RN w w.heap.size (some ⟨g, off, none⟩) p.dropLast := by rw [hdl]; exact hr.take _
    have hql : p.dropLast.length = m - 1 := by rw [List.length_dropLast, hm]
    have hmi : (m : Int) - 1 = ((m - 1 : Nat) : Int) := by omega
    have nb1 : ((n : Int) == 1) = false := by rw [beq_eq_false_iff_ne]; omega
    have HRU := Lib.hid (rn_range hr rfl hu)
    have HQ := Lib.hid hq
    have HK := Lib.hid hk
    have m1 : (1 : Int) ≤ (m : Int) := by omega
    have m2 : (m : Int) ≤ 9223372036854775807 := by omega
    have n2 : (n : Int) ≤ 9223372036854775807 := by omega
    obtain ⟨j, hj⟩ : ∃ j, m - 1 = j := ⟨_, rfl⟩
    have mj : (m : Int) - 1 = (j : Int) := by omega
    rw [hj] at HRU hql
    have hs1 := fun (W : World) => run_names_to (P := Try.prog) Try.underlying48 hi8 hz8 g off m c j (X := (j : Int)) (Lib.hid rfl) (by omega) (by omega) W
    have hwj : IntKind.i64.wrap (j : Int) = (j : Int) := by rw [IntKind.wrap_i64]; omega
    have jm : j < m := by omega
    have j0 : (0 : Int) ≤ (j : Int) := by omega
    have j2 : (j : Int) ≤ 9223372036854775807 := by omega
    clear hi8 hz0 hz8 hz9 hq hr hu hdl hmi hj hk
    go_enter Try.func58, Try.ntmps58
    go_wp2
    change Code.wp _ _ _ _ (folW w x)
    generalize folW w x = W at *
    go_cut [9, 10] (fun s9 s10 wx => s9 = .int .i64 (k : Int) ∧ s10 = .pointer (some ⟨w.heap.size + 2, 0, none⟩) ∧ Is wx w.heap.size 30 (nmC x) ∧ Is wx (w.heap.size + 1) 30 #[B 0, B 0, B 0, B 0, B 0, B 0, B 0, B 0] ∧ Is wx (w.heap.size + 2) 30 (nmC u) ∧ Fr w 3 wx)
    case first =>
      refine wp_region_held_drew (S := fun w' => Below W.heap.size W w') (by kernel_rfl) (Below.refl _ _).drew (fun hHeld => ?_)
      refine held_pure 0 15 (.int .i64 (n : Int)) rfl (fun _ => rfl) (by assumption) ?_
      try simp only [Act.put, List.setIfInBounds_toArray, List.set_cons_zero, List.set_cons_succ]
      refine held_pure 2 17 (.slice (some ⟨g, off, none⟩) m c) rfl (fun _ => rfl) (by assumption) ?_
      try simp only [Act.put, List.setIfInBounds_toArray, List.set_cons_zero, List.set_cons_succ]
      refine held_pure 3 18 (.slice (some ⟨g, off, none⟩) m c) rfl (fun _ => rfl) (by assumption) ?_
      try simp only [Act.put, List.setIfInBounds_toArray, List.set_cons_zero, List.set_cons_succ]
      refine held_pure 4 19 (.int .i64 (m : Int)) rfl (fun W => by go_simp) (by assumption) ?_
      try simp only [Act.put, List.setIfInBounds_toArray, List.set_cons_zero, List.set_cons_succ]
      refine held_pure 5 20 (.int .i64 (j : Int)) rfl (fun W => by go_simp) (by assumption) ?_
      try simp only [Act.put, List.setIfInBounds_toArray, List.set_cons_zero, List.set_cons_succ]
      refine held_pure 6 21 (.pointer (some ⟨g, off + j * 8, none⟩)) rfl (fun W => by go_simp) (by assumption) ?_
      try simp only [Act.put, List.setIfInBounds_toArray, List.set_cons_zero, List.set_cons_succ]
      refine held_load 7 22 rfl 30 (.tmp 21) rfl g (off + j * 8) rfl (nmR u) (fun w' h => range_keep (HRU.out) (hF.1.trans (h.mono (by have := hF.2; omega))) hg) Try.underlying30 name_info (by assumption) ?_
      try simp only [Act.put, List.setIfInBounds_toArray, List.set_cons_zero, List.set_cons_succ]
      refine wpAnyH_ready (rs := [1, 8]) (by kernel_rfl) (by simp) (AllReadyH.cons rfl (fun K hK => ?_) (AllReadyH.cons rfl (fun K hK => ?_) AllReadyH.nil))
      · rw [if_pos (by rfl)]
        go_wp2_with fail
        refine (rsplit_any _ n rfl hn2 hn63 _).mono ?_
        rintro e w1 ⟨rfl, rfl⟩
        rw [HK.out]
        go_wp2_with fail
        refine hK.out _ _ hHeld (fun _ => ?_)
        clear hK K
        try simp only [Act.put, List.setIfInBounds_toArray, List.set_cons_zero, List.set_cons_succ]
        refine held_one (i := 8) (by kernel_rfl) rfl (by rfl) (fun K hK => ?_)
        go_wp2_with fail
        refine hK.out _ _ (by first | exact hHeld.alloc (Nat.le_refl _) _ | exact ((Below.refl _ _).alloc (Nat.le_refl _) _).drew) (fun hHeld2 => ?_)
        clear hK K
        try simp only [Act.put, List.setIfInBounds_toArray, List.set_cons_zero, List.set_cons_succ]
        have hzu : Is (W.alloc (.cells #[B 0, B 0, B 0, B 0, B 0, B 0, B 0, B 0] 30)).drew (w.heap.size + 2) 30 #[B 0, B 0, B 0, B 0, B 0, B 0, B 0, B 0] := (Is.newAt W 30 #[B 0, B 0, B 0, B 0, B 0, B 0, B 0, B 0] hW.symm).drew
        have hlu := (hl.old (.cells #[B 0, B 0, B 0, B 0, B 0, B 0, B 0, B 0] 30)).drew
        have hzz := (hz.old (.cells #[B 0, B 0, B 0, B 0, B 0, B 0, B 0, B 0] 30)).drew
        have hFF := (hF.alloc (.cells #[B 0, B 0, B 0, B 0, B 0, B 0, B 0, B 0] 30)).drew
        refine held_pure 9 9 (.int .i64 (k : Int)) rfl (fun _ => rfl) hHeld2 ?_
        refine held_one (i := 10) (by kernel_rfl) rfl (by rfl) (fun K hK => ?_)
        refine oper_store_is 30 (.tmp 10) (.tmp 22) rfl (w.heap.size + 2) 30 _ (nmC u) rfl rfl hzu (nmC_size _) name_info (nmC_one _) ?_
        intro w4 hz4 hb4 _
        refine hK.out _ _ (hHeld2.trans (hb4.mono (by omega))) (fun _ => wpAnyH_done (by kernel_rfl) ?_ _)
        clear hK K
        go_wp2_with fail
        go_meet
        case rel => exact ⟨rfl, rfl, hlu.keep hb4 (by omega), hzz.keep hb4 (by omega), hz4, hFF.step hb4 (by omega)⟩
      · rw [if_pos (by rfl)]
        go_wp2_with fail
        refine hK.out _ _ (by first | exact hHeld.alloc (Nat.le_refl _) _ | exact ((Below.refl _ _).alloc (Nat.le_refl _) _).drew) (fun hHeld2 => ?_)
        clear hK K
        try simp only [Act.put, List.setIfInBounds_toArray, List.set_cons_zero, List.set_cons_succ]
        refine held_one (i := 1) (by kernel_rfl) rfl (by rfl) (fun K hK => ?_)
        go_wp2_with fail
        refine (rsplit_any _ n rfl hn2 hn63 _).mono ?_
        rintro e w1 ⟨rfl, rfl⟩
        rw [HK.out]
        go_wp2_with fail
        refine hK.out _ _ hHeld2 (fun _ => ?_)
        clear hK K
        try simp only [Act.put, List.setIfInBounds_toArray, List.set_cons_zero, List.set_cons_succ]
        have hzu : Is (W.alloc (.cells #[B 0, B 0, B 0, B 0, B 0, B 0, B 0, B 0] 30)).drew (w.heap.size + 2) 30 #[B 0, B 0, B 0, B 0, B 0, B 0, B 0, B 0] := (Is.newAt W 30 #[B 0, B 0, B 0, B 0, B 0, B 0, B 0, B 0] hW.symm).drew
        have hlu := (hl.old (.cells #[B 0, B 0, B 0, B 0, B 0, B 0, B 0, B 0] 30)).drew
        have hzz := (hz.old (.cells #[B 0, B 0, B 0, B 0, B 0, B 0, B 0, B 0] 30)).drew
        have hFF := (hF.alloc (.cells #[B 0, B 0, B 0, B 0, B 0, B 0, B 0, B 0] 30)).drew
        refine held_pure 9 9 (.int .i64 (k : Int)) rfl (fun _ => rfl) hHeld2 ?_
        refine held_one (i := 10) (by kernel_rfl) rfl (by rfl) (fun K hK => ?_)
        refine oper_store_is 30 (.tmp 10) (.tmp 22) rfl (w.heap.size + 2) 30 _ (nmC u) rfl rfl hzu (nmC_size _) name_info (nmC_one _) ?_
        intro w4 hz4 hb4 _
        refine hK.out _ _ (hHeld2.trans (hb4.mono (by omega))) (fun _ => wpAnyH_done (by kernel_rfl) ?_ _)
        clear hK K
        go_wp2_with fail
        go_meet
        case rel => exact ⟨rfl, rfl, hlu.keep hb4 (by omega), hzz.keep hb4 (by omega), hz4, hFF.step hb4 (by omega)⟩
    case rest =>
      obtain ⟨rfl, rfl, hl2, hz2, hu2, hF2⟩ := hcut
      by_cases hs : i < k
      · have ey := followF_left (x := x) (p := p) hn2 (show i < splitN n by rw [HK.out]; exact hs)
        rw [HK.out, hgd] at ey
        obtain ⟨y1, hy1⟩ : ∃ y1, followF x i k p.dropLast = y1 := ⟨_, rfl⟩
        rw [hy1, hy.out] at ey
        have HY1 := Lib.hid hy1
        have HXP : Hid (sumF (18 :: (nmL y1 ++ nmL u)) = y) := Lib.hid (by rw [ey]; rfl)
        have HPD : p.dropLast.length = depthF i k := by have := depthF_left hn2 (show i < splitN n by rw [HK.out]; exact hs); rw [HK.out] at this; omega
        have s1 : (i : Int) < (k : Int) := by omega
        have HPD2 := Lib.hid HPD
        have HQL := Lib.hid hql
        clear hy1 ey HPD hql hpd
        go_wp2
        refine wp_region_held_drew (S := fun w' => Is w' w.heap.size 30 (nmC x) ∧ Is w' (w.heap.size + 2) 30 (nmC u)) (by kernel_rfl) ⟨hl2.drew, hu2.drew⟩ (fun hHeld => ?_)
        refine held_load 0 26 rfl 30 (.tmp 4) rfl w.heap.size 0 rfl (nmR x) (fun w' h => range_is (cs := (nmR x)) h.1) Try.underlying30 name_info (by assumption) ?_
        try simp only [Act.put, List.setIfInBounds_toArray, List.set_cons_zero, List.set_cons_succ]
        refine held_pure 1 27 (.int .i64 (i : Int)) rfl (fun W => by rfl) (by assumption) ?_
        try simp only [Act.put, List.setIfInBounds_toArray, List.set_cons_zero, List.set_cons_succ]
        refine held_pure 2 28 (.int .i64 (k : Int)) rfl (fun W => by rfl) (by assumption) ?_
        try simp only [Act.put, List.setIfInBounds_toArray, List.set_cons_zero, List.set_cons_succ]
        refine held_pure 3 29 (.slice (some ⟨g, off, none⟩) m c) rfl (fun W => by rfl) (by assumption) ?_
        try simp only [Act.put, List.setIfInBounds_toArray, List.set_cons_zero, List.set_cons_succ]
        refine held_pure 4 30 (.slice (some ⟨g, off, none⟩) m c) rfl (fun W => by rfl) (by assumption) ?_
        try simp only [Act.put, List.setIfInBounds_toArray, List.set_cons_zero, List.set_cons_succ]
        refine held_pure 5 31 (.int .i64 (m : Int)) rfl (fun W => by go_simp) (by assumption) ?_
        try simp only [Act.put, List.setIfInBounds_toArray, List.set_cons_zero, List.set_cons_succ]
        refine held_pure 6 32 (.int .i64 (j : Int)) rfl (fun W => by go_simp) (by assumption) ?_
        try simp only [Act.put, List.setIfInBounds_toArray, List.set_cons_zero, List.set_cons_succ]
        refine held_pure 7 33 (.slice (some ⟨g, off, none⟩) j c) rfl (fun W => by go_simp) (by assumption) ?_
        try simp only [Act.put, List.setIfInBounds_toArray, List.set_cons_zero, List.set_cons_succ]
        refine held_load 9 35 rfl 30 (.tmp 10) rfl (w.heap.size + 2) 0 rfl (nmR u) (fun w' h => range_is (cs := (nmR u)) h.2) Try.underlying30 name_info (by assumption) ?_
        try simp only [Act.put, List.setIfInBounds_toArray, List.set_cons_zero, List.set_cons_succ]
        refine held_one (i := 8) (by kernel_rfl) rfl (by rfl) (fun K hK => ?_)
        go_wp2_with fail
        refine (ih k k2 x i _ p.dropLast j c _ _ y1 rfl rfl hs (by omega) HQL.out HPD2.out HY1 (by have := HQL.out; omega) hc63 _ ((HQ.out.keep hF2.drew.1).mono (by have := hF2.drew.2; omega))).mono ?_
        rintro e w5 ⟨rfl, hb5⟩
        have hF5 := hF2.drew.next hb5
        have hz5 := hz2.drew.next hb5
        go_wp2_with fail
        refine hK.out _ _ ⟨hHeld.1.next hb5, hHeld.2.next hb5⟩ (fun hHeld2 => ?_)
        clear hK K
        try simp only [Act.put, List.setIfInBounds_toArray, List.set_cons_zero, List.set_cons_succ]
        refine held_one (i := 10) (by kernel_rfl) rfl (by rfl) (fun K hK => ?_)
        go_wp2_with fail
        refine (rpair_any 18 y1 u HXP _).mono ?_
        rintro e w6 ⟨rfl, hb6⟩
        have hF6 := hF5.next hb6
        have hz6 := hz5.next hb6
        go_wp2_with fail
        refine hK.out _ _ ⟨hHeld2.1.next hb6, hHeld2.2.next hb6⟩ (fun hHeld3 => ?_)
        clear hK K
        try simp only [Act.put, List.setIfInBounds_toArray, List.set_cons_zero, List.set_cons_succ]
        refine held_one (i := 11) (by kernel_rfl) rfl (by rfl) (fun K hK => ?_)
        refine oper_store_is 30 (.tmp 8) (.tmp 36) rfl (w.heap.size + 1) 30 _ (nmC y) rfl rfl hz6 (nmC_size _) name_info (nmC_one _) ?_
        intro w7 hz7 hb7 hfar
        refine hK.out _ _ ⟨(hfar _ (by omega)).trans hHeld3.1, (hfar _ (by omega)).trans hHeld3.2⟩ (fun _ => wpAnyH_done (by kernel_rfl) ?_ _)
        clear hK K
        go_wp2_with fail
        exact ret_is rfl (w.heap.size + 1) 30 _ rfl hz7 Try.underlying30 rfl name_info rfl ⟨rfl, hF6.1.trans (hb7.mono (by omega))⟩
      · have ey := followF_right (x := x) (p := p) hn2 (show splitN n ≤ i by rw [HK.out]; omega)
        rw [HK.out, hgd] at ey
        obtain ⟨y1, hy1⟩ : ∃ y1, followF x (i - k) (n - k) p.dropLast = y1 := ⟨_, rfl⟩
        rw [hy1, hy.out] at ey
        have HY1 := Lib.hid hy1
        have HXP : Hid (sumF (18 :: (nmL u ++ nmL y1)) = y) := Lib.hid (by rw [ey]; rfl)
        have HPD : p.dropLast.length = depthF (i - k) (n - k) := by have := depthF_right hn2 (show splitN n ≤ i by rw [HK.out]; omega); rw [HK.out] at this; omega
        have s1 : ¬ (i : Int) < (k : Int) := by omega
        have s2 : (k : Int) ≤ (i : Int) := by omega
        have s3 : (k : Int) < (n : Int) := by omega
        have s4 : (i : Int) < (n : Int) := by omega
        have hw1 : IntKind.i64.wrap ((i : Int) - (k : Int)) = (i : Int) - (k : Int) := by rw [IntKind.wrap_i64]; omega
        have hw2 : IntKind.i64.wrap ((n : Int) - (k : Int)) = (n : Int) - (k : Int) := by rw [IntKind.wrap_i64]; omega
        have HPD2 := Lib.hid HPD
        have HQL := Lib.hid hql
        clear hy1 ey HPD hql hpd
        go_wp2
        refine wp_region_held_drew (S := fun w' => Is w' w.heap.size 30 (nmC x) ∧ Is w' (w.heap.size + 2) 30 (nmC u)) (by kernel_rfl) ⟨hl2.drew, hu2.drew⟩ (fun hHeld => ?_)
        refine held_load 0 37 rfl 30 (.tmp 10) rfl (w.heap.size + 2) 0 rfl (nmR u) (fun w' h => range_is (cs := (nmR u)) h.2) Try.underlying30 name_info (by assumption) ?_
        try simp only [Act.put, List.setIfInBounds_toArray, List.set_cons_zero, List.set_cons_succ]
        refine held_load 1 38 rfl 30 (.tmp 4) rfl w.heap.size 0 rfl (nmR x) (fun w' h => range_is (cs := (nmR x)) h.1) Try.underlying30 name_info (by assumption) ?_
        try simp only [Act.put, List.setIfInBounds_toArray, List.set_cons_zero, List.set_cons_succ]
        refine held_pure 2 39 (.int .i64 (i : Int)) rfl (fun W => by rfl) (by assumption) ?_
        try simp only [Act.put, List.setIfInBounds_toArray, List.set_cons_zero, List.set_cons_succ]
        refine held_pure 3 40 (.int .i64 (k : Int)) rfl (fun W => by rfl) (by assumption) ?_
        try simp only [Act.put, List.setIfInBounds_toArray, List.set_cons_zero, List.set_cons_succ]
        refine held_pure 4 41 (.int .i64 ((i : Int) - (k : Int))) rfl (fun W => by go_simp) (by assumption) ?_
        try simp only [Act.put, List.setIfInBounds_toArray, List.set_cons_zero, List.set_cons_succ]
        refine held_pure 5 42 (.int .i64 (n : Int)) rfl (fun W => by rfl) (by assumption) ?_
        try simp only [Act.put, List.setIfInBounds_toArray, List.set_cons_zero, List.set_cons_succ]
        refine held_pure 6 43 (.int .i64 (k : Int)) rfl (fun W => by rfl) (by assumption) ?_
        try simp only [Act.put, List.setIfInBounds_toArray, List.set_cons_zero, List.set_cons_succ]
        refine held_pure 7 44 (.int .i64 ((n : Int) - (k : Int))) rfl (fun W => by go_simp) (by assumption) ?_
        try simp only [Act.put, List.setIfInBounds_toArray, List.set_cons_zero, List.set_cons_succ]
        refine held_pure 8 45 (.slice (some ⟨g, off, none⟩) m c) rfl (fun W => by rfl) (by assumption) ?_
        try simp only [Act.put, List.setIfInBounds_toArray, List.set_cons_zero, List.set_cons_succ]
        refine held_pure 9 46 (.slice (some ⟨g, off, none⟩) m c) rfl (fun W => by rfl) (by assumption) ?_
        try simp only [Act.put, List.setIfInBounds_toArray, List.set_cons_zero, List.set_cons_succ]
        refine held_pure 10 47 (.int .i64 (m : Int)) rfl (fun W => by go_simp) (by assumption) ?_
        try simp only [Act.put, List.setIfInBounds_toArray, List.set_cons_zero, List.set_cons_succ]
        refine held_pure 11 48 (.int .i64 (j : Int)) rfl (fun W => by go_simp) (by assumption) ?_
        try simp only [Act.put, List.setIfInBounds_toArray, List.set_cons_zero, List.set_cons_succ]
        refine held_pure 12 49 (.slice (some ⟨g, off, none⟩) j c) rfl (fun W => by go_simp) (by assumption) ?_
        try simp only [Act.put, List.setIfInBounds_toArray, List.set_cons_zero, List.set_cons_succ]
        refine held_one (i := 13) (by kernel_rfl) rfl (by rfl) (fun K hK => ?_)
        go_wp2_with fail
        refine (ih (n - k) (by omega) x (i - k) _ p.dropLast j c _ _ y1 (by omega) (by omega) (by omega) (by omega) HQL.out HPD2.out HY1 (by have := HQL.out; omega) hc63 _ ((HQ.out.keep hF2.drew.1).mono (by have := hF2.drew.2; omega))).mono ?_
        rintro e w5 ⟨rfl, hb5⟩
        have hF5 := hF2.drew.next hb5
        have hz5 := hz2.drew.next hb5
        go_wp2_with fail
        refine hK.out _ _ ⟨hHeld.1.next hb5, hHeld.2.next hb5⟩ (fun hHeld2 => ?_)
        clear hK K
        try simp only [Act.put, List.setIfInBounds_toArray, List.set_cons_zero, List.set_cons_succ]
        refine held_one (i := 14) (by kernel_rfl) rfl (by rfl) (fun K hK => ?_)
        go_wp2_with fail
        refine (rpair_any 18 u y1 HXP _).mono ?_
        rintro e w6 ⟨rfl, hb6⟩
        have hF6 := hF5.next hb6
        have hz6 := hz5.next hb6
        go_wp2_with fail
        refine hK.out _ _ ⟨hHeld2.1.next hb6, hHeld2.2.next hb6⟩ (fun hHeld3 => ?_)
        clear hK K
        try simp only [Act.put, List.setIfInBounds_toArray, List.set_cons_zero, List.set_cons_succ]
        refine held_one (i := 15) (by kernel_rfl) rfl (by rfl) (fun K hK => ?_)
        refine oper_store_is 30 (.tmp 8) (.tmp 51) rfl (w.heap.size + 1) 30 _ (nmC y) rfl rfl hz6 (nmC_size _) name_info (nmC_one _) ?_
        intro w7 hz7 hb7 hfar
        refine hK.out _ _ ⟨(hfar _ (by omega)).trans hHeld3.1, (hfar _ (by omega)).trans hHeld3.2⟩ (fun _ => wpAnyH_done (by kernel_rfl) ?_ _)
        clear hK K
        go_wp2_with fail
        exact ret_is rfl (w.heap.size + 1) 30 _ rfl hz7 Try.underlying30 rfl name_info rfl ⟨rfl, hF6.1.trans (hb7.mono (by omega))⟩

end Go.Proofs.Ytjghengkpbokaaa

/-
  hash.Pair: the name of sumF of the tag followed by the bytes of both names.
-/
namespace Go.Proofs.Ytjghengkpbokaaa
open Go.ChangeShapes Go.WideShapes Go.ChangeAt Go.RowKit Go.Fl

/-- The world in which Pair has laid its four blocks. -/
def pairW (w : World) (x y : BitVec 64) : World := ((((w.alloc (.cells (nmC x) 30)).alloc (.cells (nmC y) 30)).alloc (.cells #[B 0, B 0, B 0, B 0, B 0, B 0, B 0, B 0] 30)).alloc (.cells #[B 0, B 0, B 0, B 0, B 0, B 0, B 0, B 0, B 0, B 0, B 0, B 0, B 0, B 0, B 0, B 0] 96))

theorem pairW_facts (w : World) (x y : BitVec 64) : Is (pairW w x y) w.heap.size 30 (nmC x) ∧ Is (pairW w x y) (w.heap.size + 1) 30 (nmC y) ∧ Is (pairW w x y) (w.heap.size + 1 + 1) 30 #[B 0, B 0, B 0, B 0, B 0, B 0, B 0, B 0] ∧
    Is (pairW w x y) (w.heap.size + 1 + 1 + 1) 96 Z16.toArray ∧ Fr w 4 (pairW w x y) :=
  ⟨(((Is.new w _ _).old _).old _).old _, ((Is.newAt _ _ _ (by simp)).old _).old _, (Is.newAt _ _ _ (by simp)).old _, Is.newAt _ _ _ (by simp), ((((Fr.refl w).alloc _).alloc _).alloc _).alloc _⟩

set_option maxRecDepth 10000 in
set_option maxHeartbeats 1000000 in
theorem pair_any {h : BitVec 64} (t : UInt8) (x y : BitVec 64) (hx : Hid (sumF (t :: (nmL x ++ nmL y)) = h)) (w : World) :
    Calls Try.prog 80 #[B t, nm x, nm y] w fun e w' => e = .returned (nm h) ∧ Below w.heap.size w w' := by
  have hl : (nmL x ++ nmL y).length = 16 := rfl
  have HL := Lib.hid hl
  clear hl
  go_enter Try.func80, Try.ntmps80
  go_wp2
  obtain ⟨h1, h2, h3, h4, hF⟩ := pairW_facts w x y
  have e : pairW w x y = ((((w.alloc (.cells (nmC x) 30)).alloc (.cells (nmC y) 30)).alloc (.cells #[B 0, B 0, B 0, B 0, B 0, B 0, B 0, B 0] 30)).alloc (.cells #[B 0, B 0, B 0, B 0, B 0, B 0, B 0, B 0, B 0, B 0, B 0, B 0, B 0, B 0, B 0, B 0] 96)) := rfl
  change Code.wp _ _ _ _ (pairW w x y)
  clear e
  generalize pairW w x y = W at *
  go_region_held3 (fun _ => True) (trivial) ((refine step_copy_splice rfl (.tmp 8) (.tmp 9) 22 22 rfl 5 Try.underlying22 byte_info _ _ _ _ _ _ (by rfl) (by rfl) (w.heap.size + 1 + 1 + 1) 0 Z16 96 h4 ((nmL x).map B) rfl (fun _ => ⟨rfl, _, rfl, is_src h1.drew⟩) (by simp [nmL_len]) (bytes_one _) (w.heap.size + 1 + 1 + 1) _ (Below.refl _ _) (Nat.le_refl _) ?_; intro w2 HG hb2))
  have h22 := h2.drew.keep hb2 (by omega)
  have h32 := h3.drew.keep hb2 (by omega)
  have hF2 := hF.drew.step hb2 (by omega)
  clear h1 h2 h3 h4 hF hb2
  go_wp2
  go_region_held3 (fun _ => True) (trivial) ((refine step_copy_splice rfl (.tmp 11) (.tmp 12) 22 22 rfl 5 Try.underlying22 byte_info _ _ _ _ _ _ (by rfl) (by rfl) (w.heap.size + 1 + 1 + 1) 8 (splice Z16 0 ((nmL x).map B)) 96 HG.out ((nmL y).map B) rfl (fun _ => ⟨rfl, _, rfl, is_src h22.drew⟩) (by rw [pair_len]; simp [nmL_len]) (bytes_one _) (w.heap.size + 1 + 1 + 1) _ (Below.refl _ _) (Nat.le_refl _) ?_; intro w3 HG3 hb3))
  have h33 := h32.drew.keep hb3 (by omega)
  have hF3 := hF2.drew.step hb3 (by omega)
  have hr := is_list_rb (n := w3.heap.size) (pair_cells HG3) (by have := hF3.2; omega)
  have HR := Lib.hid hr
  clear hr HG HG3 h22 h32 hF2 hb3
  go_wp2_with (first
    | (go_at_call 66; refine (tagged_n _ _ (nmL x ++ nmL y) _ _ rfl hx (by rw [HL.out]; omega) (by omega) _ HR.out).mono ?_; rintro e w4 ⟨rfl, hb⟩; have h34 := h33.next hb; have hF4 := hF3.next hb; clear hb)
    | (refine wpList_store_is rfl 30 (.tmp 6) (.tmp 16) rfl (w.heap.size + 1 + 1) 30 _ (nmC _) rfl rfl h34 (nmC_size _) name_info (nmC_one _) ?_; intro w6 hz7 hb6))
  exact ret_is rfl (w.heap.size + 1 + 1) 30 _ rfl hz7 Try.underlying30 rfl name_info rfl ⟨rfl, hF4.1.trans (hb6.mono (by omega))⟩
end Go.Proofs.Ytjghengkpbokaaa
