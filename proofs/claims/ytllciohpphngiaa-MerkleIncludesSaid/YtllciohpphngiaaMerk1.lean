/-
  The developers' merkle: split, single, Root, Depth.
-/
import Derived.Test.YtllciohpphngiaaR3Fol
import Derived.Test.YtllciohpphngiaaHPair
import Derived.Test.YtllciohpphngiaaBits
namespace Go.Proofs.Ytllciohpphngiaa
open Go.ChangeShapes Go.WideShapes Go.ChangeAt Go.RowKit Go.Fl

theorem msplit_any (n : Int) (m : Nat) (hn : n = (m : Int)) (h2 : 2 ≤ m) (hm : m ≤ 9223372036854775807) (w : World) :
    Calls Try.prog 30 #[.int .i64 n] w fun e w' => e = .returned (.int .i64 (splitN m)) ∧ w = w' := by
  subst hn
  have hm' : (m : Int) ≤ 9223372036854775807 := by omega
  have h3 : (2 : Int) ≤ (m : Int) := by omega
  obtain ⟨L, hL⟩ : ∃ L, Nat.log2 (m - 1) = L := ⟨_, rfl⟩
  have hL63 : L ≤ 62 := by
    have := (Nat.log2_lt (n := m - 1) (k := 63) (by omega)).2 (by omega)
    omega
  have e : splitN m = 2 ^ L := by rw [← hL]; rfl
  rw [e]
  have HL := Lib.hid hL
  clear e hL
  go_enter Try.func30, Try.ntmps30
  go_wp2_with (go_at_call 38; refine (len_any _ (m - 1) (by omega) (by omega) (by omega) _).mono ?_; rintro e w1 ⟨rfl, rfl⟩; rw [HL.out])
  go_ret
  refine ⟨congrArg Ending.returned (congrArg (Value.int IntKind.i64) ?_), rfl⟩
  have h4 : (2 : Nat) ^ L ≤ 2 ^ 62 := Nat.pow_le_pow_right (by omega) hL63
  have h5 : ((2 : Int) ^ L) = ((2 ^ L : Nat) : Int) := by rw [Int.natCast_pow]; rfl
  unfold wrap64
  rw [h5]
  clear h5
  generalize (2 : Nat) ^ L = p at h4 ⊢
  omega

theorem msingle_any (x y : BitVec 64) (hy : Hid (leafF x = y)) (w : World) :
    Calls Try.prog 29 #[nm x] w fun e w' => e = .returned (nm y) ∧ Below w.heap.size w w' := by
  obtain ⟨hl, hz, hF, hW⟩ := folW_facts w x
  have hb := is_rb (n := (folW w x).heap.size) hl hl.lt
  have hy2 : Hid (sumF (17 :: nmL x) = y) := hy
  go_enter Try.func29, Try.ntmps29
  go_wp2_with fail
  refine (tagged_n 17 _ (nmL x) _ _ rfl hy2 (by simp [nmL_len]) (by omega) (folW w x) hb).mono ?_
  rintro e w1 ⟨rfl, hb1⟩
  have hF1 := hF.next hb1
  have hz1 := hz.next hb1
  go_wp2_with (refine wpList_store_is rfl 27 (.tmp 2) (.tmp 4) rfl (w.heap.size + 1) 27 _ (nmC _) rfl rfl hz1 (nmC_size _) name_info (nmC_one _) ?_; intro w6 hz7 hb6)
  exact ret_is rfl (w.heap.size + 1) 27 _ rfl hz7 Try.underlying27 rfl name_info rfl ⟨rfl, hF1.1.trans (hb6.mono (by omega))⟩

set_option maxHeartbeats 1000000 in
theorem mroot_any : ∀ (n : Nat) (A : Option Addr) (l : List (BitVec 64)) (c : Nat) (x : BitVec 64), l.length = n → Hid (rootF l = x) → l.length ≤ c → c ≤ 9223372036854775807 → ∀ w : World, RN w w.heap.size A l →
    Calls Try.prog 13 #[.slice A n c] w fun e w' => e = .returned (nm x) ∧ Below w.heap.size w w' := by
  intro n
  induction n using Nat.strongRecOn with
  | _ n ih =>
  intro A l c x hn hx hc hm w hr
  have hz := Is.new w 27 #[B 0, B 0, B 0, B 0, B 0, B 0, B 0, B 0]
  have hF := (Fr.refl w).alloc (.cells #[B 0, B 0, B 0, B 0, B 0, B 0, B 0, B 0] 27)
  have HR := Lib.hid hr
  by_cases h0 : n = 0
  · subst h0
    have hl : l = [] := List.eq_nil_of_length_eq_zero hn
    subst hl
    rw [rootF_nil] at hx
    go_enter Try.func13, Try.ntmps13
    go_wp2_with fail
    refine (tagged_n 16 none [] 0 0 rfl hx (by simp) (by simp) _ (RB.nil _ _ _)).mono ?_
    rintro e w1 ⟨rfl, hb1⟩
    have hF1 := hF.next hb1
    have hz1 := hz.next hb1
    go_wp2_with (refine wpList_store_is rfl 27 (.tmp 2) (.tmp 8) rfl w.heap.size 27 _ (nmC _) rfl rfl hz1 (nmC_size _) name_info (nmC_one _) ?_; intro w6 hz7 hb6)
    exact ret_is rfl w.heap.size 27 _ rfl hz7 Try.underlying27 rfl name_info rfl ⟨rfl, hF1.1.trans hb6⟩
  · obtain ⟨y, hy⟩ : ∃ y, l[0]? = some y := ⟨_, List.getElem?_eq_getElem (by omega)⟩
    obtain ⟨g, off, rfl, hg, -⟩ := hr.at_ hy
    by_cases h1 : n = 1
    · subst h1
      have hl : l = [y] := by
        obtain ⟨z, rfl⟩ := List.length_eq_one_iff.1 hn
        simp at hy
        rw [hy]
      subst hl
      rw [rootF_one] at hx
      have HR0 := Lib.hid (rn_range hr rfl hy)
      rw [Nat.zero_mul, Nat.add_zero] at HR0
      clear hr
      go_enter Try.func13, Try.ntmps13
      go_wp2_with (first
        | (refine wpList_load_mid rfl 27 (.tmp 12) rfl g off (by rfl) (nmR y) _ (range_keep HR0.out hF.1 hg) Try.underlying27 rfl name_info ?_)
        | (go_at_call 29; refine (msingle_any y x hx _).mono ?_; rintro e w1 ⟨rfl, hb1⟩; have hF1 := hF.next hb1; have hz1 := hz.next hb1)
        | (refine wpList_store_is rfl 27 (.tmp 2) (.tmp 14) rfl w.heap.size 27 _ (nmC _) rfl rfl hz1 (nmC_size _) name_info (nmC_one _) ?_; intro w6 hz7 hb6))
      exact ret_is rfl w.heap.size 27 _ rfl hz7 Try.underlying27 rfl name_info rfl ⟨rfl, hF1.1.trans hb6⟩
    · have hn2 : 2 ≤ n := by omega
      obtain ⟨k, hk⟩ : ∃ k, splitN n = k := ⟨_, rfl⟩
      have k1 : 1 ≤ k := by rw [← hk]; exact splitN_pos n
      have k2 : k < n := by rw [← hk]; exact splitN_lt n hn2
      have e := rootF_two (l := l) (by omega)
      rw [hn, hk] at e
      obtain ⟨x1, hx1⟩ : ∃ x1, rootF (l.take k) = x1 := ⟨_, rfl⟩
      obtain ⟨x2, hx2⟩ : ∃ x2, rootF (l.drop k) = x2 := ⟨_, rfl⟩
      rw [hx1, hx2] at e
      have HX1 := Lib.hid hx1
      have HX2 := Lib.hid hx2
      have HXP : Hid (sumF (18 :: (nmL x1 ++ nmL x2)) = x) := Lib.hid (by rw [← hx.out, e]; rfl)
      have HK := Lib.hid hk
      obtain ⟨i0, hi, _, hz8, _⟩ := info_parts info_name
      have hs1 := fun (W : World) => run_names_to (P := Try.prog) Try.underlying22 hi hz8 g off n c k (X := (k : Int)) (Lib.hid rfl) (by omega) (by omega) W
      have hs2 := fun (W : World) => run_names_from (P := Try.prog) Try.underlying22 hi hz8 g off n c k (X := (k : Int)) (Lib.hid rfl) (by omega) (by omega) W
      have hr1 : RN w w.heap.size (some ⟨g, off, none⟩) (l.take k) := hr.take k
      have hr2 : RN w w.heap.size (some ⟨g, off + k * 8, none⟩) (l.drop k) := by have := hr.drop k; simpa [add_plain] using this
      have HR1 := Lib.hid hr1
      have HR2 := Lib.hid hr2
      have nb0 : ((n : Int) == 0) = false := by rw [beq_eq_false_iff_ne]; omega
      have nb1 : ((n : Int) == 1) = false := by rw [beq_eq_false_iff_ne]; omega
      clear hr hr1 hr2 hx hi hz8 hx1 hx2 e hk hy
      go_enter Try.func13, Try.ntmps13
      go_wp2_with (first
        | (go_at_call 30; refine (msplit_any _ n rfl hn2 (by omega) _).mono ?_; rintro e w1 ⟨rfl, rfl⟩; rw [HK.out])
        | fail)
      refine wp_region_held_drew (S := fun _ => True) (by kernel_rfl) trivial (fun _ => ?_)
      refine held_pure 0 18 (.slice (some ⟨g, off, none⟩) n c) rfl (fun _ => rfl) trivial ?_
      refine held_pure 1 19 (.int .i64 k) rfl (fun _ => rfl) trivial ?_
      refine held_pure 2 20 (.slice (some ⟨g, off, none⟩) k c) rfl (fun W => by go_simp) trivial ?_
      refine held_pure 4 22 (.slice (some ⟨g, off, none⟩) n c) rfl (fun _ => rfl) trivial ?_
      refine held_pure 5 23 (.int .i64 k) rfl (fun _ => rfl) trivial ?_
      refine held_pure 6 24 (.slice (some ⟨g, off + k * 8, none⟩) (n - k) (c - k)) rfl (fun W => by go_simp) trivial ?_
      try simp only [Act.put, List.setIfInBounds_toArray, List.set_cons_zero, List.set_cons_succ]
      refine held_one (i := 3) (by kernel_rfl) rfl (by rfl) (fun K hK => ?_)
      go_wp2_with fail
      refine (ih k k2 _ (l.take k) c x1 (by rw [List.length_take]; omega) HX1 (by rw [List.length_take]; omega) hm _ ((HR1.out.keep hF.drew.1).mono (by have := hF.drew.2; omega))).mono ?_
      rintro e w1 ⟨rfl, hb1⟩
      have hF1 := hF.drew.next hb1
      have hz1 := hz.drew.next hb1
      go_wp2_with fail
      refine hK.out _ _ trivial (fun _ => ?_)
      clear hK K
      refine held_one (i := 7) (by kernel_rfl) rfl (by rfl) (fun K hK => ?_)
      go_wp2_with fail
      refine (ih (n - k) (by omega) _ (l.drop k) (c - k) x2 (by rw [List.length_drop]; omega) HX2 (by rw [List.length_drop]; omega) (by omega) _ ((HR2.out.keep hF1.1).mono (by have := hF1.2; omega))).mono ?_
      rintro e w2 ⟨rfl, hb2⟩
      have hF2 := hF1.next hb2
      have hz2 := hz1.next hb2
      go_wp2_with fail
      refine hK.out _ _ trivial (fun _ => ?_)
      clear hK K
      refine held_one (i := 8) (by kernel_rfl) rfl (by rfl) (fun K hK => ?_)
      go_wp2_with fail
      refine (pair_any 18 x1 x2 HXP _).mono ?_
      rintro e w3 ⟨rfl, hb3⟩
      have hF3 := hF2.next hb3
      have hz3 := hz2.next hb3
      go_wp2_with fail
      refine hK.out _ _ trivial (fun _ => ?_)
      clear hK K
      refine held_one (i := 9) (by kernel_rfl) rfl (by rfl) (fun K hK => ?_)
      refine oper_store_is 27 (.tmp 2) (.tmp 26) rfl w.heap.size 27 _ (nmC x) rfl rfl hz3 (nmC_size _) name_info (nmC_one _) ?_
      intro w4 hz4 hb4 _
      refine hK.out _ _ trivial (fun _ => wpAnyH_done (by kernel_rfl) ?_ _)
      clear hK K
      go_wp2_with fail
      exact ret_is rfl w.heap.size 27 _ rfl hz4 Try.underlying27 rfl name_info rfl ⟨rfl, hF3.1.trans hb4⟩

set_option maxHeartbeats 1000000 in
theorem mdepth_any (i n : Int) (hi : I64 i) (hn : I64 n) (w : World) :
    Calls Try.prog 17 #[.int .i64 i, .int .i64 n] w fun e w' => e = .returned (.int .i64 (depthI i n)) ∧ w = w' := by
  obtain ⟨hi1, hi2⟩ := hi
  obtain ⟨hn1, hn2⟩ := hn
  by_cases h0 : i < 0
  · have e : depthI i n = -1 := by unfold depthI; rw [if_neg (by omega)]
    rw [e]
    go_enter Try.func17, Try.ntmps17
    go_wp2
    go_ret
    exact ⟨rfl, rfl⟩
  · by_cases h1 : n ≤ i
    · have e : depthI i n = -1 := by unfold depthI; rw [if_neg (by omega)]
      rw [e]
      go_enter Try.func17, Try.ntmps17
      go_wp2
      go_ret
      exact ⟨rfl, rfl⟩
    · obtain ⟨a, rfl⟩ : ∃ q : Nat, i = (q : Int) := ⟨i.toNat, by omega⟩
      obtain ⟨b, rfl⟩ : ∃ q : Nat, n = (q : Int) := ⟨n.toNat, by omega⟩
      obtain ⟨D, hD⟩ : ∃ D, depthF a b = D := ⟨_, rfl⟩
      have e : depthI a b = (D : Int) := by unfold depthI; rw [if_pos (by omega), Int.toNat_natCast, Int.toNat_natCast, hD]
      have hD2 : D ≤ 63 := by rw [← hD]; exact depthF_le 63 a b (by omega) (by omega)
      have HD := Lib.hid hD
      rw [e]
      clear e hD
      go_enter Try.func17, Try.ntmps17
      go_wp2
      go_loop [0, 1, 5] (fun i n d => ∃ i' n' d' : Nat, i = .int .i64 i' ∧ n = .int .i64 n' ∧ d = .int .i64 d' ∧ i' < n' ∧ n' ≤ b ∧ Hid (d' + depthF i' n' = D)) (fun _ n _ => (intOf n).toNat)
      case atStart => exact ⟨a, b, 0, rfl, rfl, rfl, by omega, Nat.le_refl _, Lib.hid (by rw [HD.out]; omega)⟩
      case round =>
        obtain ⟨i', n', d', rfl, rfl, rfl, hlt, hle, hd⟩ := hrel
        by_cases hn1 : n' ≤ 1
        · have ed : d' = D := by have := hd.out; rw [depthF_one hn1] at this; omega
          subst ed
          go_wp2
          go_ret
          exact ⟨rfl, rfl⟩
        · obtain ⟨k, hk⟩ : ∃ k, splitN n' = k := ⟨_, rfl⟩
          have k1 : 1 ≤ k := by rw [← hk]; exact splitN_pos n'
          have k2 : k < n' := by rw [← hk]; exact splitN_lt n' (by omega)
          have HK := Lib.hid hk
          by_cases hs : i' < k
          · have ed : d' + (depthF i' k + 1) = D := by have := hd.out; rw [depthF_left (by omega) (by rw [hk]; exact hs), hk] at this; exact this
            have ed2 : d' + 1 ≤ 63 := by omega
            have ED := Lib.hid ed
            clear ed hk
            go_wp2_with (first
              | (go_at_call 30; refine (msplit_any _ n' rfl (by omega) (by omega) _).mono ?_; rintro e w1 ⟨rfl, rfl⟩; rw [HK.out])
              | fail)
            go_round
            case rel => exact ⟨i', k, d' + 1, rfl, rfl, by go_num, hs, by omega, Lib.hid (by have := ED.out; omega)⟩
            case measure => simp [intOf]; omega
          · have ed : d' + (depthF (i' - k) (n' - k) + 1) = D := by have := hd.out; rw [depthF_right (by omega) (by rw [hk]; omega), hk] at this; exact this
            have ed2 : d' + 1 ≤ 63 := by omega
            have ED := Lib.hid ed
            clear ed hk
            go_wp2_with (first
              | (go_at_call 30; refine (msplit_any _ n' rfl (by omega) (by omega) _).mono ?_; rintro e w1 ⟨rfl, rfl⟩; rw [HK.out])
              | fail)
            go_round
            case rel => exact ⟨i' - k, n' - k, d' + 1, by go_num, by go_num, by go_num, by omega, by omega, Lib.hid (by have := ED.out; omega)⟩
            case measure => simp [intOf]; omega

end Go.Proofs.Ytllciohpphngiaa
