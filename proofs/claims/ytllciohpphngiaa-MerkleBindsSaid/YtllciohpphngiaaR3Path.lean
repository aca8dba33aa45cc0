/-
  forkledgerref1's trees: Depth, Path.
-/
import Derived.Test.YtllciohpphngiaaR3Root
namespace Go.Proofs.Ytllciohpphngiaa
open Go.ChangeShapes Go.WideShapes Go.ChangeAt Go.RowKit Go.Fl

set_option maxHeartbeats 1000000 in
theorem rdepth_any (i n : Int) (hi : I64 i) (hn : I64 n) (w : World) :
    Calls Try.prog 18 #[.int .i64 i, .int .i64 n] w fun e w' => e = .returned (.int .i64 (depthI i n)) ∧ w = w' := by
  obtain ⟨hi1, hi2⟩ := hi
  obtain ⟨hn1, hn2⟩ := hn
  by_cases h0 : i < 0
  · have e : depthI i n = -1 := by unfold depthI; rw [if_neg (by omega)]
    rw [e]
    go_enter Try.func18, Try.ntmps18
    go_wp2
    go_ret
    exact ⟨rfl, rfl⟩
  · by_cases h1 : n ≤ i
    · have e : depthI i n = -1 := by unfold depthI; rw [if_neg (by omega)]
      rw [e]
      go_enter Try.func18, Try.ntmps18
      go_wp2
      go_ret
      exact ⟨rfl, rfl⟩
    · obtain ⟨a, rfl⟩ : ∃ q : Nat, i = (q : Int) := ⟨i.toNat, by omega⟩
      obtain ⟨b, rfl⟩ : ∃ q : Nat, n = (q : Int) := ⟨n.toNat, by omega⟩
      obtain ⟨D, hD⟩ : ∃ D, depthF a b = D := ⟨_, rfl⟩
      have e : depthI a b = (D : Int) := by unfold depthI; rw [if_pos (by omega), Int.toNat_natCast, Int.toNat_natCast, hD]
      have hD2 : D ≤ 63 := by rw [← hD]; exact depthF_le 63 a b (by omega) (by omega)
      have HD := Lib.hid hD
      rw [e]
      clear e hD
      go_enter Try.func18, Try.ntmps18
      go_wp2
      go_loop [0, 1, 5] (fun i n d => ∃ i' n' d' : Nat, i = .int .i64 i' ∧ n = .int .i64 n' ∧ d = .int .i64 d' ∧ i' < n' ∧ n' ≤ b ∧ Hid (d' + depthF i' n' = D)) (fun _ n _ => (intOf n).toNat)
      case atStart => exact ⟨a, b, 0, rfl, rfl, rfl, by omega, Nat.le_refl _, Lib.hid (by rw [HD.out]; omega)⟩
      case round =>
        obtain ⟨i', n', d', rfl, rfl, rfl, hlt, hle, hd⟩ := hrel
        by_cases hn1 : n' ≤ 1
        · have ed : d' = D := by have := hd.out; rw [depthF_one hn1] at this; omega
          subst ed
          go_wp2
          go_ret
          exact ⟨rfl, rfl⟩
        · obtain ⟨k, hk⟩ : ∃ k, splitN n' = k := ⟨_, rfl⟩
          have k1 : 1 ≤ k := by rw [← hk]; exact splitN_pos n'
          have k2 : k < n' := by rw [← hk]; exact splitN_lt n' (by omega)
          have HK := Lib.hid hk
          by_cases hs : i' < k
          · have ed : d' + (depthF i' k + 1) = D := by have := hd.out; rw [depthF_left (by omega) (by rw [hk]; exact hs), hk] at this; exact this
            have ed2 : d' + 1 ≤ 63 := by omega
            have ED := Lib.hid ed
            clear ed hk
            go_wp2_with (first
              | (go_at_call 27; refine (rsplit_any _ n' rfl (by omega) (by omega) _).mono ?_; rintro e w1 ⟨rfl, rfl⟩; rw [HK.out])
              | fail)
            go_round
            case rel => exact ⟨i', k, d' + 1, rfl, rfl, by go_num, hs, by omega, Lib.hid (by have := ED.out; omega)⟩
            case measure => simp [intOf]; omega
          · have ed : d' + (depthF (i' - k) (n' - k) + 1) = D := by have := hd.out; rw [depthF_right (by omega) (by rw [hk]; omega), hk] at this; exact this
            have ed2 : d' + 1 ≤ 63 := by omega
            have ED := Lib.hid ed
            clear ed hk
            go_wp2_with (first
              | (go_at_call 27; refine (rsplit_any _ n' rfl (by omega) (by omega) _).mono ?_; rintro e w1 ⟨rfl, rfl⟩; rw [HK.out])
              | fail)
            go_round
            case rel => exact ⟨i' - k, n' - k, d' + 1, by go_num, by go_num, by go_num, by omega, by omega, Lib.hid (by have := ED.out; omega)⟩
            case measure => simp [intOf]; omega

theorem on_base {w : World} {base m : Nat} {tn : TypeId} {v : Value} {l : List (BitVec 64)} (h : ON w base tn v l) (hm : m ≤ base) : ON w m tn v l := by
  refine ⟨h.1, ?_⟩
  rcases h.2 with h2 | ⟨g, cap, cur, hv, hg, r⟩
  · exact Or.inl h2
  · exact Or.inr ⟨g, cap, cur, hv, by omega, r⟩

set_option maxHeartbeats 1000000 in
theorem rpath_any : ∀ (n : Nat) (A : Option Addr) (l : List (BitVec 64)) (c i : Nat) (I : Int) (r : List (BitVec 64)), I = (i : Int) → l.length = n → i < n → Hid (pathF l i = r) → l.length ≤ c → c ≤ 9223372036854775807 → ∀ w : World, RN w w.heap.size A l →
    Calls Try.prog 12 #[.slice A n c, .int .i64 I] w (RetN w 27 (r, true)) := by
  intro n
  induction n using Nat.strongRecOn with
  | _ n ih =>
  intro A l c i I r hI hn hin hr0 hc hm w hr
  subst hI
  by_cases h1 : n = 1
  · subst h1
    have er : r = [] := by rw [← hr0.out, pathF_one (by omega)]
    subst er
    obtain rfl : i = 0 := by omega
    go_enter Try.func12, Try.ntmps12
    go_wp2
    go_ret2
    exact ⟨_, rfl, ON.nil _ _ _, Below.refl _ _⟩
  · obtain ⟨y, hy⟩ : ∃ y, l[0]? = some y := ⟨_, List.getElem?_eq_getElem (by omega)⟩
    obtain ⟨g, off, rfl, hg, -⟩ := hr.at_ hy
    have hn2 : 2 ≤ n := by omega
    obtain ⟨k, hk⟩ : ∃ k, splitN n = k := ⟨_, rfl⟩
    have k1 : 1 ≤ k := by rw [← hk]; exact splitN_pos n
    have k2 : k < n := by rw [← hk]; exact splitN_lt n hn2
    obtain ⟨i8, hi8, hz0, hz8, hz9⟩ := info_parts info_name
    have hs1 := fun (W : World) => run_names_to (P := Try.prog) Try.underlying22 hi8 hz8 g off n c k (X := (k : Int)) (Lib.hid rfl) (by omega) (by omega) W
    have hs2 := fun (W : World) => run_names_from (P := Try.prog) Try.underlying22 hi8 hz8 g off n c k (X := (k : Int)) (Lib.hid rfl) (by omega) (by omega) W
    have HI := Lib.hid hi8
    have HZ0 := Lib.hid hz0
    have HZ1 := Lib.hid hz8
    have HZ2 := Lib.hid hz9
    have hr1 : RN w w.heap.size (some ⟨g, off, none⟩) (l.take k) := hr.take k
    have hr2 : RN w w.heap.size (some ⟨g, off + k * 8, none⟩) (l.drop k) := by have := hr.drop k; simpa [add_plain] using this
    have HR1 := Lib.hid hr1
    have HR2 := Lib.hid hr2
    have HL := Lib.hid (pathF_len n l i hn hin)
    have HD := Lib.hid (depthF_le 63 i n (by omega) hin)
    have nb1 : ((n : Int) == 1) = false := by rw [beq_eq_false_iff_ne]; omega
    by_cases hs : i < k
    · have e := pathF_left (l := l) (i := i) (by omega) (by rw [hn, hk]; exact hs)
      rw [hn, hk] at e
      obtain ⟨x2, hx2⟩ : ∃ x2, rootF (l.drop k) = x2 := ⟨_, rfl⟩
      obtain ⟨r1, hr1'⟩ : ∃ r1, pathF (l.take k) i = r1 := ⟨_, rfl⟩
      rw [hx2, hr1', hr0.out] at e
      subst e
      have HX2 := Lib.hid hx2
      have HP1 := Lib.hid hr1'
      have HK := Lib.hid hk
      have HLL : Hid (r1.length + 1 ≤ 63) := Lib.hid (by have h1 := HL.out; have h2 := HD.out; rw [hr0.out] at h1; simp at h1; omega)
      have s0 : (i : Int) < (n : Int) := by omega
      have s1 : (i : Int) < (k : Int) := by omega
      clear hr hr1 hr2 hi8 hz0 hz8 hz9 hx2 hr1' hk hy
      go_enter Try.func12, Try.ntmps12
      go_wp2_with (first
        | (go_at_call 27; refine (rsplit_any _ n rfl hn2 (by omega) _).mono ?_; rintro e w1 ⟨rfl, rfl⟩; rw [HK.out])
        | (go_at_call 12; refine (ih k k2 _ (l.take k) c i _ r1 rfl (by rw [List.length_take]; omega) hs HP1 (by rw [List.length_take]; omega) hm _ HR1.out).mono ?_; rintro e w1 ⟨v1, rfl, ho1, hb1⟩; have hF1 := (Fr.refl w).next hb1)
        | (go_at_call 14; refine (rroot_any (n - k) _ (l.drop k) (c - k) x2 (by rw [List.length_drop]; omega) HX2 (by rw [List.length_drop]; omega) (by omega) _ ((HR2.out.keep hF1.1).mono (by (have := hF1.2; omega)))).mono ?_; rintro e w2 ⟨rfl, hb2⟩; have hF2 := hF1.next hb2; have ho2 := ho1.keep hb2)
        | (at_builtin; refine wpList_append_on rfl (.tmp 36) (.tmp 41) 22 rfl w.heap.size 27 i8 _ Try.underlying22 HI.out HZ0.out rfl HZ1.out HZ2.out _ r1 rfl (ho2.keep ((Below.refl _ _).alloc (Nat.le_refl _) _)) _ ⟨w2.heap.size, 0, none⟩ 1 1 x2 rfl rfl (rn_build w2 27 x2) (by (have := HLL.out; omega)) (by (have := hF2.2; simp; omega)) ?_; intro v3 w3 ho3 hg3 hat3; have hF3 := ((hF2.alloc _).grown hg3 (fun k hk => ho2.own k hk)))
        | fail)
      go_ret2
      exact ⟨_, rfl, ho3, hF3.1⟩
    · have e := pathF_right (l := l) (i := i) (by omega) (by rw [hn, hk]; omega)
      rw [hn, hk] at e
      obtain ⟨x2, hx2⟩ : ∃ x2, rootF (l.take k) = x2 := ⟨_, rfl⟩
      obtain ⟨r1, hr1'⟩ : ∃ r1, pathF (l.drop k) (i - k) = r1 := ⟨_, rfl⟩
      rw [hx2, hr1', hr0.out] at e
      subst e
      have HX2 := Lib.hid hx2
      have HP1 := Lib.hid hr1'
      have HK := Lib.hid hk
      have HLL : Hid (r1.length + 1 ≤ 63) := Lib.hid (by have h1 := HL.out; have h2 := HD.out; rw [hr0.out] at h1; simp at h1; omega)
      have s0 : (i : Int) < (n : Int) := by omega
      have s1 : ¬ (i : Int) < (k : Int) := by omega
      clear hr hr1 hr2 hi8 hz0 hz8 hz9 hx2 hr1' hk hy
      go_enter Try.func12, Try.ntmps12
      go_wp2_with (first
        | (go_at_call 27; refine (rsplit_any _ n rfl hn2 (by omega) _).mono ?_; rintro e w1 ⟨rfl, rfl⟩; rw [HK.out])
        | (go_at_call 12; refine (ih (n - k) (by omega) _ (l.drop k) (c - k) (i - k) _ r1 (by omega) (by rw [List.length_drop]; omega) (by omega) HP1 (by rw [List.length_drop]; omega) (by omega) _ HR2.out).mono ?_; rintro e w1 ⟨v1, rfl, ho1, hb1⟩; have hF1 := (Fr.refl w).next hb1)
        | (go_at_call 14; refine (rroot_any k _ (l.take k) c x2 (by rw [List.length_take]; omega) HX2 (by rw [List.length_take]; omega) (by omega) _ ((HR1.out.keep hF1.1).mono (by (have := hF1.2; omega)))).mono ?_; rintro e w2 ⟨rfl, hb2⟩; have hF2 := hF1.next hb2; have ho2 := ho1.keep hb2)
        | (at_builtin; refine wpList_append_on rfl (.tmp 53) (.tmp 58) 22 rfl w.heap.size 27 i8 _ Try.underlying22 HI.out HZ0.out rfl HZ1.out HZ2.out _ r1 rfl (ho2.keep ((Below.refl _ _).alloc (Nat.le_refl _) _)) _ ⟨w2.heap.size, 0, none⟩ 1 1 x2 rfl rfl (rn_build w2 27 x2) (by (have := HLL.out; omega)) (by (have := hF2.2; simp; omega)) ?_; intro v3 w3 ho3 hg3 hat3; have hF3 := ((hF2.alloc _).grown hg3 (fun k hk => ho2.own k hk)))
        | fail)
      go_ret2
      exact ⟨_, rfl, ho3, hF3.1⟩

theorem rpath_no (A : Option Addr) (n c : Nat) (I : Int) (h : I < 0 ∨ (n : Int) ≤ I) (hI : I64 I) (w : World) :
    Calls Try.prog 12 #[.slice A n c, .int .i64 I] w (RetN w 27 ([], false)) := by
  obtain ⟨h3, h4⟩ := hI
  by_cases h0 : I < 0
  · go_enter Try.func12, Try.ntmps12
    go_wp2
    go_ret2
    exact ⟨_, rfl, ON.nil _ _ _, Below.refl _ _⟩
  · have h5 : (n : Int) ≤ I := by omega
    clear h
    go_enter Try.func12, Try.ntmps12
    go_wp2
    go_ret2
    exact ⟨_, rfl, ON.nil _ _ _, Below.refl _ _⟩
end Go.Proofs.Ytllciohpphngiaa
