/-
  3 texts in one file: Bits, Merk1, Merk2.
-/
import Derived.Lib.Walk
import Derived.Lib.Small
import Derived.Lib.BitFns
import Derived.ArgAppend
import Derived.Test.YtjghengkpbokaaaG2
import Derived.Test.YtjghengkpbokaaaG9

/-
  math/bits.Len of a number above 0 is the number of its highest bit and one; the library's own text is walked.
-/
namespace Go.Proofs.Ytjghengkpbokaaa
open Go.ChangeShapes Go.WideShapes Go.ChangeAt Go.RowKit Go.Fl

theorem log2_up (x b : Nat) (h : 2 ^ b ≤ x) : Nat.log2 x = b + Nat.log2 (x / 2 ^ b) := by
  have hp : 0 < 2 ^ b := Nat.two_pow_pos b
  have h1 : x / 2 ^ b ≠ 0 := by rw [Nat.div_ne_zero_iff]; omega
  have hx : x ≠ 0 := by omega
  have h2 := Nat.log2_self_le h1
  have h3 := @Nat.lt_log2_self (x / 2 ^ b)
  rw [Nat.log2_eq_iff hx]
  refine ⟨?_, ?_⟩
  · rw [Nat.add_comm b, Nat.pow_add]
    exact (Nat.le_div_iff_mul_le hp).1 h2
  · rw [show b + Nat.log2 (x / 2 ^ b) + 1 = (Nat.log2 (x / 2 ^ b) + 1) + b by omega, Nat.pow_add]
    exact (Nat.div_lt_iff_lt_mul hp).1 h3
theorem bits_small : ∀ n : Fin 256, n.val ≠ 0 → Lib.bitLen n.val = Nat.log2 n.val + 1 := by decide +kernel
/-- What the table says of a byte above 0. -/
theorem len8_log (b : Int) (k : Nat) (hb : b = (k : Int)) (h1 : 1 ≤ k) (h2 : k ≤ 255) : Lib.len8 b = (Nat.log2 k : Int) + 1 := by
  subst hb
  rw [Lib.len8_of _ (by omega) (by omega), Int.toNat_natCast, bits_small ⟨k, by omega⟩ (by simp; omega)]
  rfl
theorem log2_le8 (k : Nat) (h1 : 1 ≤ k) (h2 : k ≤ 255) : Nat.log2 k ≤ 7 := by
  have := (Nat.log2_lt (n := k) (k := 8) (by omega)).2 (by omega)
  omega
theorem len8_up (x b : Nat) (Y : Int) (d : Nat) (hd : d = 2 ^ b) (hY : Y = ((x / d : Nat) : Int)) (h1 : d ≤ x) (h2 : x / d ≤ 255) : Lib.len8 Y + (b : Int) = (Nat.log2 x : Int) + 1 ∧ Lib.len8 Y ≤ 8 ∧ 0 ≤ Lib.len8 Y := by
  subst hd
  have hp : 0 < 2 ^ b := Nat.two_pow_pos b
  have h3 : 1 ≤ x / 2 ^ b := (Nat.le_div_iff_mul_le hp).2 (by omega)
  rw [len8_log Y _ hY h3 h2, log2_up x b h1]
  have := log2_le8 _ h3 h2
  omega

/-- The table's byte as it is read. -/
theorem tab_len8 (i : Int) (h : i.toNat < Lib.len8tab.size) : (((Lib.len8tab[i.toNat]'h).toNat : Nat) : Int) = Lib.len8 i := by
  unfold Lib.len8
  rw [ByteArray.getElem?_lt' _ _ h, Option.getD_some]

set_option maxHeartbeats 4000000 in
set_option maxRecDepth 100000 in
theorem len64_int (x : Int) (h0 : 1 ≤ x) (h1 : x ≤ 18446744073709551615) (w : World) :
    Calls Try.prog 87 #[.int .u64 x] w fun e w' => e = .returned (.int .i64 ((Nat.log2 x.toNat : Int) + 1)) ∧ w = w' := by
  have hsize := Lib.len8tab_size
  go_enter Try.func87, Try.ntmps87
  go_wp2
  all_goals first | (exfalso; rw [hsize] at *; omega) | skip
  all_goals (go_ret; refine ⟨congrArg Ending.returned (congrArg (Value.int IntKind.i64) ?_), rfl⟩; rw [tab_len8])
  all_goals first
    | (have h := len8_up x.toNat 56 (x / 4294967296 / 65536 / 256) 72057594037927936 (by decide) (by omega) (by omega) (by omega); unfold wrap64; omega)
    | (have h := len8_up x.toNat 48 (x / 4294967296 / 65536) 281474976710656 (by decide) (by omega) (by omega) (by omega); unfold wrap64; omega)
    | (have h := len8_up x.toNat 40 (x / 4294967296 / 256) 1099511627776 (by decide) (by omega) (by omega) (by omega); unfold wrap64; omega)
    | (have h := len8_up x.toNat 32 (x / 4294967296) 4294967296 (by decide) (by omega) (by omega) (by omega); unfold wrap64; omega)
    | (have h := len8_up x.toNat 24 (x / 65536 / 256) 16777216 (by decide) (by omega) (by omega) (by omega); unfold wrap64; omega)
    | (have h := len8_up x.toNat 16 (x / 65536) 65536 (by decide) (by omega) (by omega) (by omega); unfold wrap64; omega)
    | (have h := len8_up x.toNat 8 (x / 256) 256 (by decide) (by omega) (by omega) (by omega); unfold wrap64; omega)
    | (have h := len8_up x.toNat 0 x 1 (by decide) (by omega) (by omega) (by omega); unfold wrap64; omega)
    | trace_state

/-- math/bits.Len. -/
theorem len_any (x : Int) (k : Nat) (hx : x = (k : Int)) (h0 : 1 ≤ k) (h1 : k ≤ 18446744073709551615) (w : World) :
    Calls Try.prog 81 #[.int .u64 x] w fun e w' => e = .returned (.int .i64 ((Nat.log2 k : Int) + 1)) ∧ w = w' := by
  subst hx
  go_enter Try.func81, Try.ntmps81
  go_wp2_with (go_at_call 87; refine (len64_int (k : Int) (by omega) (by omega) _).mono ?_; rintro e w1 ⟨rfl, rfl⟩; rw [Int.toNat_natCast])
  go_ret
  exact ⟨rfl, rfl⟩
end Go.Proofs.Ytjghengkpbokaaa

/-
  The developers' merkle: split, single, Root, Depth.
-/
namespace Go.Proofs.Ytjghengkpbokaaa
open Go.ChangeShapes Go.WideShapes Go.ChangeAt Go.RowKit Go.Fl

theorem msplit_any (n : Int) (m : Nat) (hn : n = (m : Int)) (h2 : 2 ≤ m) (hm : m ≤ 9223372036854775807) (w : World) :
    Calls Try.prog 73 #[.int .i64 n] w fun e w' => e = .returned (.int .i64 (splitN m)) ∧ w = w' := by
  subst hn
  have hm' : (m : Int) ≤ 9223372036854775807 := by omega
  have h3 : (2 : Int) ≤ (m : Int) := by omega
  obtain ⟨L, hL⟩ : ∃ L, Nat.log2 (m - 1) = L := ⟨_, rfl⟩
  have hL63 : L ≤ 62 := by
    have := (Nat.log2_lt (n := m - 1) (k := 63) (by omega)).2 (by omega)
    omega
  have e : splitN m = 2 ^ L := by rw [← hL]; rfl
  rw [e]
  have HL := Lib.hid hL
  clear e hL
  go_enter Try.func73, Try.ntmps73
  go_wp2_with (go_at_call 81; refine (len_any _ (m - 1) (by omega) (by omega) (by omega) _).mono ?_; rintro e w1 ⟨rfl, rfl⟩; rw [HL.out])
  go_ret
  refine ⟨congrArg Ending.returned (congrArg (Value.int IntKind.i64) ?_), rfl⟩
  have h4 : (2 : Nat) ^ L ≤ 2 ^ 62 := Nat.pow_le_pow_right (by omega) hL63
  have h5 : ((2 : Int) ^ L) = ((2 ^ L : Nat) : Int) := by rw [Int.natCast_pow]; rfl
  unfold wrap64
  rw [h5]
  clear h5
  generalize (2 : Nat) ^ L = p at h4 ⊢
  omega

theorem msingle_any (x y : BitVec 64) (hy : Hid (leafF x = y)) (w : World) :
    Calls Try.prog 79 #[nm x] w fun e w' => e = .returned (nm y) ∧ Below w.heap.size w w' := by
  obtain ⟨hl, hz, hF, hW⟩ := folW_facts w x
  have hb := is_rb (n := (folW w x).heap.size) hl hl.lt
  have hy2 : Hid (sumF (17 :: nmL x) = y) := hy
  go_enter Try.func79, Try.ntmps79
  go_wp2_with fail
  refine (tagged_n 17 _ (nmL x) _ _ rfl hy2 (by simp [nmL_len]) (by omega) (folW w x) hb).mono ?_
  rintro e w1 ⟨rfl, hb1⟩
  have hF1 := hF.next hb1
  have hz1 := hz.next hb1
  go_wp2_with (refine wpList_store_is rfl 30 (.tmp 2) (.tmp 4) rfl (w.heap.size + 1) 30 _ (nmC _) rfl rfl hz1 (nmC_size _) name_info (nmC_one _) ?_; intro w6 hz7 hb6)
  exact ret_is rfl (w.heap.size + 1) 30 _ rfl hz7 Try.underlying30 rfl name_info rfl ⟨rfl, hF1.1.trans (hb6.mono (by omega))⟩

set_option maxRecDepth 10000 in
set_option maxHeartbeats 1000000 in
theorem mroot_any : ∀ (n : Nat) (A : Option Addr) (l : List (BitVec 64)) (c : Nat) (x : BitVec 64), l.length = n → Hid (rootF l = x) → l.length ≤ c → c ≤ 9223372036854775807 → ∀ w : World, RN w w.heap.size A l →
    Calls Try.prog 72 #[.slice A n c] w fun e w' => e = .returned (nm x) ∧ Below w.heap.size w w' := by
  intro n
  induction n using Nat.strongRecOn with
  | _ n ih =>
  intro A l c x hn hx hc hm w hr
  have hz := Is.new w 30 #[B 0, B 0, B 0, B 0, B 0, B 0, B 0, B 0]
  have hF := (Fr.refl w).alloc (.cells #[B 0, B 0, B 0, B 0, B 0, B 0, B 0, B 0] 30)
  have HR := Lib.hid hr
  by_cases h0 : n = 0
  · subst h0
    have hl : l = [] := List.eq_nil_of_length_eq_zero hn
    subst hl
    rw [rootF_nil] at hx
    go_enter Try.func72, Try.ntmps72
    go_wp2_with fail
    refine (tagged_n 16 none [] 0 0 rfl hx (by simp) (by simp) _ (RB.nil _ _ _)).mono ?_
    rintro e w1 ⟨rfl, hb1⟩
    have hF1 := hF.next hb1
    have hz1 := hz.next hb1
    go_wp2_with (refine wpList_store_is rfl 30 (.tmp 2) (.tmp 8) rfl w.heap.size 30 _ (nmC _) rfl rfl hz1 (nmC_size _) name_info (nmC_one _) ?_; intro w6 hz7 hb6)
    exact ret_is rfl w.heap.size 30 _ rfl hz7 Try.underlying30 rfl name_info rfl ⟨rfl, hF1.1.trans hb6⟩
  · obtain ⟨y, hy⟩ : ∃ y, l[0]? = some y := ⟨_, List.getElem?_eq_getElem (by omega)⟩
    obtain ⟨g, off, rfl, hg, -⟩ := hr.at_ hy
    by_cases h1 : n = 1
    · subst h1
      have hl : l = [y] := by
        obtain ⟨z, rfl⟩ := List.length_eq_one_iff.1 hn
        simp at hy
        rw [hy]
      subst hl
      rw [rootF_one] at hx
      have HR0 := Lib.hid (rn_range hr rfl hy)
      rw [Nat.zero_mul, Nat.add_zero] at HR0
      clear hr
      go_enter Try.func72, Try.ntmps72
      go_wp2_with (first
        | (refine wpList_load_mid rfl 30 (.tmp 12) rfl g off (by rfl) (nmR y) _ (range_keep HR0.out hF.1 hg) Try.underlying30 rfl name_info ?_)
        | (go_at_call 79; refine (msingle_any y x hx _).mono ?_; rintro e w1 ⟨rfl, hb1⟩; have hF1 := hF.next hb1; have hz1 := hz.next hb1)
        | (refine wpList_store_is rfl 30 (.tmp 2) (.tmp 14) rfl w.heap.size 30 _ (nmC _) rfl rfl hz1 (nmC_size _) name_info (nmC_one _) ?_; intro w6 hz7 hb6))
      exact ret_is rfl w.heap.size 30 _ rfl hz7 Try.underlying30 rfl name_info rfl ⟨rfl, hF1.1.trans hb6⟩
    · have hn2 : 2 ≤ n := by omega
      obtain ⟨k, hk⟩ : ∃ k, splitN n = k := ⟨_, rfl⟩
      have k1 : 1 ≤ k := by rw [← hk]; exact splitN_pos n
      have k2 : k < n := by rw [← hk]; exact splitN_lt n hn2
      have e := rootF_two (l := l) (by omega)
      rw [hn, hk] at e
      obtain ⟨x1, hx1⟩ : ∃ x1, rootF (l.take k) = x1 := ⟨_, rfl⟩
      obtain ⟨x2, hx2⟩ : ∃ x2, rootF (l.drop k) = x2 := ⟨_, rfl⟩
      rw [hx1, hx2] at e
      have HX1 := Lib.hid hx1
      have HX2 := Lib.hid hx2
      have HXP : Hid (sumF (18 :: (nmL x1 ++ nmL x2)) = x) := Lib.hid (by rw [← hx.out, e]; rfl)
      have HK := Lib.hid hk
      obtain ⟨i0, hi, _, hz8, _⟩ := info_parts info_name
      have hs1 := fun (W : World) => run_names_to (P := Try.prog) Try.underlying48 hi hz8 g off n c k (X := (k : Int)) (Lib.hid rfl) (by omega) (by omega) W
      have hs2 := fun (W : World) => run_names_from (P := Try.prog) Try.underlying48 hi hz8 g off n c k (X := (k : Int)) (Lib.hid rfl) (by omega) (by omega) W
      have hr1 : RN w w.heap.size (some ⟨g, off, none⟩) (l.take k) := hr.take k
      have hr2 : RN w w.heap.size (some ⟨g, off + k * 8, none⟩) (l.drop k) := by have := hr.drop k; simpa [add_plain] using this
      have HR1 := Lib.hid hr1
      have HR2 := Lib.hid hr2
      have nb0 : ((n : Int) == 0) = false := by rw [beq_eq_false_iff_ne]; omega
      have nb1 : ((n : Int) == 1) = false := by rw [beq_eq_false_iff_ne]; omega
      clear hr hr1 hr2 hx hi hz8 hx1 hx2 e hk hy
      go_enter Try.func72, Try.ntmps72
      go_wp2_with (first
        | (go_at_call 73; refine (msplit_any _ n rfl hn2 (by omega) _).mono ?_; rintro e w1 ⟨rfl, rfl⟩; rw [HK.out])
        | fail)
      refine wp_region_held_drew (S := fun _ => True) (by kernel_rfl) trivial (fun _ => ?_)
      refine held_pure 0 18 (.slice (some ⟨g, off, none⟩) n c) rfl (fun _ => rfl) trivial ?_
      refine held_pure 1 19 (.int .i64 k) rfl (fun _ => rfl) trivial ?_
      refine held_pure 2 20 (.slice (some ⟨g, off, none⟩) k c) rfl (fun W => by go_simp) trivial ?_
      refine held_pure 4 22 (.slice (some ⟨g, off, none⟩) n c) rfl (fun _ => rfl) trivial ?_
      refine held_pure 5 23 (.int .i64 k) rfl (fun _ => rfl) trivial ?_
      refine held_pure 6 24 (.slice (some ⟨g, off + k * 8, none⟩) (n - k) (c - k)) rfl (fun W => by go_simp) trivial ?_
      try simp only [Act.put, List.setIfInBounds_toArray, List.set_cons_zero, List.set_cons_succ]
      refine held_one (i := 3) (by kernel_rfl) rfl (by rfl) (fun K hK => ?_)
      go_wp2_with fail
      refine (ih k k2 _ (l.take k) c x1 (by rw [List.length_take]; omega) HX1 (by rw [List.length_take]; omega) hm _ ((HR1.out.keep hF.drew.1).mono (by have := hF.drew.2; omega))).mono ?_
      rintro e w1 ⟨rfl, hb1⟩
      have hF1 := hF.drew.next hb1
      have hz1 := hz.drew.next hb1
      go_wp2_with fail
      refine hK.out _ _ trivial (fun _ => ?_)
      clear hK K
      refine held_one (i := 7) (by kernel_rfl) rfl (by rfl) (fun K hK => ?_)
      go_wp2_with fail
      refine (ih (n - k) (by omega) _ (l.drop k) (c - k) x2 (by rw [List.length_drop]; omega) HX2 (by rw [List.length_drop]; omega) (by omega) _ ((HR2.out.keep hF1.1).mono (by have := hF1.2; omega))).mono ?_
      rintro e w2 ⟨rfl, hb2⟩
      have hF2 := hF1.next hb2
      have hz2 := hz1.next hb2
      go_wp2_with fail
      refine hK.out _ _ trivial (fun _ => ?_)
      clear hK K
      refine held_one (i := 8) (by kernel_rfl) rfl (by rfl) (fun K hK => ?_)
      go_wp2_with fail
      refine (pair_any 18 x1 x2 HXP _).mono ?_
      rintro e w3 ⟨rfl, hb3⟩
      have hF3 := hF2.next hb3
      have hz3 := hz2.next hb3
      go_wp2_with fail
      refine hK.out _ _ trivial (fun _ => ?_)
      clear hK K
      refine held_one (i := 9) (by kernel_rfl) rfl (by rfl) (fun K hK => ?_)
      refine oper_store_is 30 (.tmp 2) (.tmp 26) rfl w.heap.size 30 _ (nmC x) rfl rfl hz3 (nmC_size _) name_info (nmC_one _) ?_
      intro w4 hz4 hb4 _
      refine hK.out _ _ trivial (fun _ => wpAnyH_done (by kernel_rfl) ?_ _)
      clear hK K
      go_wp2_with fail
      exact ret_is rfl w.heap.size 30 _ rfl hz4 Try.underlying30 rfl name_info rfl ⟨rfl, hF3.1.trans hb4⟩

set_option maxRecDepth 10000 in
set_option maxHeartbeats 1000000 in
theorem mdepth_any (i n : Int) (hi : I64 i) (hn : I64 n) (w : World) :
    Calls Try.prog 69 #[.int .i64 i, .int .i64 n] w fun e w' => e = .returned (.int .i64 (depthI i n)) ∧ w = w' := by
  obtain ⟨hi1, hi2⟩ := hi
  obtain ⟨hn1, hn2⟩ := hn
  by_cases h0 : i < 0
  · have e : depthI i n = -1 := by unfold depthI; rw [if_neg (by omega)]
    rw [e]
    go_enter Try.func69, Try.ntmps69
    go_wp2
    go_ret
    exact ⟨rfl, rfl⟩
  · by_cases h1 : n ≤ i
    · have e : depthI i n = -1 := by unfold depthI; rw [if_neg (by omega)]
      rw [e]
      go_enter Try.func69, Try.ntmps69
      go_wp2
      go_ret
      exact ⟨rfl, rfl⟩
    · obtain ⟨a, rfl⟩ : ∃ q : Nat, i = (q : Int) := ⟨i.toNat, by omega⟩
      obtain ⟨b, rfl⟩ : ∃ q : Nat, n = (q : Int) := ⟨n.toNat, by omega⟩
      obtain ⟨D, hD⟩ : ∃ D, depthF a b = D := ⟨_, rfl⟩
      have e : depthI a b = (D : Int) := by unfold depthI; rw [if_pos (by omega), Int.toNat_natCast, Int.toNat_natCast, hD]
      have hD2 : D ≤ 63 := by rw [← hD]; exact depthF_le 63 a b (by omega) (by omega)
      have HD := Lib.hid hD
      rw [e]
      clear e hD
      go_enter Try.func69, Try.ntmps69
      go_wp2
      go_loop [0, 1, 5] (fun i n d => ∃ i' n' d' : Nat, i = .int .i64 i' ∧ n = .int .i64 n' ∧ d = .int .i64 d' ∧ i' < n' ∧ n' ≤ b ∧ Hid (d' + depthF i' n' = D)) (fun _ n _ => (intOf n).toNat)
      case atStart => exact ⟨a, b, 0, rfl, rfl, rfl, by omega, Nat.le_refl _, Lib.hid (by rw [HD.out]; omega)⟩
      case round =>
        obtain ⟨i', n', d', rfl, rfl, rfl, hlt, hle, hd⟩ := hrel
        by_cases hn1 : n' ≤ 1
        · have ed : d' = D := by have := hd.out; rw [depthF_one hn1] at this; omega
          subst ed
          go_wp2
          go_ret
          exact ⟨rfl, rfl⟩
        · obtain ⟨k, hk⟩ : ∃ k, splitN n' = k := ⟨_, rfl⟩
          have k1 : 1 ≤ k := by rw [← hk]; exact splitN_pos n'
          have k2 : k < n' := by rw [← hk]; exact splitN_lt n' (by omega)
          have HK := Lib.hid hk
          by_cases hs : i' < k
          · have ed : d' + (depthF i' k + 1) = D := by have := hd.out; rw [depthF_left (by omega) (by rw [hk]; exact hs), hk] at this; exact this
            have ed2 : d' + 1 ≤ 63 := by omega
            have ED := Lib.hid ed
            clear ed hk
            go_wp2_with (first
              | (go_at_call 73; refine (msplit_any _ n' rfl (by omega) (by omega) _).mono ?_; rintro e w1 ⟨rfl, rfl⟩; rw [HK.out])
              | fail)
            go_round
            case rel => exact ⟨i', k, d' + 1, rfl, rfl, by go_num, hs, by omega, Lib.hid (by have := ED.out; omega)⟩
            case measure => simp [intOf]; omega
          · have ed : d' + (depthF (i' - k) (n' - k) + 1) = D := by have := hd.out; rw [depthF_right (by omega) (by rw [hk]; omega), hk] at this; exact this
            have ed2 : d' + 1 ≤ 63 := by omega
            have ED := Lib.hid ed
            clear ed hk
            go_wp2_with (first
              | (go_at_call 73; refine (msplit_any _ n' rfl (by omega) (by omega) _).mono ?_; rintro e w1 ⟨rfl, rfl⟩; rw [HK.out])
              | fail)
            go_round
            case rel => exact ⟨i' - k, n' - k, d' + 1, by go_num, by go_num, by go_num, by omega, by omega, Lib.hid (by have := ED.out; omega)⟩
            case measure => simp [intOf]; omega

end Go.Proofs.Ytjghengkpbokaaa

/-
  The developers' merkle: extend, grow, Path.
-/
namespace Go.Fl
open Go.ChangeShapes Go.WideShapes Go.ChangeAt Go.RowKit
variable {P : Program} {w : World} {Q : Exit → Act → World → Prop} {a : Act}

/-- x[:n:n] of a slice of n elements. -/
theorem run_slice_full {ts te : TypeId} {i : TypeInfo} (hs : P.underlying ts = some (.slice te)) (hi : P.info? te = some i) (A : Option Addr) (n c : Nat) (N : Int) (hN : N = (n : Int)) (hc : n ≤ c) (W : World) :
    (Instr.slice ts (.slice A n c) none (some (.int .i64 N)) (some (.int .i64 N))).run P W = .ok (.slice A n n) W := by
  subst hN
  have h3 : (n : Int) ≤ (c : Int) := by omega
  simp [Instr.slice, run_underlying hs, Instr.sliceBounds, Instr.sliceBound, asIntOf, sizeOf, typeInfo, hi]
  cases A <;> simp [hc, Addr.add]

theorem rn_news {n : Nat} {A : Option Addr} {l : List (BitVec 64)} (h : RN w n A l) : ∀ b, A = some b → ∀ j u, (nsC l)[j]? = some u → w.cell? (b.add j) = some u := fun b hb j u hu => by
  subst hb
  have hj : j < l.length * 8 := by have := (List.getElem?_eq_some_iff.1 hu).1; rwa [nsC_len] at this
  obtain ⟨g, off, e1, _, hc⟩ := h (by omega)
  injection e1 with e1
  subst e1
  obtain ⟨y, hy⟩ : ∃ y, l[j / 8]? = some y := ⟨_, List.getElem?_eq_getElem (by omega)⟩
  have h1 := nsC_get l (j / 8) y hy (j % 8) (by omega)
  have h2 := hc (j / 8) y hy (j % 8) (by omega)
  have e2 : j / 8 * 8 + j % 8 = j := by omega
  rw [e2, hu] at h1
  rw [add_plain]
  have e3 : off + j / 8 * 8 + j % 8 = off + j := by omega
  rw [e3] at h2
  rw [h2, ← h1]

/-- append of one name that lies in a new block, onto names without room: new memory. -/
theorem oper_append_full {o : Oper} {K : Act → World → Prop} (d : Nat) (s x : Operand) (t : TypeId)
    (ho : o.op = .call { callee := .builtin .append, args := #[s, x], argTypes := #[t, t] })
    (e : TypeId) (i : TypeInfo) (z : Value) (ht : P.underlying t = some (.slice e)) (hi : P.info? e = some i) (hz : i.zero = some z) (hzs : z.cells.size = 8) (hs : i.size = 8) (hb : i.bytes = 8)
    (A : Option Addr) (m : Nat) (l : List (BitVec 64)) (hm : m = l.length) (hv : a.eval s = .slice A m m) (n : Nat) (h : RN w n A l) (y : BitVec 64) (g : Nat) (te : TypeId) (hx : a.eval x = .slice (some ⟨g, 0, none⟩) 1 1) (hy : Is w g te (nmC y)) (hm2 : l.length + 1 ≤ 1000)
    (hK : ∀ v' w', ON w' w.heap.size e v' (l ++ [y]) → w.grownBy w' none → K (a.put (some d) v') w') (hd : o.dst = some d := by rfl) : Oper.wp P o a w K Q := by
  subst hm
  have hnews : ∀ j u, ((nmL y).map B)[j]? = some u → w.cell? ((⟨g, 0, none⟩ : Addr).add j) = some u := fun j u hj => by
    rw [add_plain, hy.cell, Nat.zero_add]
    exact nmC_list y j u hj
  have hrun : ∃ v' w', (Builtin.append_ #[t, t] o.type #[.slice A l.length l.length, .slice (some ⟨g, 0, none⟩) 1 1]).run P w = .ok v' w' ∧ w'.ownsRow w.heap.size e 8 v' (l.length + 1) (nsC l ++ (nmL y).map B) ∧ w.grownBy w' none := by
    cases A with
    | none =>
      obtain rfl := rn_none h
      obtain ⟨v', w', hr, h2, h3, _, _⟩ := run_append_own_at (P := P) w w.heap.size t o.type e i z 8 8 ht hi hz hs hb hzs (by omega) (.slice none 0 0) 0 [] ⟨rfl, .inl ⟨rfl, rfl⟩⟩ ⟨g, 0, none⟩ 1 1 ((nmL y).map B) (by rw [List.length_map, nmL_len]) hnews (bytes_one _) (by simp only [maxLen]; omega) (by omega) (Nat.le_refl _)
      exact ⟨v', w', hr, h2, h3⟩
    | some b =>
      exact run_append_arg_grows (P := P) w t o.type e i z 8 8 ht hi hz hs hb hzs (by omega) b l.length l.length (nsC l) (nsC_len l) (rn_news h b rfl) ⟨g, 0, none⟩ 1 1 ((nmL y).map B) (by rw [List.length_map, nmL_len]) hnews (by omega) (by simp only [maxLen]; omega) (by omega)
  obtain ⟨v', w', hr, h2, h3⟩ := hrun
  unfold Oper.wp execOp
  simp only [ho, resolve, invoke, builtin, Sem.run_bind, Sem.run_pure, Result.andThen_ok, List.map_toArray, List.map_cons, List.map_nil, hv, hx, hr]
  have hfin : K (a.put o.dst v') w' := by
    rw [hd]
    refine hK _ _ ?_ h3
    have e2 : nsC (l ++ [y]) = nsC l ++ (nmL y).map B := by rw [nsC_append]; simp [nsC]
    unfold ON
    rw [e2, List.length_append]
    exact h2
  exact hfin
end Go.Fl
namespace Go.Proofs.Ytjghengkpbokaaa
open Go.ChangeShapes Go.WideShapes Go.ChangeAt Go.RowKit Go.Fl

theorem mextend_any (A : Option Addr) (m c : Nat) (l : List (BitVec 64)) (x : BitVec 64) (hm : m = l.length) (hc : m ≤ c) (hl : l.length + 1 ≤ 1000) (w : World) (h : RN w w.heap.size A l) :
    Calls Try.prog 74 #[.slice A m c, nm x] w fun e w' => ∃ v, e = .returned v ∧ ON w' w.heap.size 30 v (l ++ [x]) ∧ Below w.heap.size w w' := by
  obtain ⟨i8, hi8, hz0, hz8, hz9⟩ := info_parts info_name
  have hb := Is.new w 30 (nmC x)
  have hF := (Fr.refl w).alloc (.cells (nmC x) 30)
  have H := Lib.hid h
  have HI := Lib.hid hi8
  have HZ0 := Lib.hid hz0
  have HZ1 := Lib.hid hz8
  have HZ2 := Lib.hid hz9
  have hs3 := fun (W : World) => run_slice_full (P := Try.prog) Try.underlying48 hi8 A m c (m : Int) rfl hc W
  have HM := Lib.hid hm
  clear h hi8 hz0 hz8 hz9 hm hc
  go_enter Try.func74, Try.ntmps74
  go_wp2_with fail
  refine wp_region_held_drew (S := fun w' => Is w' w.heap.size 30 (nmC x)) (by kernel_rfl) hb.drew (fun hHeld => ?_)
  refine held_pure 0 5 (.slice A m c) rfl (fun _ => rfl) hHeld ?_
  try simp only [Act.put, List.setIfInBounds_toArray, List.set_cons_zero, List.set_cons_succ]
  refine held_pure 1 6 (.slice A m c) rfl (fun _ => rfl) hHeld ?_
  try simp only [Act.put, List.setIfInBounds_toArray, List.set_cons_zero, List.set_cons_succ]
  refine held_pure 2 7 (.int .i64 (m : Int)) rfl (fun W => by go_simp) hHeld ?_
  try simp only [Act.put, List.setIfInBounds_toArray, List.set_cons_zero, List.set_cons_succ]
  refine held_pure 3 8 (.slice A m c) rfl (fun _ => rfl) hHeld ?_
  try simp only [Act.put, List.setIfInBounds_toArray, List.set_cons_zero, List.set_cons_succ]
  refine held_pure 4 9 (.int .i64 (m : Int)) rfl (fun W => by go_simp) hHeld ?_
  try simp only [Act.put, List.setIfInBounds_toArray, List.set_cons_zero, List.set_cons_succ]
  refine held_pure 5 10 (.slice A m m) rfl (fun W => by go_simp) hHeld ?_
  try simp only [Act.put, List.setIfInBounds_toArray, List.set_cons_zero, List.set_cons_succ]
  refine held_load 6 11 rfl 30 (.tmp 3) rfl w.heap.size 0 rfl (nmR x) (fun w' h => range_is (cs := (nmR x)) h) Try.underlying30 name_info hHeld ?_
  try simp only [Act.put, List.setIfInBounds_toArray, List.set_cons_zero, List.set_cons_succ]
  refine held_one (i := 7) (by kernel_rfl) rfl (by rfl) (fun K hK => ?_)
  go_wp2_with fail
  have hb1 := (hb.old (.cells (nmC x) 30)).drew
  have hF1 := (hF.alloc (.cells (nmC x) 30)).drew
  have hN := Is.newAt (w.alloc (.cells (nmC x) 30)) 30 (nmC x) (g := w.heap.size + 1) (by simp)
  refine hK.out _ _ hb1 (fun _ => ?_)
  clear hK K
  try simp only [Act.put, List.setIfInBounds_toArray, List.set_cons_zero, List.set_cons_succ]
  refine held_one (i := 8) (by kernel_rfl) rfl (by rfl) (fun K hK => ?_)
  refine oper_append_full 13 (.tmp 10) (.tmp 12) 48 rfl 30 i8 _ Try.underlying48 HI.out HZ0.out rfl HZ1.out HZ2.out A m l HM.out rfl _ ((H.out.keep hF1.1).mono hF1.1.size) x _ _ rfl hN.drew hl ?_
  intro v w3 ho3 hg3
  have hF3 := hF1.grown hg3 (fun k hk => by cases hk)
  have ho4 := on_base ho3 hF1.1.size
  refine hK.out _ _ (hb1.grown hg3 (fun k hk => by cases hk)) (fun hHeld2 => ?_)
  clear hK K
  try simp only [Act.put, List.setIfInBounds_toArray, List.set_cons_zero, List.set_cons_succ]
  refine held_pure 9 4 v rfl (fun _ => rfl) hHeld2 ?_
  refine wpAnyH_done (by kernel_rfl) ?_ _
  try simp only [Act.put, List.setIfInBounds_toArray, List.set_cons_zero, List.set_cons_succ]
  go_wp2_with fail
  go_ret
  exact ⟨_, rfl, ho4, hF3.1⟩
set_option maxRecDepth 10000 in
set_option maxHeartbeats 1000000 in
theorem mgrow_any : ∀ (n : Nat) (A : Option Addr) (l : List (BitVec 64)) (c i : Nat) (I : Int) (r : List (BitVec 64)), I = (i : Int) → l.length = n → i < n → Hid (pathF l i = r) → l.length ≤ c → c ≤ 9223372036854775807 → ∀ w : World, RN w w.heap.size A l →
    Calls Try.prog 62 #[.slice A n c, .int .i64 I] w fun e w' => ∃ v, e = .returned v ∧ ON w' w.heap.size 30 v r ∧ Below w.heap.size w w' := by
  intro n
  induction n using Nat.strongRecOn with
  | _ n ih =>
  intro A l c i I r hI hn hin hr0 hc hm w hr
  subst hI
  by_cases h1 : n = 1
  · subst h1
    have er : r = [] := by rw [← hr0.out, pathF_one (by omega)]
    subst er
    obtain rfl : i = 0 := by omega
    go_enter Try.func62, Try.ntmps62
    go_wp2
    go_ret
    exact ⟨_, rfl, ON.nil _ _ _, Below.refl _ _⟩
  · obtain ⟨y, hy⟩ : ∃ y, l[0]? = some y := ⟨_, List.getElem?_eq_getElem (by omega)⟩
    obtain ⟨g, off, rfl, hg, -⟩ := hr.at_ hy
    have hn2 : 2 ≤ n := by omega
    obtain ⟨k, hk⟩ : ∃ k, splitN n = k := ⟨_, rfl⟩
    have k1 : 1 ≤ k := by rw [← hk]; exact splitN_pos n
    have k2 : k < n := by rw [← hk]; exact splitN_lt n hn2
    obtain ⟨i8, hi8, -, hz8, -⟩ := info_parts info_name
    have hs1 := fun (W : World) => run_names_to (P := Try.prog) Try.underlying48 hi8 hz8 g off n c k (X := (k : Int)) (Lib.hid rfl) (by omega) (by omega) W
    have hs2 := fun (W : World) => run_names_from (P := Try.prog) Try.underlying48 hi8 hz8 g off n c k (X := (k : Int)) (Lib.hid rfl) (by omega) (by omega) W
    have hr1 : RN w w.heap.size (some ⟨g, off, none⟩) (l.take k) := hr.take k
    have hr2 : RN w w.heap.size (some ⟨g, off + k * 8, none⟩) (l.drop k) := by have := hr.drop k; simpa [add_plain] using this
    have HR1 := Lib.hid hr1
    have HR2 := Lib.hid hr2
    have HL := Lib.hid (pathF_len n l i hn hin)
    have HD := Lib.hid (depthF_le 63 i n (by omega) hin)
    have nb1 : ((n : Int) == 1) = false := by rw [beq_eq_false_iff_ne]; omega
    by_cases hs : i < k
    · have e := pathF_left (l := l) (i := i) (by omega) (by rw [hn, hk]; exact hs)
      rw [hn, hk] at e
      obtain ⟨x2, hx2⟩ : ∃ x2, rootF (l.drop k) = x2 := ⟨_, rfl⟩
      obtain ⟨r1, hr1'⟩ : ∃ r1, pathF (l.take k) i = r1 := ⟨_, rfl⟩
      rw [hx2, hr1', hr0.out] at e
      subst e
      have HX2 := Lib.hid hx2
      have HP1 := Lib.hid hr1'
      have HK := Lib.hid hk
      have HLL : Hid (r1.length + 1 ≤ 63) := Lib.hid (by have h1 := HL.out; have h2 := HD.out; rw [hr0.out] at h1; simp at h1; omega)
      have s1 : (i : Int) < (k : Int) := by omega
      clear hr hr1 hr2 hi8 hz8 hx2 hr1' hk hy
      go_enter Try.func62, Try.ntmps62
      go_wp2_with (go_at_call 73; refine (msplit_any _ n rfl hn2 (by omega) _).mono ?_; rintro e w1 ⟨rfl, rfl⟩; rw [HK.out])
      refine wp_region_held_drew (S := fun _ => True) (by kernel_rfl) trivial (fun _ => ?_)
      refine held_pure 0 15 (.slice (some ⟨g, off, none⟩) n c) rfl (fun W => by rfl) trivial ?_
      try simp only [Act.put, List.setIfInBounds_toArray, List.set_cons_zero, List.set_cons_succ]
      refine held_pure 1 16 (.int .i64 (k : Int)) rfl (fun W => by rfl) trivial ?_
      try simp only [Act.put, List.setIfInBounds_toArray, List.set_cons_zero, List.set_cons_succ]
      refine held_pure 2 17 (.slice (some ⟨g, off, none⟩) k c) rfl (fun W => by go_simp) trivial ?_
      try simp only [Act.put, List.setIfInBounds_toArray, List.set_cons_zero, List.set_cons_succ]
      refine held_pure 3 18 (.int .i64 (i : Int)) rfl (fun W => by rfl) trivial ?_
      try simp only [Act.put, List.setIfInBounds_toArray, List.set_cons_zero, List.set_cons_succ]
      refine held_pure 5 20 (.slice (some ⟨g, off, none⟩) n c) rfl (fun W => by rfl) trivial ?_
      try simp only [Act.put, List.setIfInBounds_toArray, List.set_cons_zero, List.set_cons_succ]
      refine held_pure 6 21 (.int .i64 (k : Int)) rfl (fun W => by rfl) trivial ?_
      try simp only [Act.put, List.setIfInBounds_toArray, List.set_cons_zero, List.set_cons_succ]
      refine held_pure 7 22 (.slice (some ⟨g, off + k * 8, none⟩) (n - k) (c - k)) rfl (fun W => by go_simp) trivial ?_
      try simp only [Act.put, List.setIfInBounds_toArray, List.set_cons_zero, List.set_cons_succ]
      refine held_one (i := 4) (by kernel_rfl) rfl (by rfl) (fun K hK => ?_)
      go_wp2_with fail
      refine (ih k k2 _ (l.take k) c i _ r1 rfl (by rw [List.length_take]; omega) hs HP1 (by rw [List.length_take]; omega) hm w.drew HR1.out).mono ?_
      rintro e w1 ⟨v1, rfl, ho1, hb1⟩
      have hF1 : Fr w 0 w1 := (Fr.refl w).drew.next hb1
      obtain ⟨A1, n1, c1, rfl, hn1, hc1, hm1, hr1⟩ := ON.form_n ho1
      go_wp2_with fail
      refine hK.out _ _ trivial (fun _ => ?_)
      clear hK K
      try simp only [Act.put, List.setIfInBounds_toArray, List.set_cons_zero, List.set_cons_succ]
      refine held_one (i := 8) (by kernel_rfl) rfl (by rfl) (fun K hK => ?_)
      go_wp2_with fail
      refine (mroot_any (n - k) _ (l.drop k) (c - k) x2 (by rw [List.length_drop]; omega) HX2 (by rw [List.length_drop]; omega) (by omega) _ ((HR2.out.keep hF1.1).mono hF1.1.size)).mono ?_
      rintro e w2 ⟨rfl, hb2⟩
      have hF2 := hF1.next hb2
      have hr12 := RN.next hr1 hb2
      go_wp2_with fail
      refine hK.out _ _ trivial (fun _ => ?_)
      clear hK K
      try simp only [Act.put, List.setIfInBounds_toArray, List.set_cons_zero, List.set_cons_succ]
      refine held_one (i := 9) (by kernel_rfl) rfl (by rfl) (fun K hK => ?_)
      go_wp2_with fail
      refine (mextend_any A1 n1 c1 r1 x2 hn1.out (by rw [hn1.out]; exact hc1) (by have := HLL.out; omega) _ hr12.out).mono ?_
      rintro e w3 ⟨v3, rfl, ho3, hb3⟩
      have hF3 := hF2.next hb3
      have ho4 := on_base ho3 hF2.1.size
      go_wp2_with fail
      refine hK.out _ _ trivial (fun _ => ?_)
      clear hK K
      try simp only [Act.put, List.setIfInBounds_toArray, List.set_cons_zero, List.set_cons_succ]
      refine held_pure 10 4 v3 rfl (fun _ => rfl) trivial ?_
      refine wpAnyH_done (by kernel_rfl) ?_ _
      try simp only [Act.put, List.setIfInBounds_toArray, List.set_cons_zero, List.set_cons_succ]
      go_wp2_with fail
      go_ret
      exact ⟨_, rfl, ho4, hF3.1⟩
    · have e := pathF_right (l := l) (i := i) (by omega) (by rw [hn, hk]; omega)
      rw [hn, hk] at e
      obtain ⟨x2, hx2⟩ : ∃ x2, rootF (l.take k) = x2 := ⟨_, rfl⟩
      obtain ⟨r1, hr1'⟩ : ∃ r1, pathF (l.drop k) (i - k) = r1 := ⟨_, rfl⟩
      rw [hx2, hr1', hr0.out] at e
      subst e
      have HX2 := Lib.hid hx2
      have HP1 := Lib.hid hr1'
      have HK := Lib.hid hk
      have HLL : Hid (r1.length + 1 ≤ 63) := Lib.hid (by have h1 := HL.out; have h2 := HD.out; rw [hr0.out] at h1; simp at h1; omega)
      have s1 : ¬ (i : Int) < (k : Int) := by omega
      have hw1 : IntKind.i64.wrap ((i : Int) - (k : Int)) = (i : Int) - (k : Int) := by rw [IntKind.wrap_i64]; omega
      clear hr hr1 hr2 hi8 hz8 hx2 hr1' hk hy
      go_enter Try.func62, Try.ntmps62
      go_wp2_with (go_at_call 73; refine (msplit_any _ n rfl hn2 (by omega) _).mono ?_; rintro e w1 ⟨rfl, rfl⟩; rw [HK.out])
      refine wp_region_held_drew (S := fun _ => True) (by kernel_rfl) trivial (fun _ => ?_)
      refine held_pure 0 25 (.slice (some ⟨g, off, none⟩) n c) rfl (fun W => by rfl) trivial ?_
      try simp only [Act.put, List.setIfInBounds_toArray, List.set_cons_zero, List.set_cons_succ]
      refine held_pure 1 26 (.int .i64 (k : Int)) rfl (fun W => by rfl) trivial ?_
      try simp only [Act.put, List.setIfInBounds_toArray, List.set_cons_zero, List.set_cons_succ]
      refine held_pure 2 27 (.slice (some ⟨g, off + k * 8, none⟩) (n - k) (c - k)) rfl (fun W => by go_simp) trivial ?_
      try simp only [Act.put, List.setIfInBounds_toArray, List.set_cons_zero, List.set_cons_succ]
      refine held_pure 3 28 (.int .i64 (i : Int)) rfl (fun W => by rfl) trivial ?_
      try simp only [Act.put, List.setIfInBounds_toArray, List.set_cons_zero, List.set_cons_succ]
      refine held_pure 4 29 (.int .i64 (k : Int)) rfl (fun W => by rfl) trivial ?_
      try simp only [Act.put, List.setIfInBounds_toArray, List.set_cons_zero, List.set_cons_succ]
      refine held_pure 5 30 (.int .i64 ((i : Int) - (k : Int))) rfl (fun W => by go_simp) trivial ?_
      try simp only [Act.put, List.setIfInBounds_toArray, List.set_cons_zero, List.set_cons_succ]
      refine held_pure 7 32 (.slice (some ⟨g, off, none⟩) n c) rfl (fun W => by rfl) trivial ?_
      try simp only [Act.put, List.setIfInBounds_toArray, List.set_cons_zero, List.set_cons_succ]
      refine held_pure 8 33 (.int .i64 (k : Int)) rfl (fun W => by rfl) trivial ?_
      try simp only [Act.put, List.setIfInBounds_toArray, List.set_cons_zero, List.set_cons_succ]
      refine held_pure 9 34 (.slice (some ⟨g, off, none⟩) k c) rfl (fun W => by go_simp) trivial ?_
      try simp only [Act.put, List.setIfInBounds_toArray, List.set_cons_zero, List.set_cons_succ]
      refine held_one (i := 6) (by kernel_rfl) rfl (by rfl) (fun K hK => ?_)
      go_wp2_with fail
      refine (ih (n - k) (by omega) _ (l.drop k) (c - k) (i - k) _ r1 (by omega) (by rw [List.length_drop]; omega) (by omega) HP1 (by rw [List.length_drop]; omega) (by omega) w.drew HR2.out).mono ?_
      rintro e w1 ⟨v1, rfl, ho1, hb1⟩
      have hF1 : Fr w 0 w1 := (Fr.refl w).drew.next hb1
      obtain ⟨A1, n1, c1, rfl, hn1, hc1, hm1, hr1⟩ := ON.form_n ho1
      go_wp2_with fail
      refine hK.out _ _ trivial (fun _ => ?_)
      clear hK K
      try simp only [Act.put, List.setIfInBounds_toArray, List.set_cons_zero, List.set_cons_succ]
      refine held_one (i := 10) (by kernel_rfl) rfl (by rfl) (fun K hK => ?_)
      go_wp2_with fail
      refine (mroot_any k _ (l.take k) c x2 (by rw [List.length_take]; omega) HX2 (by rw [List.length_take]; omega) (by omega) _ ((HR1.out.keep hF1.1).mono hF1.1.size)).mono ?_
      rintro e w2 ⟨rfl, hb2⟩
      have hF2 := hF1.next hb2
      have hr12 := RN.next hr1 hb2
      go_wp2_with fail
      refine hK.out _ _ trivial (fun _ => ?_)
      clear hK K
      try simp only [Act.put, List.setIfInBounds_toArray, List.set_cons_zero, List.set_cons_succ]
      refine held_one (i := 11) (by kernel_rfl) rfl (by rfl) (fun K hK => ?_)
      go_wp2_with fail
      refine (mextend_any A1 n1 c1 r1 x2 hn1.out (by rw [hn1.out]; exact hc1) (by have := HLL.out; omega) _ hr12.out).mono ?_
      rintro e w3 ⟨v3, rfl, ho3, hb3⟩
      have hF3 := hF2.next hb3
      have ho4 := on_base ho3 hF2.1.size
      go_wp2_with fail
      refine hK.out _ _ trivial (fun _ => ?_)
      clear hK K
      try simp only [Act.put, List.setIfInBounds_toArray, List.set_cons_zero, List.set_cons_succ]
      refine held_pure 12 4 v3 rfl (fun _ => rfl) trivial ?_
      refine wpAnyH_done (by kernel_rfl) ?_ _
      try simp only [Act.put, List.setIfInBounds_toArray, List.set_cons_zero, List.set_cons_succ]
      go_wp2_with fail
      go_ret
      exact ⟨_, rfl, ho4, hF3.1⟩

theorem mpath_yes (A : Option Addr) (l : List (BitVec 64)) (n c i : Nat) (I : Int) (r : List (BitVec 64)) (hI : I = (i : Int)) (hn : l.length = n) (hin : i < n) (hr0 : Hid (pathF l i = r)) (hc : l.length ≤ c) (hm : c ≤ 9223372036854775807) (w : World) (hr : RN w w.heap.size A l) :
    Calls Try.prog 39 #[.slice A n c, .int .i64 I] w (RetN w 30 (r, true)) := by
  subst hI
  have HR := Lib.hid hr
  have s0 : (i : Int) < (n : Int) := by omega
  clear hr
  go_enter Try.func39, Try.ntmps39
  go_wp2_with (go_at_call 62; refine (mgrow_any n A l c i _ r rfl hn hin hr0 hc hm _ HR.out).mono ?_; rintro e w1 ⟨v1, rfl, ho1, hb1⟩)
  go_ret2
  exact ⟨_, rfl, ho1, hb1⟩

theorem mpath_no (A : Option Addr) (n c : Nat) (I : Int) (h : I < 0 ∨ (n : Int) ≤ I) (hI : I64 I) (w : World) :
    Calls Try.prog 39 #[.slice A n c, .int .i64 I] w (RetN w 30 ([], false)) := by
  obtain ⟨h3, h4⟩ := hI
  by_cases h0 : I < 0
  · go_enter Try.func39, Try.ntmps39
    go_wp2_with fail
    go_ret2
    exact ⟨_, rfl, ON.nil _ _ _, Below.refl _ _⟩
  · have h5 : (n : Int) ≤ I := by omega
    clear h
    go_enter Try.func39, Try.ntmps39
    go_wp2_with fail
    go_ret2
    exact ⟨_, rfl, ON.nil _ _ _, Below.refl _ _⟩
end Go.Proofs.Ytjghengkpbokaaa
