/-
  The statement MerkleSplits, proved for every slice of names, with no condition: the root of a list of two names or more is the hash of the roots of its two parts, of which the first has the greatest power of two below the length.
-/
import Derived.Test.YtllciohpphngiaaLaw3A
import Derived.Test.YtllciohpphngiaaHPair
namespace Go.Proofs.Ytllciohpphngiaa.merkleSplits
open Go.ChangeShapes Go.WideShapes Go.ChangeAt Go.RowKit Go.Fl

attribute [local go_sem] equal_nm eqGuard_nm

theorem walk_short (w : World) (v : Value) (l : List (BitVec 64)) (hv : VN w v l) (hl : l.length ≤ 17592186044160) (h0 : l.length < 2) :
    Calls Try.prog 7 #[v] w fun e w' => e = .returned (.bool true) ∧ Below w.heap.size w w' := by
  go_enter Try.func7, Try.ntmps7
  go_wp2_with fail
  refine (vn_cut hv hl).mono ?_
  rintro e w1 ⟨u, rfl, hu, rfl⟩
  have hm : (l.take 300).length < 2 := by rw [List.length_take]; omega
  generalize l.take 300 = m at hu hm
  obtain ⟨A, c, rfl, h1, h2, hr⟩ := hu
  have n1 : (m.length : Int) < 2 := by omega
  go_wp2_with (go_at_call 16; refine (awake_any _).mono ?_; rintro e w6 ⟨rfl, hb6⟩)
  go_ret
  exact ⟨rfl, hb6⟩

set_option maxHeartbeats 1000000 in
theorem walk_long (w : World) (v : Value) (l : List (BitVec 64)) (hv : VN w v l) (hl : l.length ≤ 17592186044160) (h0 : 2 ≤ l.length) :
    Calls Try.prog 7 #[v] w fun e w' => e = .returned (.bool true) ∧ Below w.heap.size w w' := by
  go_enter Try.func7, Try.ntmps7
  go_wp2_with fail
  refine (vn_cut hv hl).mono ?_
  rintro e w1 ⟨u, rfl, hu, rfl⟩
  have hm : (l.take 300).length ≤ 300 := by rw [List.length_take]; omega
  have hm2 : 2 ≤ (l.take 300).length := by rw [List.length_take]; omega
  generalize l.take 300 = m at hu hm hm2
  have hroot := rootF_two hm2
  obtain ⟨y, hy⟩ : ∃ y, m[0]? = some y := ⟨_, List.getElem?_eq_getElem (by omega)⟩
  have hu' := hu
  obtain ⟨A, c, rfl, h1, h2, hr⟩ := hu
  obtain ⟨g, off, rfl, hg, -⟩ := hr.at_ hy
  obtain ⟨n, hn⟩ : ∃ n, m.length = n := ⟨_, rfl⟩
  obtain ⟨s, hs⟩ : ∃ s, splitN n = s := ⟨_, rfl⟩
  rw [hn, hs] at hroot
  have s1 : 1 ≤ s := by rw [← hs]; exact splitN_pos n
  have s2 : s < n := by rw [← hs]; exact splitN_lt n (by omega)
  obtain ⟨x1, hx1⟩ : ∃ x1, rootF (m.take s) = x1 := ⟨_, rfl⟩
  obtain ⟨x2, hx2⟩ : ∃ x2, rootF (m.drop s) = x2 := ⟨_, rfl⟩
  obtain ⟨x, hx⟩ : ∃ x, rootF m = x := ⟨_, rfl⟩
  rw [hx, hx1, hx2] at hroot
  have HXP : Hid (sumF (18 :: (nmL x1 ++ nmL x2)) = x) := Lib.hid (by rw [hroot]; rfl)
  have hxx := nmEq_self x
  have HX := Lib.hid hx
  have HX1 := Lib.hid hx1
  have HX2 := Lib.hid hx2
  have HS := Lib.hid hs
  have HN := Lib.hid hn
  have hv1 : VN w (.slice (some ⟨g, off, none⟩) s c) (m.take s) := VN.take hr (by omega) h1 h2
  have hv2 : VN w (.slice (some ⟨g, off + s * 8, none⟩) (m.length - s) (c - s)) (m.drop s) := VN.drop hr (by omega) h1 h2
  rw [hn] at hv2 hu' h1 hm hm2 ⊢
  have HU := Lib.hid hu'
  have HV1 := Lib.hid hv1
  have HV2 := Lib.hid hv2
  obtain ⟨i8, hi8, _, hz8, _⟩ := info_parts info_name
  have hs1 := fun (W : World) => run_names_to (P := Try.prog) Try.underlying22 hi8 hz8 g off n c s (X := (s : Int)) (Lib.hid rfl) (by omega) (by omega) W
  have hs2 := fun (W : World) => run_names_from (P := Try.prog) Try.underlying22 hi8 hz8 g off n c s (X := (s : Int)) (Lib.hid rfl) (by omega) (by omega) W
  have n1 : (2 : Int) ≤ (n : Int) := by omega
  have n2 : (n : Int) ≤ 300 := by omega
  clear hv hu' hr hx hx1 hx2 hs hn hv1 hv2 hi8 hz8 hy hroot
  go_wp2
  go_loop [3] (fun k => ∃ j K : Nat, j ≤ Nat.log2 (n - 1) ∧ Hid (2 ^ j = K) ∧ k = .int .i64 (K : Int)) (fun k => n - (intOf k).toNat)
  case atStart => exact ⟨0, 1, Nat.zero_le _, Lib.hid rfl, rfl⟩
  case round =>
    obtain ⟨j, K, hj, hK, rfl⟩ := hrel
    have k1 : 1 ≤ K := by rw [← hK.out]; exact Nat.one_le_two_pow
    have k2 : K < n := by
      rw [← hK.out]
      exact Nat.lt_of_le_of_lt (Nat.pow_le_pow_right (by omega) hj) (splitN_lt n hm2)
    by_cases h : K + K < n
    · have q1 : 2 * (K : Int) < (n : Int) := by omega
      have hj2 := splitN_more n j (by rw [hK.out]; exact h)
      go_wp2
      go_round
      case rel => exact ⟨j + 1, 2 * K, hj2, Lib.hid (by rw [Nat.pow_succ, hK.out]; omega), by go_num⟩
      case measure => simp [intOf]; omega
    · have q1 : ¬ 2 * (K : Int) < (n : Int) := by omega
      have e := splitN_eq n j hj (by rw [hK.out]; omega)
      rw [hK.out, HS.out] at e
      subst e
      go_wp2
      refine wp_region_held_drew (S := fun w' => Fr w 0 w') (by kernel_rfl) (Fr.refl w).drew (fun hHeld => ?_)
      refine held_pure 0 17 (.slice (some ⟨g, off, none⟩) n c) rfl (fun W => by rfl) hHeld ?_
      try simp only [Act.put, List.setIfInBounds_toArray, List.set_cons_zero, List.set_cons_succ]
      refine held_pure 2 19 (.slice (some ⟨g, off, none⟩) n c) rfl (fun W => by rfl) hHeld ?_
      try simp only [Act.put, List.setIfInBounds_toArray, List.set_cons_zero, List.set_cons_succ]
      refine held_pure 3 20 (.int .i64 (K : Int)) rfl (fun W => by rfl) hHeld ?_
      try simp only [Act.put, List.setIfInBounds_toArray, List.set_cons_zero, List.set_cons_succ]
      refine held_pure 4 21 (.slice (some ⟨g, off, none⟩) K c) rfl (fun W => by go_simp) hHeld ?_
      try simp only [Act.put, List.setIfInBounds_toArray, List.set_cons_zero, List.set_cons_succ]
      refine held_pure 6 23 (.slice (some ⟨g, off, none⟩) n c) rfl (fun W => by rfl) hHeld ?_
      try simp only [Act.put, List.setIfInBounds_toArray, List.set_cons_zero, List.set_cons_succ]
      refine held_pure 7 24 (.int .i64 (K : Int)) rfl (fun W => by rfl) hHeld ?_
      try simp only [Act.put, List.setIfInBounds_toArray, List.set_cons_zero, List.set_cons_succ]
      refine held_pure 8 25 (.slice (some ⟨g, off + K * 8, none⟩) (n - K) (c - K)) rfl (fun W => by go_simp) hHeld ?_
      try simp only [Act.put, List.setIfInBounds_toArray, List.set_cons_zero, List.set_cons_succ]
      refine held_one (i := 1) (by kernel_rfl) rfl (by rfl) (fun KK hK => ?_)
      go_wp2_with fail
      refine (merkleM.root _ _ m x (HU.out.next hHeld.1) (by have := HN.out; omega) HX).mono ?_
      rintro e w2 ⟨rfl, hb⟩
      go_wp2_with fail
      refine hK.out _ _ (hHeld.next hb) (fun hHeld1 => ?_)
      clear hK KK
      try simp only [Act.put, List.setIfInBounds_toArray, List.set_cons_zero, List.set_cons_succ]
      refine held_one (i := 5) (by kernel_rfl) rfl (by rfl) (fun KK hK => ?_)
      go_wp2_with fail
      refine (merkleM.root _ _ (m.take K) x1 (HV1.out.next hHeld1.1) (by rw [List.length_take]; omega) HX1).mono ?_
      rintro e w3 ⟨rfl, hb⟩
      go_wp2_with fail
      refine hK.out _ _ (hHeld1.next hb) (fun hHeld2 => ?_)
      clear hK KK
      try simp only [Act.put, List.setIfInBounds_toArray, List.set_cons_zero, List.set_cons_succ]
      refine held_one (i := 9) (by kernel_rfl) rfl (by rfl) (fun KK hK => ?_)
      go_wp2_with fail
      refine (merkleM.root _ _ (m.drop K) x2 (HV2.out.next hHeld2.1) (by rw [List.length_drop]; have := HN.out; omega) HX2).mono ?_
      rintro e w4 ⟨rfl, hb⟩
      go_wp2_with fail
      refine hK.out _ _ (hHeld2.next hb) (fun hHeld3 => ?_)
      clear hK KK
      try simp only [Act.put, List.setIfInBounds_toArray, List.set_cons_zero, List.set_cons_succ]
      refine held_one (i := 10) (by kernel_rfl) rfl (by rfl) (fun KK hK => ?_)
      go_wp2_with fail
      refine (pair_any 18 x1 x2 HXP _).mono ?_
      rintro e w5 ⟨rfl, hb⟩
      go_wp2_with fail
      refine hK.out _ _ (hHeld3.next hb) (fun hHeld4 => ?_)
      clear hK KK
      try simp only [Act.put, List.setIfInBounds_toArray, List.set_cons_zero, List.set_cons_succ]
      refine held_pure 11 28 (.bool true) rfl (fun W => by go_simp) hHeld4 ?_
      try simp only [Act.put, List.setIfInBounds_toArray, List.set_cons_zero, List.set_cons_succ]
      refine held_pure 12 29 (.bool true) rfl (fun W => by rfl) hHeld4 ?_
      try simp only [Act.put, List.setIfInBounds_toArray, List.set_cons_zero, List.set_cons_succ]
      refine held_one (i := 13) (by kernel_rfl) rfl (by rfl) (fun KK hK => ?_)
      go_wp2_with fail
      refine (awake_any _).mono ?_
      rintro e w6 ⟨rfl, hb⟩
      go_wp2_with fail
      refine hK.out _ _ (hHeld4.next hb) (fun hHeld5 => ?_)
      clear hK KK
      try simp only [Act.put, List.setIfInBounds_toArray, List.set_cons_zero, List.set_cons_succ]
      refine held_pure 14 31 (.bool true) rfl (fun W => by rfl) hHeld5 ?_
      try simp only [Act.put, List.setIfInBounds_toArray, List.set_cons_zero, List.set_cons_succ]
      refine held_pure 15 2 (.bool true) rfl (fun W => by rfl) hHeld5 ?_
      try simp only [Act.put, List.setIfInBounds_toArray, List.set_cons_zero, List.set_cons_succ]
      refine wpAnyH_done (by kernel_rfl) ?_ _
      try simp only [Act.put, List.setIfInBounds_toArray, List.set_cons_zero, List.set_cons_succ]
      go_wp2_with fail
      go_ret
      exact ⟨rfl, hHeld5.1⟩

theorem walk (w : World) (v : Value) (l : List (BitVec 64)) (hv : VN w v l) (hl : l.length ≤ 17592186044160) :
    Calls Try.prog 7 #[v] w fun e w' => e = .returned (.bool true) ∧ Below w.heap.size w w' := by
  by_cases h0 : l.length < 2
  · exact walk_short w v l hv hl h0
  · exact walk_long w v l hv hl (by omega)

set_option maxRecDepth 100000 in
/-- The law's step, at every reading. -/
theorem lifted (os : Os) (started : os.Started) (H : Type) (enc : TypeId × Value → H) :
    ReturnsInHanded {} Try.checked os 7 .any (Rows.merkleSplitsSpec.pre6 enc Try.prog Try.f7 Rows.merkleSplitsRow.domain false) (Rows.merkleSplitsSpec.post enc Try.prog Try.f7 false true false false) := by
  refine law_lifted (C := Try.checked) (n := 1) (tb := 4) own started (by kernel_rfl) Try.func7 rfl (by kernel_rfl)
    (of_decide_eq_true (by kernel_rfl)) (by kernel_rfl) (by kernel_rfl) Try.underlying4
    (fun ds hd => by match ds, hd with | [_], _ => rfl)
    (ChangeSpec.witness6 (enc := enc) (C := Try.checked) false ⟨#[], #[.slice none 0 0], []⟩ 8 (by kernel_rfl) (by kernel_rfl) (by kernel_rfl) (by kernel_rfl)) ?_
  intro W base args ds ps hval hA hlt hsz
  rw [Try.params7] at hA hval
  obtain ⟨v0, vs0, d0, ds0, p0, q0, hargs, rfl, rfl, h0, r0⟩ := trodAll_cons hA
  obtain ⟨rfl, rfl, rfl⟩ := trodAll_nil r0
  obtain rfl : args = #[v0] := by cases args; simp_all
  obtain ⟨A0, l0, c0, rfl, hc0, hm0, hr0⟩ := open_names Try.underlying22 Try.underlying27 Try.underlying5 cells1 cells8 bytes8 (hval 0 _ v0 rfl rfl) h0 (fun x hx => hlt x (by simp [hx])) hsz (j := 0) (by rw [Try.params7]; rfl) rfl
  exact walk W _ l0 (VN.mk hr0 hc0 hm0) (by omega)

theorem proved : Rows.MerkleSplitsSaid :=
  OpenClaim.holds_of_wide 7 Try.f7 rfl rfl rfl rfl rfl rfl rfl ⟨rfl, rfl, rfl, rfl, rfl⟩ rfl rfl rfl rfl rfl (by kernel_rfl) Try.func7 (by kernel_rfl)
    (of_decide_eq_true (by kernel_rfl)) (by unfold Func.isWrapper; first | (rw [if_pos (by decide +kernel)]; kernel_rfl) | (rw [if_neg (by decide +kernel)]; exact ⟨rfl, rfl⟩))
    (fun os started H enc _ => lifted os started H enc)
#print axioms proved
end Go.Proofs.Ytllciohpphngiaa.merkleSplits
