/-
  The statement MerkleShares, proved for every slice of names and every pair of numbers, with no condition: Path and Root do not change the list, and paths of one list do not share memory.
-/
import Derived.Test.YtllciohpphngiaaLaw3A
import Derived.Test.YtllciohpphngiaaHNum
namespace Go.Proofs.Ytllciohpphngiaa.merkleShares
open Go.ChangeShapes Go.WideShapes Go.ChangeAt Go.RowKit Go.Fl

attribute [local go_sem] equal_nm eqGuard_nm

theorem of7 : ∃ z : BitVec 64, ∀ w : World, Calls Try.prog 24 #[.int .u64 7] w fun e w' => e = .returned (nm z) ∧ Below w.heap.size w w' := ⟨7#64, fun w => of_any 7#64 w⟩
theorem on_empty (w : World) : ON (w.alloc (.cells #[] 27)) w.heap.size 27 (.slice (some ⟨w.heap.size, 0, none⟩) 0 0) [] :=
  ⟨rfl, .inr ⟨w.heap.size, 0, #[], rfl, Nat.le_refl _, heap_alloc_new w _, Nat.le_refl _, by simp [maxLen], rfl, rfl⟩⟩

theorem walk_nil (w : World) (v : Value) (l : List (BitVec 64)) (t s : Int) (hv : VN w v l) (hl : l.length ≤ 17592186044160) (h0 : l.length = 0) :
    Calls Try.prog 8 #[v, .int .i64 t, .int .i64 s] w fun e w' => e = .returned (.bool true) ∧ Below w.heap.size w w' := by
  obtain rfl : l = [] := List.eq_nil_of_length_eq_zero h0
  go_enter Try.func8, Try.ntmps8
  go_wp2_with fail
  refine (vn_cut hv hl).mono ?_
  rintro e w1 ⟨u, rfl, hu, rfl⟩
  have hu : VN w u [] := hu
  obtain ⟨A, c, rfl, h1, h2, hr⟩ := hu
  go_wp2_with (go_at_call 16; refine (awake_any _).mono ?_; rintro e w6 ⟨rfl, hb6⟩)
  go_ret
  exact ⟨rfl, hb6⟩

set_option maxHeartbeats 1000000 in
theorem walk_some (w : World) (v : Value) (l : List (BitVec 64)) (t s : Int) (hv : VN w v l) (hl : l.length ≤ 17592186044160) (h0 : 0 < l.length) :
    Calls Try.prog 8 #[v, .int .i64 t, .int .i64 s] w fun e w' => e = .returned (.bool true) ∧ Below w.heap.size w w' := by
  obtain ⟨z7, h7⟩ := of7
  go_enter Try.func8, Try.ntmps8
  go_wp2_with fail
  refine (vn_cut hv hl).mono ?_
  rintro e w1 ⟨u, rfl, hu, rfl⟩
  have hm : (l.take 300).length ≤ 300 := by rw [List.length_take]; omega
  have hm0 : 0 < (l.take 300).length := by rw [List.length_take]; omega
  generalize l.take 300 = m at hu hm hm0
  obtain ⟨j, hj, hje⟩ := index_mod t m.length hm0 (by omega)
  obtain ⟨k, hk, hke⟩ := index_mod s m.length hm0 (by omega)
  have hvp := verify_path m k hk
  have hp1 := pathP_nat m j hj
  have hp2 := pathP_nat m k hk
  have hl1 := pathP_len m j (by omega)
  have hl2 := pathP_len m k (by omega)
  obtain ⟨y, hy⟩ : ∃ y, m[k]? = some y := ⟨_, List.getElem?_eq_getElem hk⟩
  have hgy : m.getD k 0 = y := by rw [List.getD_eq_getElem?_getD, hy]; rfl
  have hu' := hu
  obtain ⟨A, c, rfl, h1, h2, hr⟩ := hu
  obtain ⟨g, off, rfl, hg, -⟩ := hr.at_ hy
  have hrg := rn_range hr rfl hy
  obtain ⟨x, hx⟩ : ∃ x, rootF m = x := ⟨_, rfl⟩
  obtain ⟨r1, hr1⟩ : ∃ r, pathF m j = r := ⟨_, rfl⟩
  obtain ⟨r2, hr2⟩ : ∃ r, pathF m k = r := ⟨_, rfl⟩
  rw [hgy, hx, hr2] at hvp
  rw [hr1] at hp1
  rw [hr2] at hp2
  rw [hp1] at hl1
  rw [hp2] at hl2
  have hl1 : r1.length ≤ 63 := hl1
  have hl2 : r2.length ≤ 63 := hl2
  obtain ⟨n, hn⟩ : ∃ n, m.length = n := ⟨_, rfl⟩
  rw [hn] at hvp hje hke hm hm0 hj hk h1
  have HV := Lib.hid hvp
  have HP1 := Lib.hid hp1
  have HP2 := Lib.hid hp2
  have HX := Lib.hid hx
  have HN := Lib.hid hn
  have HRG := Lib.hid hrg
  have HR := Lib.hid hr
  have HU := Lib.hid hu'
  rw [hn] at HU ⊢
  have b0 : ((n : Int) == 0) = false := by rw [beq_eq_false_iff_ne]; omega
  have n1 : (n : Int) ≤ 300 := by omega
  have n0 : (0 : Int) < (n : Int) := by omega
  have nn : ¬ (n : Int) = 0 := by omega
  have nn2 : ¬ n = 0 := by omega
  have hje2 : IntKind.i64.wrap ((IntKind.u64.wrap t).tmod (n : Int)) = (j : Int) := by rw [IntKind.wrap_i64]; unfold wrap64 at hje; omega
  have hke2 : IntKind.i64.wrap ((IntKind.u64.wrap s).tmod (n : Int)) = (k : Int) := by rw [IntKind.wrap_i64]; unfold wrap64 at hke; omega
  have hwn : IntKind.u64.wrap (n : Int) = (n : Int) := by rw [IntKind.wrap_u64]; omega
  have k0 : (0 : Int) ≤ (k : Int) := by omega
  have k1 : (k : Int) < (n : Int) := by omega
  obtain ⟨i8, hi8, hz0, hz8, hz9⟩ := info_parts info_name
  have HI := Lib.hid hi8
  have HZ0 := Lib.hid hz0
  have HZ1 := Lib.hid hz8
  have HZ2 := Lib.hid hz9
  have hF0 := (Fr.refl w).alloc (.cells #[] 27)
  have hoE := on_empty w
  clear hvp hp1 hp2 hy hgy hu' hr hrg hx hr1 hr2 hn hv hi8 hz0 hz8 hz9
  go_wp2_with (first
    | (at_builtin; refine wpList_append_ons rfl (.tmp 20) (.tmp 21) 22 rfl w.heap.size 27 i8 _ Try.underlying22 HI.out HZ0.out rfl HZ1.out HZ2.out _ [] rfl hoE _ (some ⟨g, off, none⟩) m n c rfl HN.out (HR.out.keep hF0.1) (by (have := HN.out; simp; omega)) (by simp) ?_; intro vw w2 how hg2)
    | fail)
  have hF2 := hF0.grown hg2 (fun q hq => hoE.own q hq)
  have how : ON w2 w.heap.size 27 vw m := how
  obtain ⟨Aw, cw, gw, rfl, kw1, kw2, hrw, -⟩ := on_form how
  have HW := Lib.hid hrw
  clear how hrw hg2 hoE
  rw [HN.out]
  refine wp_region_held_drew (S := fun _ => True) (by kernel_rfl) trivial (fun hHeld => ?_)
  refine held_pure 0 23 (.int .i64 t) rfl (fun W => by rfl) hHeld ?_
  try simp only [Act.put, List.setIfInBounds_toArray, List.set_cons_zero, List.set_cons_succ]
  refine held_pure 1 24 (.int .u64 (IntKind.u64.wrap t)) rfl (fun W => by go_simp) hHeld ?_
  try simp only [Act.put, List.setIfInBounds_toArray, List.set_cons_zero, List.set_cons_succ]
  refine held_pure 2 25 (.slice (some ⟨g, off, none⟩) n c) rfl (fun W => by rfl) hHeld ?_
  try simp only [Act.put, List.setIfInBounds_toArray, List.set_cons_zero, List.set_cons_succ]
  refine held_pure 3 26 (.int .i64 (n : Int)) rfl (fun W => by go_simp) hHeld ?_
  try simp only [Act.put, List.setIfInBounds_toArray, List.set_cons_zero, List.set_cons_succ]
  refine held_pure 4 27 (.int .u64 (n : Int)) rfl (fun W => by go_simp) hHeld ?_
  try simp only [Act.put, List.setIfInBounds_toArray, List.set_cons_zero, List.set_cons_succ]
  refine held_pure 5 28 (.int .u64 ((IntKind.u64.wrap t).tmod (n : Int))) rfl (fun W => by go_simp) hHeld ?_
  try simp only [Act.put, List.setIfInBounds_toArray, List.set_cons_zero, List.set_cons_succ]
  refine held_pure 6 29 (.int .i64 (j : Int)) rfl (fun W => by go_simp) hHeld ?_
  try simp only [Act.put, List.setIfInBounds_toArray, List.set_cons_zero, List.set_cons_succ]
  refine held_pure 7 30 (.int .i64 s) rfl (fun W => by rfl) hHeld ?_
  try simp only [Act.put, List.setIfInBounds_toArray, List.set_cons_zero, List.set_cons_succ]
  refine held_pure 8 31 (.int .u64 (IntKind.u64.wrap s)) rfl (fun W => by go_simp) hHeld ?_
  try simp only [Act.put, List.setIfInBounds_toArray, List.set_cons_zero, List.set_cons_succ]
  refine held_pure 9 32 (.slice (some ⟨g, off, none⟩) n c) rfl (fun W => by rfl) hHeld ?_
  try simp only [Act.put, List.setIfInBounds_toArray, List.set_cons_zero, List.set_cons_succ]
  refine held_pure 10 33 (.int .i64 (n : Int)) rfl (fun W => by go_simp) hHeld ?_
  try simp only [Act.put, List.setIfInBounds_toArray, List.set_cons_zero, List.set_cons_succ]
  refine held_pure 11 34 (.int .u64 (n : Int)) rfl (fun W => by go_simp) hHeld ?_
  try simp only [Act.put, List.setIfInBounds_toArray, List.set_cons_zero, List.set_cons_succ]
  refine held_pure 12 35 (.int .u64 ((IntKind.u64.wrap s).tmod (n : Int))) rfl (fun W => by go_simp) hHeld ?_
  try simp only [Act.put, List.setIfInBounds_toArray, List.set_cons_zero, List.set_cons_succ]
  refine held_pure 13 36 (.int .i64 (k : Int)) rfl (fun W => by go_simp) hHeld ?_
  try simp only [Act.put, List.setIfInBounds_toArray, List.set_cons_zero, List.set_cons_succ]
  refine held_pure 14 1 (.int .i64 (j : Int)) rfl (fun W => by rfl) hHeld ?_
  try simp only [Act.put, List.setIfInBounds_toArray, List.set_cons_zero, List.set_cons_succ]
  refine held_pure 15 2 (.int .i64 (k : Int)) rfl (fun W => by rfl) hHeld ?_
  try simp only [Act.put, List.setIfInBounds_toArray, List.set_cons_zero, List.set_cons_succ]
  refine wpAnyH_done (by kernel_rfl) ?_ _
  try simp only [Act.put, List.setIfInBounds_toArray, List.set_cons_zero, List.set_cons_succ]
  have hF2 := hF2.drew
  have HW2 : Hid (RN w2.drew w2.drew.heap.size Aw m) := HW
  clear HW
  generalize w2.drew = W at *
  go_wp2_with fail
  refine (merkleM.path W _ m (j : Int) (r1, true) (HU.out.next hF2.1) (by have := HN.out; omega) ⟨by omega, by omega⟩ HP1).mono ?_
  rintro e w4 ⟨v1, rfl, ho1, hb4⟩
  have ho1 : ON w4 W.heap.size 27 v1 r1 := ho1
  obtain ⟨A1, c1, gp, rfl, ka1, ka2, -, hp⟩ := on_form ho1
  have hF4 := hF2.next hb4
  clear ho1
  go_wp2_with fail
  refine (merkleM.path w4 _ m (k : Int) (r2, true) (HU.out.next hF4.1) (by have := HN.out; omega) ⟨by omega, by omega⟩ HP2).mono ?_
  rintro e w5 ⟨v2, rfl, ho2, hb5⟩
  have ho2 : ON w5 w4.heap.size 27 v2 r2 := ho2
  obtain ⟨A2, c2, gq, rfl, kb1, kb2, hrq, hq⟩ := on_form ho2
  have hF5 := hF4.next hb5
  have HQ := Lib.hid hrq
  have hq' : ∀ g' off', A2 = some ⟨g', off', none⟩ → 0 < r2.length → w4.heap.size ≤ g' := fun g' off' e hp' => by
    have h := hq hp'
    rw [h.1] at e
    cases e
    exact h.2.1
  have hF50 := hF5.alloc (.cells #[] 27)
  have hoE := on_empty w5
  clear ho2 hrq hq
  go_wp2_with (first
    | (at_builtin; refine wpList_append_ons rfl (.tmp 49) (.tmp 50) 22 rfl w5.heap.size 27 i8 _ Try.underlying22 HI.out HZ0.out rfl HZ1.out HZ2.out _ [] rfl hoE _ A2 r2 r2.length c2 rfl rfl (HQ.out.keep ((Below.refl _ _).alloc (Nat.le_refl _) _)) (by simp; omega) (by simp) ?_; intro vk w6 hok hg6)
    | fail)
  have hb6 : Below w5.heap.size w5 w6 := ((Below.refl _ _).alloc (Nat.le_refl _) _).grown hg6 (by simp) (fun q hq => hoE.own q hq)
  have hok : ON w6 w5.heap.size 27 vk r2 := hok
  obtain ⟨Ak, ck, gk, rfl, kc1, kc2, hrk, hkk⟩ := on_form hok
  have HKR := Lib.hid hrk
  have hk' : ∀ g' off', Ak = some ⟨g', off', none⟩ → 0 < r2.length → w5.heap.size ≤ g' := fun g' off' e hp' => by
    have h := hkk hp'
    rw [h.1] at e
    cases e
    exact h.2.1
  have hF6 := hF5.next hb6
  have hB46 : Below w4.heap.size w4 w6 := hb5.trans (hb6.mono hb5.size)
  have hBW6 : Below W.heap.size W w6 := hb4.trans (hB46.mono hb4.size)
  have hp' : 0 < r1.length → A1 = some ⟨gp, 0, none⟩ ∧ W.heap.size ≤ gp ∧ gp < w4.heap.size ∧ ∃ cur, Is w6 gp 27 cur ∧ r1.length * 8 ≤ cur.size := fun hp0 => by
    obtain ⟨q1, q2, q3, cur, q4, q5⟩ := hp hp0
    exact ⟨q1, q2, q3, cur, (hB46.block gp q3).trans q4, q5⟩
  have e45 := hb5.size
  have e56 := hb6.size
  have eW4 := hb4.size
  clear hok hrk hkk hg6 hoE hF50 hp hF0
  go_loopw [13] (fun i wr => ∃ q : Nat, q ≤ r1.length ∧ i = .int .i64 q ∧ Below W.heap.size w6 wr ∧ Hid (∀ b, b < w6.heap.size → (0 < r1.length → b ≠ gp) → wr.heap[b]? = w6.heap[b]?) ∧ Hid (0 < r1.length → ∃ cur, Is wr gp 27 cur ∧ r1.length * 8 ≤ cur.size)) (fun i _ => r1.length - (intOf i).toNat)
  case atStart => exact ⟨0, Nat.zero_le _, rfl, Below.refl _ _, Lib.hid (fun _ _ _ => rfl), Lib.hid (fun hp0 => (hp' hp0).2.2.2)⟩
  case round =>
    obtain ⟨q, hql, rfl, hBr, hfar, hcur⟩ := hrel
    by_cases hlt : q < r1.length
    · obtain ⟨rfl, q2, q3, -⟩ := hp' (by omega)
      obtain ⟨cur, hcu, hcs⟩ := hcur.out (by omega)
      have s1 : (q : Int) < (r1.length : Int) := by omega
      have s2 : (r1.length : Int) ≤ 63 := by omega
      go_wp2_with (first
        | (go_at_call 24; refine (h7 _).mono ?_; rintro e w7 ⟨rfl, hb7⟩; have hcu7 := hcu.next hb7)
        | (refine wpList_store_at rfl 27 (.tmp 61) (.tmp 60) rfl gp (q * 8) 27 cur (nmC z7) rfl rfl hcu7 (by (have : (nmC z7).size = 8 := rfl; omega)) name_info (nmC_one _) ?_; intro w8 cur8 hcu8 hs8 hb8 hfar8))
      go_roundw
      case rel => exact ⟨q + 1, by omega, by go_num, hBr.trans ((hb7.mono (by have := hBr.size; have := hBW6.size; omega)).trans (hb8.mono q2)), Lib.hid (fun b hb hne => (hfar8 b (hne (by omega))).trans ((hb7.block b (by have := hBr.size; omega)).trans (hfar.out b hb hne))), Lib.hid (fun _ => ⟨cur8, hcu8, by omega⟩)⟩
      case measure => simp [intOf]; omega
    · obtain rfl : q = r1.length := by omega
      have hBw : Below w.heap.size w wr := hF6.1.trans (hBr.mono (by have := hF2.2; omega))
      have vl : VN wr (.slice (some ⟨g, off, none⟩) n c) m := HU.out.next hBw
      have hrw : RN wr W.heap.size Aw m := (HW2.out.keep (hBW6.trans hBr))
      have vw : VN wr (.slice Aw m.length cw) m := ⟨Aw, cw, rfl, kw1, kw2, hrw.mono (by have := hBr.size; have := hBW6.size; omega)⟩
      have hrq : RN wr w5.heap.size A2 r2 := rn_far (_gp := gp) (HQ.out.keep hb6) hb6.size (fun g' off' e hp0 => hfar.out g' (by obtain ⟨g'', off'', e'', hlt'', _⟩ := HQ.out hp0; rw [e''] at e; cases e; omega) (fun h => by have := hq' g' off' e hp0; have := (hp' h).2.2.1; omega))
      have vq : VN wr (.slice A2 r2.length c2) r2 := ⟨A2, c2, rfl, kb1, kb2, hrq.mono (by have := hBr.size; omega)⟩
      have hrk : RN wr w6.heap.size Ak r2 := rn_far (_gp := gp) HKR.out (Nat.le_refl _) (fun g' off' e hp0 => hfar.out g' (by obtain ⟨g'', off'', e'', hlt'', _⟩ := HKR.out hp0; rw [e''] at e; cases e; omega) (fun h => by have := hk' g' off' e hp0; have := (hp' h).2.2.1; omega))
      have vk : VN wr (.slice Ak r2.length ck) r2 := ⟨Ak, ck, rfl, kc1, kc2, hrk.mono hBr.size⟩
      have hrg : wr.rangeAt g (off + k * 8) (nmR y) := range_keep HRG.out hBw hg
      have hgr : g < wr.heap.size := by have := hBw.size; omega
      have HVL := Lib.hid vl
      have HVW := Lib.hid vw
      have HVQ := Lib.hid vq
      have HVK := Lib.hid vk
      have HRG2 := Lib.hid hrg
      have hmn := nsEq_self m
      have hrn := nsEq_self r2
      clear hfar hcur hBr hp' hrw vl vw hrq vq hrk vk hrg hlt hql
      rw [HN.out] at HVW
      go_wp2
      refine wp_region_held_drew (S := fun w' => Below wr.heap.size wr w') (by kernel_rfl) (Below.refl _ _).drew (fun hHeld => ?_)
      refine held_pure 0 62 (.slice (some ⟨g, off, none⟩) n c) rfl (fun W => by rfl) hHeld ?_
      try simp only [Act.put, List.setIfInBounds_toArray, List.set_cons_zero, List.set_cons_succ]
      refine held_pure 1 63 (.slice Aw n cw) rfl (fun W => by rfl) hHeld ?_
      try simp only [Act.put, List.setIfInBounds_toArray, List.set_cons_zero, List.set_cons_succ]
      refine held_one (i := 2) (by kernel_rfl) rfl (by rfl) (fun KK hK => ?_)
      go_wp2_with fail
      refine (same_any _ _ _ m m (HVL.out.next hHeld) (HVW.out.next hHeld) (by have := HN.out; omega) (by have := HN.out; omega)).mono ?_
      rintro e w7 ⟨rfl, hb⟩
      rw [nsEq_self]
      go_wp2_with fail
      refine hK.out _ _ (hHeld.trans (hb.mono hHeld.size)) (fun hHeld1 => ?_)
      clear hK KK
      try simp only [Act.put, List.setIfInBounds_toArray, List.set_cons_zero, List.set_cons_succ]
      refine held_pure 3 65 (.bool true) rfl (fun W => by rfl) hHeld1 ?_
      try simp only [Act.put, List.setIfInBounds_toArray, List.set_cons_zero, List.set_cons_succ]
      refine held_pure 4 66 (.slice A2 r2.length c2) rfl (fun W => by rfl) hHeld1 ?_
      try simp only [Act.put, List.setIfInBounds_toArray, List.set_cons_zero, List.set_cons_succ]
      refine held_pure 5 67 (.slice Ak r2.length ck) rfl (fun W => by rfl) hHeld1 ?_
      try simp only [Act.put, List.setIfInBounds_toArray, List.set_cons_zero, List.set_cons_succ]
      refine held_one (i := 6) (by kernel_rfl) rfl (by rfl) (fun KK hK => ?_)
      go_wp2_with fail
      refine (same_any _ _ _ r2 r2 (HVQ.out.next hHeld1) (HVK.out.next hHeld1) (by omega) (by omega)).mono ?_
      rintro e w8 ⟨rfl, hb⟩
      rw [nsEq_self]
      go_wp2_with fail
      refine hK.out _ _ (hHeld1.trans (hb.mono hHeld1.size)) (fun hHeld2 => ?_)
      clear hK KK
      try simp only [Act.put, List.setIfInBounds_toArray, List.set_cons_zero, List.set_cons_succ]
      refine held_pure 7 69 (.bool true) rfl (fun W => by rfl) hHeld2 ?_
      try simp only [Act.put, List.setIfInBounds_toArray, List.set_cons_zero, List.set_cons_succ]
      refine held_pure 8 70 (.bool true) rfl (fun W => by rfl) hHeld2 ?_
      try simp only [Act.put, List.setIfInBounds_toArray, List.set_cons_zero, List.set_cons_succ]
      refine held_pure 9 71 (.slice (some ⟨g, off, none⟩) n c) rfl (fun W => by rfl) hHeld2 ?_
      try simp only [Act.put, List.setIfInBounds_toArray, List.set_cons_zero, List.set_cons_succ]
      refine held_pure 11 73 (.slice (some ⟨g, off, none⟩) n c) rfl (fun W => by rfl) hHeld2 ?_
      try simp only [Act.put, List.setIfInBounds_toArray, List.set_cons_zero, List.set_cons_succ]
      refine held_pure 12 74 (.int .i64 (k : Int)) rfl (fun W => by rfl) hHeld2 ?_
      try simp only [Act.put, List.setIfInBounds_toArray, List.set_cons_zero, List.set_cons_succ]
      refine held_pure 13 75 (.pointer (some ⟨g, off + k * 8, none⟩)) rfl (fun W => by go_simp) hHeld2 ?_
      try simp only [Act.put, List.setIfInBounds_toArray, List.set_cons_zero, List.set_cons_succ]
      refine held_load 14 76 rfl 27 (.tmp 75) rfl g (off + k * 8) rfl (nmR y) (fun w' h => range_keep HRG2.out h hgr) Try.underlying27 name_info hHeld2 ?_
      try simp only [Act.put, List.setIfInBounds_toArray, List.set_cons_zero, List.set_cons_succ]
      refine held_pure 15 77 (.int .i64 (k : Int)) rfl (fun W => by rfl) hHeld2 ?_
      try simp only [Act.put, List.setIfInBounds_toArray, List.set_cons_zero, List.set_cons_succ]
      refine held_pure 16 78 (.slice (some ⟨g, off, none⟩) n c) rfl (fun W => by rfl) hHeld2 ?_
      try simp only [Act.put, List.setIfInBounds_toArray, List.set_cons_zero, List.set_cons_succ]
      refine held_pure 17 79 (.int .i64 (n : Int)) rfl (fun W => by go_simp) hHeld2 ?_
      try simp only [Act.put, List.setIfInBounds_toArray, List.set_cons_zero, List.set_cons_succ]
      refine held_pure 18 80 (.slice A2 r2.length c2) rfl (fun W => by rfl) hHeld2 ?_
      try simp only [Act.put, List.setIfInBounds_toArray, List.set_cons_zero, List.set_cons_succ]
      refine held_one (i := 10) (by kernel_rfl) rfl (by rfl) (fun KK hK => ?_)
      go_wp2_with fail
      refine (merkleM.root _ _ m x (HVL.out.next hHeld2) (by have := HN.out; omega) HX).mono ?_
      rintro e w9 ⟨rfl, hb⟩
      go_wp2_with fail
      refine hK.out _ _ (hHeld2.trans (hb.mono hHeld2.size)) (fun hHeld3 => ?_)
      clear hK KK
      try simp only [Act.put, List.setIfInBounds_toArray, List.set_cons_zero, List.set_cons_succ]
      refine held_one (i := 19) (by kernel_rfl) rfl (by rfl) (fun KK hK => ?_)
      go_wp2_with fail
      refine (merkleM.verify _ x y (k : Int) (n : Int) _ r2 true (HVQ.out.next hHeld3) (by omega) ⟨by omega, by omega⟩ ⟨by omega, by omega⟩ HV).mono ?_
      rintro e w10 ⟨rfl, hb⟩
      go_wp2_with fail
      refine hK.out _ _ (hHeld3.trans (hb.mono hHeld3.size)) (fun hHeld4 => ?_)
      clear hK KK
      try simp only [Act.put, List.setIfInBounds_toArray, List.set_cons_zero, List.set_cons_succ]
      refine held_pure 20 82 (.bool true) rfl (fun W => by rfl) hHeld4 ?_
      try simp only [Act.put, List.setIfInBounds_toArray, List.set_cons_zero, List.set_cons_succ]
      refine held_pure 21 83 (.bool true) rfl (fun W => by rfl) hHeld4 ?_
      try simp only [Act.put, List.setIfInBounds_toArray, List.set_cons_zero, List.set_cons_succ]
      refine held_one (i := 22) (by kernel_rfl) rfl (by rfl) (fun KK hK => ?_)
      go_wp2_with fail
      refine (awake_any _).mono ?_
      rintro e w11 ⟨rfl, hb⟩
      go_wp2_with fail
      refine hK.out _ _ (hHeld4.trans (hb.mono hHeld4.size)) (fun hHeld5 => ?_)
      clear hK KK
      try simp only [Act.put, List.setIfInBounds_toArray, List.set_cons_zero, List.set_cons_succ]
      refine held_pure 23 85 (.bool true) rfl (fun W => by rfl) hHeld5 ?_
      try simp only [Act.put, List.setIfInBounds_toArray, List.set_cons_zero, List.set_cons_succ]
      refine held_pure 24 6 (.bool true) rfl (fun W => by rfl) hHeld5 ?_
      try simp only [Act.put, List.setIfInBounds_toArray, List.set_cons_zero, List.set_cons_succ]
      refine wpAnyH_done (by kernel_rfl) ?_ _
      try simp only [Act.put, List.setIfInBounds_toArray, List.set_cons_zero, List.set_cons_succ]
      go_wp2_with fail
      go_ret
      exact ⟨rfl, hBw.trans (hHeld5.mono hBw.size)⟩

theorem walk (w : World) (v : Value) (l : List (BitVec 64)) (t s : Int) (hv : VN w v l) (hl : l.length ≤ 17592186044160) (_ : I64 t) (_ : I64 s) :
    Calls Try.prog 8 #[v, .int .i64 t, .int .i64 s] w fun e w' => e = .returned (.bool true) ∧ Below w.heap.size w w' := by
  by_cases h0 : l.length = 0
  · exact walk_nil w v l t s hv hl h0
  · exact walk_some w v l t s hv hl (by omega)

set_option maxRecDepth 100000 in
/-- The law's step, at every reading. -/
theorem lifted (os : Os) (started : os.Started) (H : Type) (enc : TypeId × Value → H) :
    ReturnsInHanded {} Try.checked os 8 .any (Rows.merkleSharesSpec.pre6 enc Try.prog Try.f8 Rows.merkleSharesRow.domain false) (Rows.merkleSharesSpec.post enc Try.prog Try.f8 false true false false) := by
  refine law_lifted (C := Try.checked) (n := 3) (tb := 4) own started (by kernel_rfl) Try.func8 rfl (by kernel_rfl)
    (of_decide_eq_true (by kernel_rfl)) (by kernel_rfl) (by kernel_rfl) Try.underlying4
    (fun ds hd => by match ds, hd with | [_, _, _], _ => rfl)
    (ChangeSpec.witness6 (enc := enc) (C := Try.checked) false ⟨#[], #[.slice none 0 0, .int .i64 0, .int .i64 0], []⟩ 8 (by kernel_rfl) (by kernel_rfl) (by kernel_rfl) (by kernel_rfl)) ?_
  intro W base args ds ps hval hA hlt hsz
  rw [Try.params8] at hA hval
  obtain ⟨v0, vs0, d0, ds0, p0, q0, hargs, rfl, rfl, h0, r0⟩ := trodAll_cons hA
  obtain ⟨v1, vs1, d1, ds1, p1, q1, rfl, rfl, rfl, h1, r1⟩ := trodAll_cons r0
  obtain ⟨v2, vs2, d2, ds2, p2, q2, rfl, rfl, rfl, h2, r2⟩ := trodAll_cons r1
  obtain ⟨rfl, rfl, rfl⟩ := trodAll_nil r2
  obtain rfl : args = #[v0, v1, v2] := by cases args; simp_all
  obtain ⟨A0, l0, c0, rfl, hc0, hm0, hr0⟩ := open_names Try.underlying22 Try.underlying27 Try.underlying5 cells1 cells8 bytes8 (hval 0 _ v0 rfl rfl) h0 (fun x hx => hlt x (by simp [hx])) hsz (j := 0) (by rw [Try.params8]; rfl) rfl
  obtain ⟨x1, rfl, rfl, rfl, wn1⟩ := open_int Try.underlying3 (hval 1 _ v1 rfl rfl) h1
  obtain ⟨x2, rfl, rfl, rfl, wn2⟩ := open_int Try.underlying3 (hval 2 _ v2 rfl rfl) h2
  exact walk W _ l0 x1 x2 (VN.mk hr0 hc0 hm0) (by omega) (bounds_i64 wn1) (bounds_i64 wn2)

theorem proved : Rows.MerkleSharesSaid :=
  OpenClaim.holds_of_wide 8 Try.f8 rfl rfl rfl rfl rfl rfl rfl ⟨rfl, rfl, rfl, rfl, rfl⟩ rfl rfl rfl rfl rfl (by kernel_rfl) Try.func8 (by kernel_rfl)
    (of_decide_eq_true (by kernel_rfl)) (by unfold Func.isWrapper; first | (rw [if_pos (by decide +kernel)]; kernel_rfl) | (rw [if_neg (by decide +kernel)]; exact ⟨rfl, rfl⟩))
    (fun os started H enc _ => lifted os started H enc)
#print axioms proved
end Go.Proofs.Ytllciohpphngiaa.merkleShares
