/-
  2 texts in one file: Md6, Md7.
-/
import Derived.Test.YtjghengkpbokaaaG12
import Derived.Test.YtjghengkpbokaaaG13
import Derived.Test.YtjghengkpbokaaaG14

/-
  The developers' manytime: the key's Sign.
-/
namespace Go.Fl
open Go.ChangeShapes Go.WideShapes Go.ChangeAt Go.RowKit
/-- What a key has put together below a level: the bytes, the name that is signed next, the number above. -/
def stS (s m : BitVec 64) (leaf : Nat) : Nat → List UInt8 × BitVec 64 × Nat
  | 0 => ([UInt8.ofNat (leaf / 256), UInt8.ofNat leaf], m, leaf)
  | k + 1 => ((stS s m leaf k).1 ++ lvlF s (k + 1) ((stS s m leaf k).2.2 / 32) ((stS s m leaf k).2.2 % 32) (stS s m leaf k).2.1, treeF s (k + 1) ((stS s m leaf k).2.2 / 32), (stS s m leaf k).2.2 / 32)
theorem stS_one (s m : BitVec 64) (leaf : Nat) (h : leaf < 32) : (stS s m leaf 1).1 = sign1F s leaf m := by
  unfold sign1F
  simp only [stS]
  rw [show leaf / 256 = 0 by omega, show leaf / 32 = 0 by omega, show leaf % 32 = leaf by omega]
  rfl
theorem stS_two (s m : BitVec 64) (leaf : Nat) (h : leaf < 1024) : (stS s m leaf 2).1 = sign2F s leaf m := by
  unfold sign2F
  simp only [stS]
  rw [show leaf / 32 / 32 = 0 by omega, show leaf / 32 % 32 = leaf / 32 by omega]
theorem keyAt_seed {tk tt tn : TypeId} {w : World} {D : Nat → Prop} {g : Nat} {s : BitVec 64} {n : Int} (h : KeyAt tk tt tn w D (.pointer (some ⟨g, 0, none⟩)) s n) : D g ∧ g < w.heap.size ∧ w.rangeAt g 0 (nmR s) ∧ w.cell? ⟨g, 8, none⟩ = some (.int .i64 n) := by
  obtain ⟨g', T, e, h2, h3, h4, h5⟩ := h
  injection e with e
  injection e with e
  injection e with e
  subst e
  exact ⟨h2, h3.lt, key2C_seed s n T h3, key2C_lev s n T h3⟩
theorem range_block {w w' : World} {g o : Nat} {cs : List Value} (h : w.rangeAt g o cs) (hb : w'.heap[g]? = w.heap[g]?) : w'.rangeAt g o cs := fun i u hi => (World.cell?_of_block (w := w) hb).trans (h i u hi)
theorem ob_block {w w' : World} {base : Nat} {tb : TypeId} {v : Value} {l : List UInt8} (h : OB w base tb v l) (hk : ∀ k, v.ownBlock = some k → w'.heap[k]? = w.heap[k]?) : OB w' base tb v l := by
  refine ⟨h.1, ?_⟩
  rcases h.2 with h2 | ⟨g, cap, cur, hv, hg, hh, r⟩
  · exact Or.inl h2
  · exact Or.inr ⟨g, cap, cur, hv, hg, (hk g (by rw [hv]; rfl)).trans hh, r⟩
theorem on_at {w : World} {base : Nat} {tn : TypeId} {v : Value} {l : List (BitVec 64)} (h : ON w base tn v l) : ∃ A c, v = .slice A l.length c ∧ (∀ g off, A = some ⟨g, off, none⟩ → base ≤ g ∧ g < w.heap.size) ∧ RN w w.heap.size A l := by
  obtain ⟨A, c, gp, e, h1, h2, h3, _⟩ := on_form h
  refine ⟨A, c, e, fun g off hA => ?_, h3⟩
  rcases h.2 with ⟨e2, h0⟩ | ⟨g', cap, cur, e2, hg, hh, _⟩
  · rw [e] at e2
    injection e2 with e3 _ _
    rw [hA] at e3
    cases e3
  · rw [e] at e2
    injection e2 with e3 _ _
    rw [hA] at e3
    injection e3 with e3
    injection e3 with e3
    subst e3
    exact ⟨hg, (Array.getElem?_eq_some_iff.1 hh).1⟩
end Go.Fl
namespace Go.Proofs.Ytjghengkpbokaaa
open Go.ChangeShapes Go.WideShapes Go.ChangeAt Go.RowKit Go.Fl

theorem dksign_no (D : Nat → Prop) (v : Value) (s : BitVec 64) (n C : Int) (leaf : Int) (m : BitVec 64) (hC : Hid (capF n = C)) (hl : leaf < 0 ∨ C ≤ leaf) (w : World) (_hD : ∀ k, D k → k < w.heap.size) (hK : KeyD w D v s n) :
    Calls Try.prog 23 #[v, .int .i64 leaf, nm m] w fun e w' => e = .returned (.tuple #[.slice none 0 0, .bool false]) ∧ Below w.heap.size w w' := by
  have hF := (Fr.refl w).alloc (.cells (nmC m) 30)
  obtain ⟨g, T, rfl, hDg, hI, hTl, hT⟩ := hK
  have hl8 := key2C_lev s n T (hI.next hF.1)
  by_cases h0 : leaf < 0
  · clear hl hT hI
    go_enter Try.func23, Try.ntmps23
    go_wp2_with fail
    go_ret2
    exact ⟨rfl, hF.1⟩
  · have h1 : C ≤ leaf := by omega
    have h2 : decide (C ≤ leaf) = true := by rw [decide_eq_true_iff]; exact h1
    clear hl hT hI
    go_enter Try.func23, Try.ntmps23
    go_wp2_with (first
      | (go_at_call 10; refine (dcap_v _ n C hC).mono ?_; rintro e w1 ⟨rfl, rfl⟩)
      | fail)
    go_ret2
    exact ⟨rfl, hF.1⟩

set_option maxRecDepth 10000 in
set_option maxHeartbeats 2000000 in
theorem dksign_yes (D : Nat → Prop) (g : Nat) (s : BitVec 64) (n leaf : Nat) (m : BitVec 64) (C : Nat) (hn1 : 1 ≤ n) (hn2 : n ≤ 2) (hC : Hid (capF n = (C : Int))) (hlC : leaf < C) (hl : leaf < 1024) (R : List UInt8) (hR : Hid ((stS s m leaf n).1 = R)) (w : World) (hD : ∀ k, D k → k < w.heap.size) (hK : KeyD w D (.pointer (some ⟨g, 0, none⟩)) s n) :
    Calls Try.prog 23 #[.pointer (some ⟨g, 0, none⟩), .int .i64 (leaf : Int), nm m] w fun e w' => ∃ u, e = .returned (.tuple #[u, .bool true]) ∧ OB w' w.heap.size 5 u R ∧ ∃ D', KeyD w' D' (.pointer (some ⟨g, 0, none⟩)) s n ∧ (∀ k, D' k → k < w'.heap.size ∧ (D k ∨ w.heap.size ≤ k)) ∧ (∀ b, b ≤ w.heap.size → (∀ k, D k → b ≤ k) → Below b w w') := by
  have hm := Is.new w 30 (nmC m)
  have hW : Below w.heap.size w (w.alloc (.cells (nmC m) 30)) := (Below.refl _ _).alloc (Nat.le_refl _) _
  have hsz : (w.alloc (.cells (nmC m) 30)).heap.size = w.heap.size + 1 := by simp
  obtain ⟨hDg, hg, -, -⟩ := keyAt_seed hK
  have hK1 : KeyD (w.alloc (.cells (nmC m) 30)) D (.pointer (some ⟨g, 0, none⟩)) s n := hK.keep fun k hk => hW.block k (hD k hk)
  have hl8 := (keyAt_seed hK1).2.2.2
  obtain ⟨S0, hS0⟩ : ∃ S, [] ++ tailB (ofn leaf) 2 = S := ⟨_, rfl⟩
  have hS0' : S0 = [UInt8.ofNat (leaf / 256), UInt8.ofNat leaf] := by
    rw [← hS0]
    have e : (ofn leaf).toNat = leaf := by
      have := iu_ofn leaf (by omega)
      unfold iu at this
      omega
    show [nb (ofn leaf) 6, nb (ofn leaf) 7] = _
    unfold nb
    rw [e]
    simp
  have hSL : S0.length = 2 := by rw [hS0']; rfl
  have HS0 := Lib.hid hS0
  have HS0' := Lib.hid hS0'
  have HD := Lib.hid hD
  have cv1 := fun W : World => conv_u64 leaf (by omega) W
  have f0 : decide ((C : Int) ≤ (leaf : Int)) = false := by rw [decide_eq_false_iff_not]; omega
  have f1 : ((leaf : Int) < (C : Int)) := by omega
  have f2 : (0 : Int) ≤ (leaf : Int) := by omega
  clear hS0 hS0' hD hK
  go_enter Try.func23, Try.ntmps23
  go_wp2_with (first
    | (go_at_call 10; refine (dcap_v _ n C hC).mono ?_; rintro e w1 ⟨rfl, rfl⟩)
    | fail)
  refine (appuint_n none [] 0 0 rfl _ 2 _ rfl (by omega) S0 HS0 (by simp) _ (RB.nil _ _ _)).mono ?_
  rintro e w1 ⟨u0, rfl, ho0, hb1⟩
  have hm1 := hm.next hb1
  have hrm : w1.rangeAt w.heap.size 0 (nmR m) := range_is (cs := nmR m) hm1
  have hK1 : KeyD w1 D (.pointer (some ⟨g, 0, none⟩)) s n := hK1.keep fun k hk => hb1.block k (by have := HD.out k hk; omega)
  have hB1 : Below w.heap.size w w1 := hW.trans (hb1.mono (by omega))
  have hs1 := hb1.size
  rw [hsz] at hs1 ho0
  have hn0 := Is.new w1 30 #[B 0, B 0, B 0, B 0, B 0, B 0, B 0, B 0]
  clear hl8 hm hW hb1 cv1 f0
  go_wp2_with (first
    | (refine wpList_load_mid rfl 30 (.tmp 5) rfl w.heap.size 0 (by rfl) (nmR m) _ hrm Try.underlying30 rfl name_info ?_)
    | (refine wpList_store_far rfl 30 (.tmp 9) (.tmp 35) rfl w1.heap.size 30 _ (nmC m) rfl rfl hn0 (nmC_size _) name_info (nmC_one _) ?_; intro w2 hz2 hb2 hfar2)
    | fail)
  have hal : Below w1.heap.size w1 w2 := ((Below.refl _ _).alloc (Nat.le_refl _) (.cells #[B 0, B 0, B 0, B 0, B 0, B 0, B 0, B 0] 30)).trans hb2
  have ho2 := ho0.keep hal
  have hK2 : KeyD w2 D (.pointer (some ⟨g, 0, none⟩)) s n := hK1.keep fun k hk => hal.block k (by have := HD.out k hk; omega)
  have hs2 := hz2.lt
  have hB2 := hB1.trans (hal.mono (by omega))
  have hlt0 := ob_lt ho0
  obtain ⟨pn, hpn⟩ : ∃ pn, w1.heap.size = pn := ⟨_, rfl⟩
  rw [hpn] at hz2 hs2 hs1 hlt0
  rw [hpn]
  clear hal hb2 hfar2 hn0 hrm hm1 hK1 hB1 ho0
  go_loopw [8, 10, 11] (fun u ab lv wr => ∃ (k S x a : Nat) (Sx : List UInt8) (xx : BitVec 64) (D' : Nat → Prop) (uu : Value), uu = u ∧ S = Sx.length ∧ x = 0 ∧ k ≤ n ∧ lv = .int .i64 ((k + 1 : Nat) : Int) ∧ ab = .int .i64 (a : Int) ∧ Hid (stS s m leaf k = (Sx, xx, a)) ∧ a < 1024 ∧ S = 2 + 184 * k ∧
      OB wr (w.heap.size + 1) 5 u Sx ∧ Is wr pn 30 (nmC xx) ∧ KeyD wr D' (.pointer (some ⟨g, 0, none⟩)) s n ∧ (∀ j, D' j → j < wr.heap.size ∧ (D j ∨ pn < j)) ∧ (∀ j, u.ownBlock = some j → j ≠ pn ∧ ¬ D' j) ∧ (∀ b, b ≤ w.heap.size → (∀ j, D j → b ≤ j) → Below b w wr)) (fun _ _ lv _ => n + 1 - (intOf lv).toNat)
  case atStart => exact ⟨0, 2, 0, leaf, S0, m, D, _, rfl, hSL.symm, rfl, by omega, rfl, rfl, Lib.hid (by rw [HS0'.out]; rfl), hl, rfl, ho2, hz2, hK2, fun j hj => ⟨by have := HD.out j hj; omega, Or.inl hj⟩, fun j hj => ⟨by have := hlt0 j hj; omega, fun hDj => by have := HD.out j hDj; have := ho2.own j hj; omega⟩, fun b hb hbD => hB2.mono hb⟩
  case round =>
    clear hB2 hlt0 ho2 hz2 hK2 hs2
    obtain ⟨k, S, x, a, Sx, xx, D', u, rfl, hSx, hx0, hk, rfl, rfl, hst, ha, hS, ho, hz, hK, hD', hown, hB⟩ := hrel
    obtain ⟨hDg', hg', -, hl8⟩ := keyAt_seed hK
    by_cases hlt : k < n
    · have hq1 : (a : Int) % 32 = ((a % 32 : Nat) : Int) := by omega
      obtain ⟨q, hq⟩ : ∃ q, a % 32 = q := ⟨_, rfl⟩
      obtain ⟨d, hd⟩ : ∃ d, a / 32 = d := ⟨_, rfl⟩
      have hq1 : (a : Int) % 32 = (q : Int) := by omega
      have hq2 : Int.tmod (a : Int) 32 = (q : Int) := by rw [Int.tmod_eq_emod_of_nonneg (by omega)]; exact hq1
      have hd1 : (a : Int) / 32 = (d : Int) := by omega
      have hd2 : Int.tdiv (a : Int) 32 = (d : Int) := by rw [Int.tdiv_eq_ediv_of_nonneg (by omega)]; exact hd1
      have hq32 : q < 32 := by omega
      have hd32 : d < 32 := by omega
      have hwd : IntKind.i64.wrap (d : Int) = (d : Int) := by rw [IntKind.wrap_i64]; omega
      have hwq : IntKind.i64.wrap (q : Int) = (q : Int) := by rw [IntKind.wrap_i64]; omega
      obtain ⟨l, hl1⟩ : ∃ l, k + 1 = l := ⟨_, rfl⟩
      have hl12 : l = 1 ∨ l = 2 := by omega
      rw [hl1]
      have k1 : (l : Int) ≤ (n : Int) := by omega
      obtain ⟨y1, hy1⟩ : ∃ y, keyF s l d q = y := ⟨_, rfl⟩
      obtain ⟨VL, hVL⟩ : ∃ V, valsF y1 (digF xx) = V := ⟨_, rfl⟩
      have hVLL := vals_len y1 (digF xx)
      rw [hVL] at hVLL
      have hst' := hst.out
      have hnext : stS s m leaf l = (Sx ++ lvlF s l d q xx, treeF s l d, d) := by
        rw [← hl1]
        show ((stS s m leaf k).1 ++ lvlF s (k + 1) ((stS s m leaf k).2.2 / 32) ((stS s m leaf k).2.2 % 32) (stS s m leaf k).2.1, treeF s (k + 1) ((stS s m leaf k).2.2 / 32), (stS s m leaf k).2.2 / 32) = _
        rw [hst', hq, hd]
      have HNX := Lib.hid hnext
      have HY1 := Lib.hid hy1
      have HVL := Lib.hid hVL
      have HVLL := Lib.hid hVLL
      have HSX := Lib.hid hSx
      have HS := Lib.hid hS
      have HD' := Lib.hid hD'
      have HOWN := Lib.hid hown
      have HB := Lib.hid hB
      have HQ := Lib.hid hq
      have HDD := Lib.hid hd
      have HL1 := Lib.hid hl1
      clear hq1 hst hst' hnext hy1 hVL hVLL hSx hS hD' hown hB hq hd
      go_wp2_with fail
      refine (dtree_any D' _ s n l d hl12 hd32 _ _ rfl rfl wr (fun j hj => (HD'.out j hj).1) hK).mono ?_
      rintro e w2 ⟨t, rfl, hT2, hK2, hs2, hk2, hb2⟩
      obtain ⟨gt, gp, L, rt, rfl, hgt, hgp, hI2, hP2, hL, hrt⟩ := hT2
      have hLL := leavesF_len s l d
      rw [hL.out] at hLL
      have ho2 : OB w2 (w.heap.size + 1) 5 u Sx := ob_block ho (fun j hj => hk2 j (ob_lt ho j hj) (HOWN.out j hj).2)
      have hz2 : Is w2 pn 30 (nmC xx) := (hk2 pn hz.lt (fun h => by have := (HD'.out pn h).2; rcases this with h | h; exact absurd (HD.out pn h) (by omega); omega)).trans hz
      have hlt2 : ∀ j, u.ownBlock = some j → j < wr.heap.size := ob_lt ho
      have hD2 : ∀ j, Grew D' wr w2 j → j < w2.heap.size ∧ (D j ∨ pn < j) := fun j hj => by
        have := hz.lt
        rcases hj with h | h
        · exact ⟨Nat.lt_of_lt_of_le (HD'.out j h).1 hs2, (HD'.out j h).2⟩
        · exact ⟨h.2, Or.inr (by omega)⟩
      have hown2 : ∀ j, u.ownBlock = some j → j ≠ pn ∧ ¬ Grew D' wr w2 j := fun j hj => ⟨(HOWN.out j hj).1, fun h => by
        rcases h with h | h
        · exact (HOWN.out j hj).2 h
        · have := hlt2 j hj; omega⟩
      have hB2 : ∀ b, b ≤ w.heap.size → (∀ j, D j → b ≤ j) → Below b w w2 := fun b hb hbD => (HB.out b hb hbD).trans (hb2 b (by have := (HB.out b hb hbD).size; omega) (fun j hj => by
        rcases (HD'.out j hj).2 with h | h
        · exact hbD j h
        · omega))
      generalize Grew D' wr w2 = D2 at *
      have hDg2 : D2 g := (keyAt_seed hK2).1
      have HD2 := Lib.hid hD2
      have HOWN2 := Lib.hid hown2
      have HB2 := Lib.hid hB2
      have HLT2 := Lib.hid hlt2
      clear hk2 hb2 hD2 hown2 hB2 hlt2 ho hz hK
      have hcn := treeC_names _ _ hI2
      obtain ⟨PL, hPL⟩ : ∃ P, pathF L q = P := ⟨_, rfl⟩
      have hPLL : PL.length = 5 := by
        have h := path32 s l d q hq32
        rw [hL.out, hPL] at h
        exact h
      have HPL := Lib.hid hPL
      have HPLL := Lib.hid hPLL
      clear hPL hPLL
      go_wp2_with fail
      refine (mpath_yes (some ⟨gp, 0, none⟩) L 32 32 q _ PL rfl hLL hq32 HPL (by omega) (by omega) _ (is_rn hP2)).mono ?_
      rintro e w3 ⟨vp, rfl, hop, hb3⟩
      obtain ⟨Ap, cp, rfl, hAp, hRp⟩ := on_at hop
      have s23 : w2.heap.size ≤ w3.heap.size := hb3.size
      have ho3 := ho2.keep hb3
      have hz3 := hz2.next hb3
      have hK3 : KeyD w3 D2 (.pointer (some ⟨g, 0, none⟩)) s n := hK2.keep fun j hj => hb3.block j (HD2.out j hj).1
      obtain ⟨-, hg3, hsr3, -⟩ := keyAt_seed hK3
      have s2r : wr.heap.size ≤ w2.heap.size := hs2
      have hpr : pn < w2.heap.size := hz2.lt
      clear hop hcn hK3 ho2 hl8
      go_wp2_with fail
      refine wp_region_held_drew (S := fun w' => w'.rangeAt g 0 (nmR s) ∧ Is w' pn 30 (nmC xx)) (by kernel_rfl) ⟨hsr3, hz3.drew⟩ (fun hHeld => ?_)
      refine held_pure 0 62 (u) rfl (fun W => by rfl) hHeld ?_
      try simp only [Act.put, List.setIfInBounds_toArray, List.set_cons_zero, List.set_cons_succ]
      refine held_pure 1 63 (.pointer (some ⟨g, 0, none⟩)) rfl (fun W => by rfl) hHeld ?_
      try simp only [Act.put, List.setIfInBounds_toArray, List.set_cons_zero, List.set_cons_succ]
      refine held_pure 2 64 (.pointer (some ⟨g, 0, none⟩)) rfl (fun W => by go_simp) hHeld ?_
      try simp only [Act.put, List.setIfInBounds_toArray, List.set_cons_zero, List.set_cons_succ]
      refine held_pure 3 65 (.pointer (some ⟨g, 0, none⟩)) rfl (fun W => by go_simp) hHeld ?_
      try simp only [Act.put, List.setIfInBounds_toArray, List.set_cons_zero, List.set_cons_succ]
      refine held_load 4 66 rfl 30 (.tmp 65) rfl g 0 rfl (nmR s) (fun w' h => h.1) Try.underlying30 name_info hHeld ?_
      try simp only [Act.put, List.setIfInBounds_toArray, List.set_cons_zero, List.set_cons_succ]
      refine held_pure 5 67 (.int .i64 (l : Int)) rfl (fun W => by rfl) hHeld ?_
      try simp only [Act.put, List.setIfInBounds_toArray, List.set_cons_zero, List.set_cons_succ]
      refine held_pure 6 68 (.int .i64 (d : Int)) rfl (fun W => by rfl) hHeld ?_
      try simp only [Act.put, List.setIfInBounds_toArray, List.set_cons_zero, List.set_cons_succ]
      refine held_pure 7 69 (.int .i64 (q : Int)) rfl (fun W => by rfl) hHeld ?_
      try simp only [Act.put, List.setIfInBounds_toArray, List.set_cons_zero, List.set_cons_succ]
      refine held_load 9 71 rfl 30 (.tmp 9) rfl pn 0 rfl (nmR xx) (fun w' h => range_is (cs := nmR xx) h.2) Try.underlying30 name_info hHeld ?_
      try simp only [Act.put, List.setIfInBounds_toArray, List.set_cons_zero, List.set_cons_succ]
      refine held_one (i := 8) (by kernel_rfl) rfl (by rfl) (fun KK hK => ?_)
      go_wp2_with fail
      refine (dseed_any s l d q (by omega) (by omega) (by omega) y1 HY1 _).mono ?_
      rintro e w4 ⟨rfl, hb4⟩
      have s34 : w3.heap.size ≤ w4.heap.size := hb4.size
      go_wp2_with fail
      refine hK.out _ _ ⟨range_keep hHeld.1 hb4 hg3, hHeld.2.next hb4⟩ (fun hHeld1 => ?_)
      clear hK KK
      try simp only [Act.put, List.setIfInBounds_toArray, List.set_cons_zero, List.set_cons_succ]
      refine held_one (i := 10) (by kernel_rfl) rfl (by rfl) (fun KK hK => ?_)
      go_wp2_with fail
      refine (oneO.sign _ y1 xx).mono ?_
      rintro e w5 ⟨vs, rfl, hos, hb5⟩
      rw [HVL.out] at hos
      obtain ⟨As, cs, rfl, hAs, hRs⟩ := on_at hos
      have s45 : w4.heap.size ≤ w5.heap.size := hb5.size
      have ho5 := (ho3.drew.keep hb4).keep hb5
      clear hos
      go_wp2_with fail
      refine hK.out _ _ ⟨range_keep hHeld1.1 hb5 (by omega), hHeld1.2.next hb5⟩ (fun hHeld2 => ?_)
      clear hK KK
      try simp only [Act.put, List.setIfInBounds_toArray, List.set_cons_zero, List.set_cons_succ]
      refine held_one (i := 11) (by kernel_rfl) rfl (by rfl) (fun KK hK => ?_)
      go_wp2_with fail
      refine (djoin_any u Sx As VL VL.length cs (w.heap.size + 1) rfl (by have := HVLL.out; omega) (by have := HSX.out; have := HS.out; omega) _ (by omega) ho5 hRs (fun g1 off1 hA hu => by have := (hAs g1 off1 hA).1; have := HLT2.out g1 hu; omega)).mono ?_
      rintro e w6 ⟨u6, rfl, ho6, hb6, hk6, how6⟩
      have s56 : w5.heap.size ≤ w6.heap.size := hb6.size
      go_wp2_with fail
      refine hK.out _ _ ⟨range_block hHeld2.1 (hk6 g (by omega) (fun h => (HOWN2.out g h).2 hDg2)), (hk6 pn (by omega) (fun h => (HOWN2.out pn h).1 rfl)).trans hHeld2.2⟩ (fun hHeld3 => ?_)
      clear hK KK
      try simp only [Act.put, List.setIfInBounds_toArray, List.set_cons_zero, List.set_cons_succ]
      refine held_pure 12 8 (u6) rfl (fun W => by rfl) hHeld3 ?_
      try simp only [Act.put, List.setIfInBounds_toArray, List.set_cons_zero, List.set_cons_succ]
      refine wpAnyH_done (by kernel_rfl) ?_ _
      try simp only [Act.put, List.setIfInBounds_toArray, List.set_cons_zero, List.set_cons_succ]
      have hkk : ∀ k, k < w3.heap.size → u.ownBlock ≠ some k → w6.heap[k]? = w3.heap[k]? := fun k hk hu => (hk6 k (by omega) hu).trans ((hb5.block k (by omega)).trans (hb4.block k hk))
      have hRp6 : RN w6 w6.heap.size Ap PL := (rn_far (_gp := 0) hRp (Nat.le_refl _) (fun g1 off1 hA _ => hkk g1 (hAp g1 off1 hA).2 (fun hu => by have := (hAp g1 off1 hA).1; have := HLT2.out g1 hu; omega))).mono (by omega)
      clear hk6 ho5 ho3 hRs hRp hAs
      go_wp2_with fail
      refine (djoin_any u6 (Sx ++ nsB VL) Ap PL PL.length cp (w.heap.size + 1) rfl (by have := HPLL.out; omega) (by rw [List.length_append, nsB_len]; have := HSX.out; have := HS.out; have := HVLL.out; omega) _ (by omega) ho6 hRp6 (fun g1 off1 hA hu => by
        have h1 := hAp g1 off1 hA
        rcases how6 with h | ⟨j, h, hj⟩
        · have := HLT2.out g1 (h.symm.trans hu); omega
        · have e3 := h.symm.trans hu; injection e3 with e3; omega)).mono ?_
      rintro e w7 ⟨u7, rfl, ho7, hb7, hk7, how7⟩
      have s67 : w6.heap.size ≤ w7.heap.size := hb7.size
      have how6' : ∀ k, k < w2.heap.size → u.ownBlock ≠ some k → u6.ownBlock ≠ some k := fun k hk hu h6 => by
        rcases how6 with h | ⟨j, h, hj⟩
        · exact hu (h.symm.trans h6)
        · have e3 := h.symm.trans h6; injection e3 with e3; omega
      have hkA : ∀ k, k < w2.heap.size → u.ownBlock ≠ some k → w7.heap[k]? = w2.heap[k]? := fun k hk hu => (hk7 k (by omega) (how6' k hk hu)).trans ((hkk k (by omega) hu).trans (hb3.block k hk))
      have how7' : ∀ k, k < w2.heap.size → u.ownBlock ≠ some k → u7.ownBlock ≠ some k := fun k hk hu h7 => by
        rcases how7 with h | ⟨j, h, hj⟩
        · exact how6' k hk hu (h.symm.trans h7)
        · have e3 := h.symm.trans h7; injection e3 with e3; omega
      have hI7 : Is w7 gt 67 _ := (hkA gt (HD2.out gt hgt).1 (fun h => (HOWN2.out gt h).2 hgt)).trans hI2
      have hz7 : Is w7 pn 30 (nmC xx) := (hkA pn hpr (fun h => (HOWN2.out pn h).1 rfl)).trans hz2
      have hK7 : KeyD w7 D2 (.pointer (some ⟨g, 0, none⟩)) s n := hK2.keep fun k hk => hkA k (HD2.out k hk).1 (fun h => (HOWN2.out k h).2 hk)
      have hrr := treeC_root _ _ hI7
      clear hI2 hP2 hK2 hz2 hkk hk7 ho6 hI7
      go_wp2_with (first
        | (refine wpList_load_mid rfl 30 (.tmp 79) rfl gt 1 (by rfl) (nmR rt) _ hrr Try.underlying30 rfl name_info ?_)
        | (refine wpList_store_far rfl 30 (.tmp 9) (.tmp 80) rfl pn 30 _ (nmC rt) rfl rfl hz7 (nmC_size _) name_info (nmC_one _) ?_; intro w8 hz8 hb8 hfar8)
        | fail)
      go_roundw
      case rel =>
        have s78 : w7.heap.size ≤ w8.heap.size := hb8.size
        have hown7 : ∀ j, u7.ownBlock = some j → j ≠ pn ∧ ¬ D2 j := fun j hj => ⟨fun e => how7' pn hpr (fun h => (HOWN2.out pn h).1 rfl) (e ▸ hj), fun h => how7' j (HD2.out j h).1 (fun h2 => (HOWN2.out j h2).2 h) hj⟩
        have hpD : ∀ j, D2 j → j ≠ pn := fun j hj e => by
          rcases (HD2.out j hj).2 with h | h
          · have := HD.out j h; omega
          · omega
        have eS : (Sx ++ nsB VL) ++ nsB PL = Sx ++ lvlF s l d q xx := by
          unfold lvlF
          rw [HY1.out, HVL.out, hL.out, HPL.out, List.append_assoc]
        have eT : treeF s l d = rt := by
          unfold treeF
          rw [hL.out, hrt.out]
        rw [eS] at ho7
        refine ⟨l, _, 0, d, Sx ++ lvlF s l d q xx, rt, D2, u7, rfl, rfl, rfl, by omega, by go_num, rfl, Lib.hid (by rw [HNX.out, eT]), by omega, ?_, ob_block ho7 (fun j hj => hfar8 j (hown7 j hj).1), hz8, hK7.keep (fun j hj => hfar8 j (hpD j hj)), fun j hj => ⟨by have := (HD2.out j hj).1; omega, (HD2.out j hj).2⟩, hown7, fun b hb hbD => ?_⟩
        · rw [List.length_append, lvlF_len _ _ _ _ _ hq32]
          have := HSX.out
          have := HS.out
          have := HL1.out
          omega
        · have hbs := (HB2.out b hb hbD)
          exact hbs.trans ((hb3.mono (by omega)).trans (((Below.refl b w3).drew.trans (hb4.mono (by show b ≤ w3.heap.size; omega))).trans ((hb5.mono (by omega)).trans ((hb6.mono (by omega)).trans ((hb7.mono (by omega)).trans (hb8.mono (by omega)))))))
      case measure => simp [intOf]; have := HL1.out; omega
    · obtain rfl : k = n := by omega
      have k1 : ¬ (((k + 1 : Nat) : Int) ≤ (k : Int)) := by omega
      have k2 : decide (((k + 1 : Nat) : Int) ≤ (k : Int)) = false := by rw [decide_eq_false_iff_not]; exact k1
      have hRS : Sx = R := by rw [← hR.out, hst.out]
      subst hRS
      obtain ⟨l, hl1⟩ : ∃ l, k + 1 = l := ⟨_, rfl⟩
      rw [hl1] at k1 k2 ⊢
      have HD' := Lib.hid hD'
      have HB := Lib.hid hB
      clear hown hst hS hSx hl1 hD' hB
      go_wp2_with fail
      go_ret2
      exact ⟨u, rfl, ho.base_le (by omega), D', hK, fun j hj => ⟨(HD'.out j hj).1, (HD'.out j hj).2.imp id (fun h => by omega)⟩, HB.out⟩
end Go.Proofs.Ytjghengkpbokaaa

/-
  The developers' manytime: Sign, with a key and without.
-/
namespace Go.Fl
open Go.ChangeShapes Go.WideShapes Go.ChangeAt Go.RowKit
theorem OB.nothing (w : World) (base : Nat) (t : TypeId) : OB w base t (.slice none 0 0) [] := ⟨rfl, .inl ⟨rfl, rfl⟩⟩
end Go.Fl
namespace Go.Proofs.Ytjghengkpbokaaa
open Go.ChangeShapes Go.WideShapes Go.ChangeAt Go.RowKit Go.Fl

theorem dksign_any (D : Nat → Prop) (g : Nat) (s : BitVec 64) (n leaf : Int) (m : BitVec 64) (hn : n = 1 ∨ n = 2) (r : List UInt8 × Bool) (hr : Hid (signP s n leaf m = r)) (w : World) (hD : ∀ k, D k → k < w.heap.size) (hK : KeyD w D (.pointer (some ⟨g, 0, none⟩)) s n) :
    Calls Try.prog 23 #[.pointer (some ⟨g, 0, none⟩), .int .i64 leaf, nm m] w fun e w' => ∃ u, e = .returned (.tuple #[u, .bool r.2]) ∧ OB w' w.heap.size 5 u r.1 ∧ ∃ D', KeyD w' D' (.pointer (some ⟨g, 0, none⟩)) s n ∧ (∀ k, D' k → k < w'.heap.size ∧ (D k ∨ w.heap.size ≤ k)) ∧ (∀ b, b ≤ w.heap.size → (∀ k, D k → b ≤ k) → Below b w w') := by
  have no : ∀ C : Int, Hid (capF n = C) → (leaf < 0 ∨ C ≤ leaf) → r = ([], false) → Calls Try.prog 23 #[.pointer (some ⟨g, 0, none⟩), .int .i64 leaf, nm m] w fun e w' => ∃ u, e = .returned (.tuple #[u, .bool r.2]) ∧ OB w' w.heap.size 5 u r.1 ∧ ∃ D', KeyD w' D' (.pointer (some ⟨g, 0, none⟩)) s n ∧ (∀ k, D' k → k < w'.heap.size ∧ (D k ∨ w.heap.size ≤ k)) ∧ (∀ b, b ≤ w.heap.size → (∀ k, D k → b ≤ k) → Below b w w') := fun C hC hl e0 => by
    subst e0
    refine (dksign_no D _ s n C leaf m hC hl w hD hK).mono ?_
    rintro e w' ⟨rfl, hb⟩
    exact ⟨_, rfl, OB.nothing _ _ _, D, hK.keep fun k hk => hb.block k (hD k hk), fun k hk => ⟨Nat.lt_of_lt_of_le (hD k hk) hb.size, Or.inl hk⟩, fun b hb' _ => hb.mono hb'⟩
  have h := hr.out
  unfold signP at h
  rcases hn with rfl | rfl
  · by_cases hl : 0 ≤ leaf ∧ leaf < 32
    · rw [if_pos ⟨rfl, hl⟩] at h
      obtain ⟨a, rfl⟩ : ∃ a : Nat, leaf = (a : Int) := ⟨leaf.toNat, by omega⟩
      subst h
      refine (dksign_yes D g s 1 a m 32 (by omega) (by omega) (Lib.hid rfl) (by omega) (by omega) _ (Lib.hid (stS_one s m a (by omega))) w hD hK).mono ?_
      rintro e w' ⟨u, rfl, h1, h2⟩
      exact ⟨u, rfl, h1, h2⟩
    · rw [if_neg (fun hh => hl hh.2), if_neg (fun hh => absurd hh.1 (by decide))] at h
      exact no 32 (Lib.hid rfl) (by omega) h.symm
  · by_cases hl : 0 ≤ leaf ∧ leaf < 1024
    · rw [if_neg (fun hh => absurd hh.1 (by decide)), if_pos ⟨rfl, hl⟩] at h
      obtain ⟨a, rfl⟩ : ∃ a : Nat, leaf = (a : Int) := ⟨leaf.toNat, by omega⟩
      subst h
      refine (dksign_yes D g s 2 a m 1024 (by omega) (by omega) (Lib.hid rfl) (by omega) (by omega) _ (Lib.hid (stS_two s m a (by omega))) w hD hK).mono ?_
      rintro e w' ⟨u, rfl, h1, h2⟩
      exact ⟨u, rfl, h1, h2⟩
    · rw [if_neg (fun hh => absurd hh.1 (by decide)), if_neg (fun hh => hl hh.2)] at h
      exact no 1024 (Lib.hid rfl) (by omega) h.symm

set_option maxRecDepth 10000 in
set_option maxHeartbeats 1000000 in
theorem dsign_any (w : World) (s : BitVec 64) (lv leaf : Int) (m : BitVec 64) (r : List UInt8 × Bool) (hr : Hid (signP s lv leaf m = r)) :
    Calls Try.prog 15 #[nm s, .int .i64 lv, .int .i64 leaf, nm m] w (RetBy w 5 r) := by
  obtain ⟨hb, hm, hF⟩ := signW_facts w s m
  have hsz : (signW w s m).heap.size = w.heap.size + 2 := by simp [signW]
  by_cases hn : lv = 1 ∨ lv = 2
  · go_enter Try.func15, Try.ntmps15
    go_wp2_with fail
    change Code.wp _ _ _ _ (signW w s m)
    generalize signW w s m = W at *
    refine wp_region_held_drew (S := fun w' => Below W.heap.size W w') (by kernel_rfl) (Below.refl _ _).drew (fun hHeld => ?_)
    refine held_load 0 10 rfl 30 (.tmp 4) rfl w.heap.size 0 rfl (nmR s) (fun w' h => range_is (cs := nmR s) (hb.next h)) Try.underlying30 name_info hHeld ?_
    try simp only [Act.put, List.setIfInBounds_toArray, List.set_cons_zero, List.set_cons_succ]
    refine held_pure 1 11 (.int .i64 lv) rfl (fun W => by rfl) hHeld ?_
    try simp only [Act.put, List.setIfInBounds_toArray, List.set_cons_zero, List.set_cons_succ]
    refine held_pure 3 13 (.int .i64 leaf) rfl (fun W => by rfl) hHeld ?_
    try simp only [Act.put, List.setIfInBounds_toArray, List.set_cons_zero, List.set_cons_succ]
    refine held_load 4 14 rfl 30 (.tmp 7) rfl (w.heap.size + 1) 0 rfl (nmR m) (fun w' h => range_is (cs := nmR m) (hm.next h)) Try.underlying30 name_info hHeld ?_
    try simp only [Act.put, List.setIfInBounds_toArray, List.set_cons_zero, List.set_cons_succ]
    refine held_one (i := 2) (by kernel_rfl) rfl (by rfl) (fun KK hK => ?_)
    go_wp2_with fail
    refine (dnew_yes s lv hn _).mono ?_
    rintro e w1 ⟨g, rfl, hg, hI, hb⟩
    have hI := hI
    go_wp2_with fail
    refine hK.out _ _ (hHeld.trans (hb.mono hHeld.size)) (fun hHeld1 => ?_)
    clear hK KK
    try simp only [Act.put, List.setIfInBounds_toArray, List.set_cons_zero, List.set_cons_succ]
    refine held_one (i := 5) (by kernel_rfl) rfl (by rfl) (fun KK hK => ?_)
    go_wp2_with fail
    refine (dksign_any _ g s lv leaf m hn r hr _ (fun k hk => by subst hk; exact hI.lt) (key_new hI)).mono ?_
    rintro e w2 ⟨u, rfl, ho, D2, -, -, hb2⟩
    have s12 : W.heap.size ≤ w1.heap.size := hHeld1.size
    have hE : Below W.heap.size W w2 := hHeld1.trans (hb2 W.heap.size s12 (fun k hk => by subst hk; exact hg))
    go_wp2_with fail
    refine hK.out _ _ hE (fun hHeld2 => ?_)
    clear hK KK
    try simp only [Act.put, List.setIfInBounds_toArray, List.set_cons_zero, List.set_cons_succ]
    refine held_pure 6 16 (u) rfl (fun W => by rfl) hHeld2 ?_
    try simp only [Act.put, List.setIfInBounds_toArray, List.set_cons_zero, List.set_cons_succ]
    refine held_pure 7 17 (.bool r.2) rfl (fun W => by rfl) hHeld2 ?_
    try simp only [Act.put, List.setIfInBounds_toArray, List.set_cons_zero, List.set_cons_succ]
    refine held_pure 8 8 (u) rfl (fun W => by rfl) hHeld2 ?_
    try simp only [Act.put, List.setIfInBounds_toArray, List.set_cons_zero, List.set_cons_succ]
    refine held_pure 9 9 (.bool r.2) rfl (fun W => by rfl) hHeld2 ?_
    try simp only [Act.put, List.setIfInBounds_toArray, List.set_cons_zero, List.set_cons_succ]
    refine wpAnyH_done (by kernel_rfl) ?_ _
    try simp only [Act.put, List.setIfInBounds_toArray, List.set_cons_zero, List.set_cons_succ]
    go_wp2_with fail
    go_ret2
    exact ⟨u, rfl, ho.base_le (by have := hF.2; omega), hF.1.trans (hE.mono (by omega))⟩
  · have e0 : r = ([], false) := by rw [← hr.out]; unfold signP; rw [if_neg (fun h => hn (Or.inl h.1)), if_neg (fun h => hn (Or.inr h.1))]
    subst e0
    go_enter Try.func15, Try.ntmps15
    go_wp2_with fail
    change Code.wp _ _ _ _ (signW w s m)
    generalize signW w s m = W at *
    refine wp_region_held_drew (S := fun w' => Below W.heap.size W w') (by kernel_rfl) (Below.refl _ _).drew (fun hHeld => ?_)
    refine held_load 0 10 rfl 30 (.tmp 4) rfl w.heap.size 0 rfl (nmR s) (fun w' h => range_is (cs := nmR s) (hb.next h)) Try.underlying30 name_info hHeld ?_
    try simp only [Act.put, List.setIfInBounds_toArray, List.set_cons_zero, List.set_cons_succ]
    refine held_pure 1 11 (.int .i64 lv) rfl (fun W => by rfl) hHeld ?_
    try simp only [Act.put, List.setIfInBounds_toArray, List.set_cons_zero, List.set_cons_succ]
    refine held_pure 3 13 (.int .i64 leaf) rfl (fun W => by rfl) hHeld ?_
    try simp only [Act.put, List.setIfInBounds_toArray, List.set_cons_zero, List.set_cons_succ]
    refine held_load 4 14 rfl 30 (.tmp 7) rfl (w.heap.size + 1) 0 rfl (nmR m) (fun w' h => range_is (cs := nmR m) (hm.next h)) Try.underlying30 name_info hHeld ?_
    try simp only [Act.put, List.setIfInBounds_toArray, List.set_cons_zero, List.set_cons_succ]
    refine held_one (i := 2) (by kernel_rfl) rfl (by rfl) (fun KK hK => ?_)
    go_wp2_with fail
    refine (dnew_no s lv hn _).mono ?_
    rintro e w1 ⟨rfl, hb⟩
    go_wp2_with fail
    refine hK.out _ _ (hHeld.trans (hb.mono hHeld.size)) (fun hHeld1 => ?_)
    clear hK KK
    try simp only [Act.put, List.setIfInBounds_toArray, List.set_cons_zero, List.set_cons_succ]
    refine held_one (i := 5) (by kernel_rfl) rfl (by rfl) (fun KK hK => ?_)
    go_wp2_with fail
    refine (dksign_nil _ leaf m).mono ?_
    rintro e w2 ⟨rfl, hb2⟩
    have s12 : W.heap.size ≤ w1.heap.size := hHeld1.size
    have hE : Below W.heap.size W w2 := hHeld1.trans (hb2.mono s12)
    go_wp2_with fail
    refine hK.out _ _ hE (fun hHeld2 => ?_)
    clear hK KK
    try simp only [Act.put, List.setIfInBounds_toArray, List.set_cons_zero, List.set_cons_succ]
    refine held_pure 6 16 (.slice none 0 0) rfl (fun W => by rfl) hHeld2 ?_
    try simp only [Act.put, List.setIfInBounds_toArray, List.set_cons_zero, List.set_cons_succ]
    refine held_pure 7 17 (.bool false) rfl (fun W => by rfl) hHeld2 ?_
    try simp only [Act.put, List.setIfInBounds_toArray, List.set_cons_zero, List.set_cons_succ]
    refine held_pure 8 8 (.slice none 0 0) rfl (fun W => by rfl) hHeld2 ?_
    try simp only [Act.put, List.setIfInBounds_toArray, List.set_cons_zero, List.set_cons_succ]
    refine held_pure 9 9 (.bool false) rfl (fun W => by rfl) hHeld2 ?_
    try simp only [Act.put, List.setIfInBounds_toArray, List.set_cons_zero, List.set_cons_succ]
    refine wpAnyH_done (by kernel_rfl) ?_ _
    try simp only [Act.put, List.setIfInBounds_toArray, List.set_cons_zero, List.set_cons_succ]
    go_wp2_with fail
    go_ret2
    exact ⟨_, rfl, OB.nothing _ _ _, hF.1.trans (hE.mono (by omega))⟩
end Go.Proofs.Ytjghengkpbokaaa
