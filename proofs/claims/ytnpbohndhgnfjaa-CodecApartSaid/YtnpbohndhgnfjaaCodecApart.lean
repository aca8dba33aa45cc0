/-
  The statement CodecApart, proved for every slice of values, number and value, with no condition: two rows of values of the same kinds and widths have the same bytes only if they are equal.
-/
import Derived.Test.YtnpbohndhgnfjaaApart
import Derived.Test.YtnpbohndhgnfjaaOwn
import Derived.Deep.RegionHeld3
namespace Go.Fl
open Go.ChangeShapes Go.WideShapes Go.ChangeAt Go.RowKit
/-- An argument of any shape is opened. -/
theorem open_rep_any {H : Type} {enc : TypeId × Value → H} {P : Program} {w : World} {t : TypeId} {α : Type} (R : Rep P t α) {v : Value} {d : DataW H} {p : List MemPlace}
    (h : DataW.Trod enc P w 0 (fun _ => true) true t v d p) (hlt : ∀ x ∈ p, x.block < w.heap.size)
    {tys : List TypeId} {ds : List (DataW H)} (hsz : (DataW.weightsEach P tys ds).all (· ≤ reachBytes) = true) {j : Nat} (hj : tys[j]? = some t) (hd : ds[j]? = some d) :
    ∃ y, R.is w y v.cells.toList ∧ R.fine y := by
  obtain ⟨fuel, hf⟩ := h
  refine R.opened hf hlt fun n hn => ?_
  have := List.all_eq_true.1 hsz n (DataW.weights_mem_each hj hd n hn)
  simpa using this
end Go.Fl
namespace Go.Proofs.Ytnpbohndhgnfjaa.codecApart
open Go.ChangeShapes Go.WideShapes Go.ChangeAt Go.RowKit Go.Fl

theorem own : ownKnob Try.prog.godebug = none := by kernel_rfl
theorem cells1 : Try.prog.cellsOf 5 = 1 := by kernel_rfl
theorem bytes1 : Try.prog.bytesOf 5 = 1 := by kernel_rfl
theorem infoV : (Try.prog.info? 44).map (fun i => (i.zero, i.size, i.bytes)) = some (some (.agg #[.int .i64 0, .int .i64 0, .int .u64 0, .slice none 0 0, .slice none 0 0]), 5, 72) := by kernel_rfl
theorem sizeV : (Try.prog.info? 44).map (·.size) = some 5 := by kernel_rfl
theorem valC_one (k n : Int) (v : BitVec 64) (A : Option Addr) (a c : Nat) (B : Option Addr) (b d : Nat) : (valC k n v A a c B b d).all (·.oneCell') = true := by simp [Value.oneCell']
theorem oneV : OneCell rVal := by
  intro w x cs h u hu
  obtain ⟨A, a, c, B, b, d, rfl, _⟩ := rVal_form h
  simp at hu
  rcases hu with rfl | rfl | rfl | rfl | rfl <;> rfl

theorem index_in (t : Int) (n : Nat) (h : 0 < n) (hn : n ≤ 60) : ∃ k : Nat, k < n ∧ wrap64 ((IntKind.u64.wrap t).tmod (n : Int)) = (k : Int) := by
  have h1 : 0 ≤ IntKind.u64.wrap t := by rw [IntKind.wrap_u64]; omega
  rw [Int.tmod_eq_emod_of_nonneg h1]
  have h2 := Int.emod_nonneg (IntKind.u64.wrap t) (show (n : Int) ≠ 0 by omega)
  have h3 := Int.emod_lt_of_pos (IntKind.u64.wrap t) (show (0 : Int) < n by omega)
  refine ⟨(IntKind.u64.wrap t % (n : Int)).toNat, by omega, ?_⟩
  unfold wrap64
  omega

theorem range_is {w : World} {g : Nat} {t : TypeId} {cs : List Value} (h : Is w g t cs.toArray) : w.rangeAt g 0 cs := fun i u hi => by
  rw [Nat.zero_add, h.cell i]
  simpa using hi
theorem range_keep {w w' : World} {g o : Nat} {cs : List Value} (h : w.rangeAt g o cs) (hb : Below w.heap.size w w') (hg : g < w.heap.size) : w'.rangeAt g o cs := fun i u hi => (hb.cell hg).trans (h i u hi)

set_option maxHeartbeats 8000000 in
set_option maxRecDepth 10000 in
theorem walk_mid (w : World) (u : Value) (L : List Val) (h2 : VS rVal w u L) (hf : ∀ x ∈ L, rVal.fine x) (h0 : 0 < L.length) (hL : L.length ≤ 60) (t : Int) (k n : Int) (v : BitVec 64) (A : Option Addr) (a c : Nat) (B : Option Addr) (b d : Nat)
    (p : List UInt8) (N : List (BitVec 64)) (hp : VB w (.slice A a c) p) (hn : VN w (.slice B b d) N) (hpl : p.length ≤ 140737488351232) (hNl : N.length ≤ 17592186044160) :
    Calls Try.prog 7 #[u, .int .i64 t, .agg (valC k n v A a c B b d)] w fun e w' => e = .returned (.bool true) ∧ Below w.heap.size w w' := by
  obtain ⟨i0, hi, hz0, hz1, hz2⟩ := info_parts infoV
  have HI := Lib.hid hi
  have HZ0 := Lib.hid hz0
  have HZ1 := Lib.hid hz1
  have HZ2 := Lib.hid hz2
  clear hi hz0 hz1 hz2
  have hH2 := h2
  obtain ⟨A0, c0, rfl, hc1, hc2⟩ := h2.form
  have s1 : (L.length : Int) ≤ 60 := by omega
  have s2 : (0 : Int) < (L.length : Int) := by omega
  have b1 : ((L.length : Int) == 0) = false := by rw [beq_eq_false_iff_ne]; omega
  have b2 : decide ((60 : Int) < (L.length : Int)) = false := by rw [decide_eq_false_iff_not]; omega
  obtain ⟨j, hj, hje⟩ := index_in t L.length h0 hL
  obtain ⟨x, hx⟩ : ∃ x, L[j]? = some x := ⟨_, List.getElem?_eq_getElem hj⟩
  have hbox := Is.new w 44 (valC k n v A a c B b d)
  have hosE := OS.empty rVal w (w.alloc (.cells (valC k n v A a c B b d) 44)) (g := w.heap.size + 1) (by simp)
  have hE : Below w.heap.size w ((w.alloc (.cells (valC k n v A a c B b d) 44)).alloc (.cells #[] 44)) := ((Below.refl _ _).alloc (Nat.le_refl _) _).alloc (by simp) _
  have s4 : (0 : Int) ≤ (j : Int) := by omega
  have s5 : (j : Int) < (L.length : Int) := by omega
  have HJE := Lib.hid hje
  have HX := Lib.hid hx
  clear hx
  go_enter Try.func7, Try.ntmps7
  go_wp2_with (first
    | (at_builtin; refine wpList_append_os (R := rVal) (w0 := w) rfl (.tmp 29) (.tmp 30) 41 rfl (w.heap.size + 1) i0 _ 72 Try.underlying41 HI.out HZ0.out rfl (HZ1.out.trans cellsV.symm) HZ2.out (by (rw [cellsV]; omega)) oneV rfl hosE rfl hH2 hE h0 (by (simp only [maxLen, List.length_nil]; omega)) (by (simp only [List.length_nil]; omega)) (by simp) ?_; intro v1 w1 hos1 hg1)
    | fail)
  have hos1 : OS rVal w w1 (w.heap.size + 1) v1 L := by simpa using hos1
  have hB1 : Below w.heap.size w w1 := hE.grown hg1 (by simp; omega) (fun q hq => by have e : w.heap.size + 1 = q := Option.some.inj hq; omega)
  have hbox1 : Is w1 w.heap.size 44 (valC k n v A a c B b d) := (hbox.old _).grown hg1 (fun q hq => by have e : w.heap.size + 1 = q := Option.some.inj hq; omega)
  clear hosE hE hbox hg1
  obtain ⟨g1, cap1, rfl, hgb, hcap, hglt⟩ := hos1.form h0
  obtain ⟨g, off, c', hv, hg, cs, hcs, hcell⟩ := (hos1.vs hB1).at_ HX.out
  cases hv
  obtain ⟨A1, a1, d1, A2, a2, d2, rfl, ha1, ha2, hp1, hn1⟩ := rVal_form hcs
  rw [cellsV] at hcell
  have m0 : w1.cell? ⟨g1, j * 5, none⟩ = some (.int .i64 x.1) := by have := hcell 0 (by omega); rw [Nat.zero_add, Nat.add_zero] at this; exact this
  have m1 : w1.cell? ⟨g1, j * 5 + 1, none⟩ = some (.int .i64 x.2.1) := by have := hcell 1 (by omega); rw [Nat.zero_add] at this; exact this
  have x0 : w1.cell? ⟨w.heap.size, 0, none⟩ = some (.int .i64 k) := hbox1.cell 0
  have x1 : w1.cell? ⟨w.heap.size, 1, none⟩ = some (.int .i64 n) := hbox1.cell 1
  have y0 := hbox1.free 0
  have y1 := hbox1.free 1
  have s6 : ¬ g1 = w.heap.size := by omega
  clear hcell hcs
  have hbl : w.heap.size < w1.heap.size := hbox1.lt
  have M0 := fun (w' : World) (h : Below w1.heap.size w1 w') => (h.cell hglt).trans m0
  have M1 := fun (w' : World) (h : Below w1.heap.size w1 w') => (h.cell hglt).trans m1
  have X0 := fun (w' : World) (h : Below w1.heap.size w1 w') => (h.cell hbl).trans x0
  have X1 := fun (w' : World) (h : Below w1.heap.size w1 w') => (h.cell hbl).trans x1
  have Y0 := fun (w' : World) (h : Below w1.heap.size w1 w') => (h.frozen (p := ⟨w.heap.size, 0, none⟩) hbl).trans y0
  have Y1 := fun (w' : World) (h : Below w1.heap.size w1 w') => (h.frozen (p := ⟨w.heap.size, 1, none⟩) hbl).trans y1
  clear M0 M1 X0 X1 Y0 Y1
  go_region
  have hB2 : Below w.heap.size w ((w1.setCell ⟨w.heap.size, 0, none⟩ (.int .i64 x.1)).setCell ⟨w.heap.size, 1, none⟩ (.int .i64 x.2.1)).drew := ((hB1.setCell (p := ⟨w.heap.size, 0, none⟩) (Nat.le_refl _) _).setCell (p := ⟨w.heap.size, 1, none⟩) (Nat.le_refl _) _).drew
  have hbox2 : Is ((w1.setCell ⟨w.heap.size, 0, none⟩ (.int .i64 x.1)).setCell ⟨w.heap.size, 1, none⟩ (.int .i64 x.2.1)).drew w.heap.size 44 (valC x.1 x.2.1 v A a c B b d) := (hbox1.set 0 (by simp) _).set 1 (by simp) _
  have hos2 : OS rVal w ((w1.setCell ⟨w.heap.size, 0, none⟩ (.int .i64 x.1)).setCell ⟨w.heap.size, 1, none⟩ (.int .i64 x.2.1)).drew (w.heap.size + 1) (.slice (some ⟨g1, 0, none⟩) L.length cap1) L := (hos1.set_far ⟨w.heap.size, 0, none⟩ (by simp) _).set_far ⟨w.heap.size, 1, none⟩ (by simp) _
  clear hB1 hbox1 hos1 m0 m1 x0 x1 y0 y1 hp1 hn1 hbl hg hglt
  generalize ((w1.setCell ⟨w.heap.size, 0, none⟩ (.int .i64 x.1)).setCell ⟨w.heap.size, 1, none⟩ (.int .i64 x.2.1)).drew = W2 at *
  have hc2 := hbox2.cell
  have hval : rVal.is w (x.1, x.2.1, v, p, N, ()) (valC x.1 x.2.1 v A a c B b d).toList := ⟨[_], _, rfl, rfl, [_], _, rfl, rfl, [_], _, rfl, rfl, [_], _, rfl, ⟨_, rfl, hp⟩, [_], _, rfl, ⟨_, rfl, hn⟩, rfl⟩
  go_wp2_with (first
    | (refine wpList_store_os (R := rVal) (w0 := w) rfl 44 (.tmp 47) (.tmp 46) rfl g1 L.length cap1 j rfl hos2 hj (x.1, x.2.1, v, p, N, ()) (valC x.1 x.2.1 v A a c B b d) (j * 5) (by rw [cellsV]) rfl rfl hval sizeV (valC_one _ _ _ _ _ _ _ _ _) ?_; intro w3 hos3 hb3)
    | fail)
  have hB3 : Below w.heap.size w w3 := hB2.trans (hb3.mono (by omega))
  have hbox3 : Is w3 w.heap.size 44 (valC x.1 x.2.1 v A a c B b d) := hbox2.keep hb3 (by omega)
  clear hos2 hc2 hB2 hbox2 hb3 hval
  obtain ⟨hf1, hf2, hf3, _, hf5, _⟩ := hf x (List.mem_of_getElem? HX.out)
  have hf5 : x.2.2.2.2.1.length ≤ 17592186044160 := hf5
  have hfo : ∀ z ∈ L.set j (x.1, x.2.1, v, p, N, ()), rVal.fine z := fun z hz => by
    rcases List.mem_or_eq_of_mem_set hz with hz | rfl
    · exact hf z hz
    · exact ⟨hf1, hf2, hf3, hpl, hNl, trivial⟩
  have hap := apart L j x (x.1, x.2.1, v, p, N, ()) HX.out rfl rfl
  obtain ⟨⟨r1, q1⟩, hr1⟩ : ∃ r, writeF [] L = r := ⟨_, rfl⟩
  obtain ⟨⟨r2, q2⟩, hr2⟩ : ∃ r, writeF [] (L.set j (x.1, x.2.1, v, p, N, ())) = r := ⟨_, rfl⟩
  rw [hr1, hr2] at hap
  simp only at hap
  have HAP := Lib.hid hap
  have HR1 := Lib.hid hr1
  have HR2 := Lib.hid hr2
  clear hap hr1 hr2
  refine (write_any w3 (.slice none 0 0) [] _ L (VB.nil w3) (hH2.next hB3) hf hL (by simp)).mono ?_
  rintro e w4 ⟨v4, rfl, hv4, hb4⟩
  rw [HR1.out] at hv4 ⊢
  have hB4 := hB3.trans (hb4.mono hB3.size)
  have hbox4 := hbox3.next hb4
  have hos4 := hos3.keep hb4
  clear hbox3 hb4 hos3 hB3
  go_wp2_with fail
  refine (write_any w4 (.slice none 0 0) [] (.slice (some ⟨g1, 0, none⟩) L.length cap1) (L.set j (x.1, x.2.1, v, p, N, ())) (VB.nil w4) (hos4.vs hB4) hfo (by simpa using hL) (by simp)).mono ?_
  rintro e w5 ⟨v5, rfl, hv5, hb5⟩
  rw [HR2.out] at hv5 ⊢
  have hB5 := hB4.trans (hb5.mono hB4.size)
  have hbox5 := hbox4.next hb5
  have hv4 := hv4.next hb5
  clear hbox4 hos4 hb5 hB4
  cases q1
  · go_wp2_with (go_at_call 14; refine (awake_any _).mono ?_; rintro e w6 ⟨rfl, hb6⟩)
    go_ret
    exact ⟨rfl, hB5.trans (hb6.mono hB5.size)⟩
  cases q2
  · go_wp2_with (go_at_call 14; refine (awake_any _).mono ?_; rintro e w6 ⟨rfl, hb6⟩)
    go_ret
    exact ⟨rfl, hB5.trans (hb6.mono hB5.size)⟩
  obtain ⟨E, hE⟩ : ∃ E, sameF (x.1, x.2.1, v, p, N, ()) x = E := ⟨_, rfl⟩
  have h1 : bsEq r1 r2 = E := (HAP.out (by trivial) (by trivial)).trans hE
  have H1 := Lib.hid h1
  clear h1
  obtain ⟨g2, off2, c2', hv, hg2, cs, hcs, hcell⟩ := (hH2.next hB5).at_ HX.out
  cases hv
  obtain ⟨A1, a1, d1, A2, a2, d2, rfl, ha1, ha2, hp1, hn1⟩ := rVal_form hcs
  rw [cellsV] at hcell
  have hp5 := hp.next hB5
  have hn5 := hn.next hB5
  have hbl := hbox5.lt
  have r0 := Below.refl w5.heap.size w5
  have f0 := fun (w' : World) (h : Below w5.heap.size w5 w') => (h.cell hg2).trans (show w5.cell? ⟨g2, off2 + j * 5, none⟩ = some (.int .i64 x.1) from hcell 0 (by omega))
  have f1 := fun (w' : World) (h : Below w5.heap.size w5 w') => (h.cell hg2).trans (show w5.cell? ⟨g2, off2 + j * 5 + 1, none⟩ = some (.int .i64 x.2.1) from hcell 1 (by omega))
  have f2 := fun (w' : World) (h : Below w5.heap.size w5 w') => (h.cell hg2).trans (show w5.cell? ⟨g2, off2 + j * 5 + 2, none⟩ = some (U x.2.2.1) from hcell 2 (by omega))
  have f3 := fun (w' : World) (h : Below w5.heap.size w5 w') => (h.cell hg2).trans (show w5.cell? ⟨g2, off2 + j * 5 + 3, none⟩ = some (.slice A1 a1 d1) from hcell 3 (by omega))
  have f4 := fun (w' : World) (h : Below w5.heap.size w5 w') => (h.cell hg2).trans (show w5.cell? ⟨g2, off2 + j * 5 + 4, none⟩ = some (.slice A2 a2 d2) from hcell 4 (by omega))
  have z0 := fun (w' : World) (h : Below w5.heap.size w5 w') => (h.cell hbl).trans (hbox5.cell 0)
  have z1 := fun (w' : World) (h : Below w5.heap.size w5 w') => (h.cell hbl).trans (hbox5.cell 1)
  have z2 := fun (w' : World) (h : Below w5.heap.size w5 w') => (h.cell hbl).trans (hbox5.cell 2)
  have z3 := fun (w' : World) (h : Below w5.heap.size w5 w') => (h.cell hbl).trans (hbox5.cell 3)
  have z4 := fun (w' : World) (h : Below w5.heap.size w5 w') => (h.cell hbl).trans (hbox5.cell 4)
  have hqc := kindF_cases x.1
  obtain ⟨q, hq⟩ : ∃ q, kindF x.1 = q := ⟨_, rfl⟩
  have H2 : (q = 0 → (iu (numberF x.2.1 v) == iu (numberF x.2.1 x.2.2.1)) = E) ∧ (q = 1 → bsEq p x.2.2.2.1 = E) ∧ (q = 2 → nsEq N x.2.2.2.2.1 = E) := by
    rw [← hE]
    unfold sameF
    rw [hq]
    refine ⟨fun e => ?_, fun e => ?_, fun e => ?_⟩
    · subst e
      rw [Bool.eq_iff_iff]
      simp only [if_true, beq_iff_eq, decide_eq_true_eq]
      exact ⟨iu_inj, fun h => by rw [h]⟩
    · subst e
      rfl
    · subst e
      rfl
  obtain ⟨k0, k1, k2⟩ := H2
  have K0 := Lib.hid k0
  have K1 := Lib.hid k1
  have K2 := Lib.hid k2
  rw [hq] at hqc
  have HQ := Lib.hid hq
  have hRb : w5.rangeAt w.heap.size 0 [.int .i64 x.1, .int .i64 x.2.1, U v, .slice A a c, .slice B b d] := range_is hbox5
  have hRl : w5.rangeAt g2 (off2 + j * 5) [.int .i64 x.1, .int .i64 x.2.1, U x.2.2.1, .slice A1 a1 d1, .slice A2 a2 d2] := fun i u hi => by
    have hi5 : i < 5 := (List.getElem?_eq_some_iff.1 hi).1
    rw [hcell i hi5]
    exact hi
  clear k0 k1 k2 hq hE hcell hcs hbox5
  go_wp2_with fail
  refine (kind_any x.1 x.2.1 v A a c B b d w5).mono ?_
  rintro e w6 ⟨rfl, hb6⟩
  rw [HQ.out]
  rcases hqc with rfl | rfl | rfl
  · have k0 := K0.out (by trivial)
    go_wp2
    have R1 : ∀ w' : World, Below w5.heap.size w5 w' → w'.rangeAt w.heap.size 0 [.int .i64 x.1, .int .i64 x.2.1, U v, .slice A a c, .slice B b d] := fun w' h => range_keep hRb h hbl
    have R2 : ∀ w' : World, Below w5.heap.size w5 w' → w'.rangeAt g2 (off2 + j * 5) [.int .i64 x.1, .int .i64 x.2.1, U x.2.2.1, .slice A1 a1 d1, .slice A2 a2 d2] := fun w' h => range_keep hRl h hg2
    refine wp_region_held_drew (S := fun w' => Below w5.heap.size w5 w') (by kernel_rfl) hb6.drew (fun hHeld => ?_)
    refine wpAnyH_take (i := 0) (v := _) rfl (by kernel_rfl) (by kernel_rfl) (by kernel_rfl) (fun _ _ _ h => h) (yieldsIf_load_mid (by rfl) _ _ rfl _ _ rfl _ _ R1 Try.underlying44 rfl sizeV) hHeld ?_
    refine wpAnyH_take (i := 2) (v := .slice (some ⟨g2, off2, none⟩) L.length c0) rfl (by kernel_rfl) (by kernel_rfl) (by kernel_rfl) (fun _ _ _ h => h) (Or.inl ⟨by rfl, fun w' _ => by rfl⟩) hHeld ?_
    refine wpAnyH_take (i := 3) (v := .int .i64 j) rfl (by kernel_rfl) (by kernel_rfl) (by kernel_rfl) (fun _ _ _ h => h) (Or.inl ⟨by rfl, fun w' _ => by rfl⟩) hHeld ?_
    refine wpAnyH_take (i := 4) (v := .pointer (some ⟨g2, off2 + j * 5, none⟩)) rfl (by kernel_rfl) (by kernel_rfl) (by kernel_rfl) (fun _ _ _ h => h) (Or.inl ⟨by rfl, ?_⟩) hHeld ?_
    · intro w' _
      clear hf f0 f1 f2 f3 f4 z0 z1 z2 z3 z4
      go_simp
    try simp only [Act.put, List.setIfInBounds_toArray, List.set_cons_zero, List.set_cons_succ]
    refine wpAnyH_take (i := 5) (v := _) rfl (by kernel_rfl) (by kernel_rfl) (by kernel_rfl) (fun _ _ _ h => h) (yieldsIf_load_mid (by rfl) _ _ rfl _ _ rfl _ _ R2 Try.underlying44 rfl sizeV) hHeld ?_
    try simp only [Act.put, List.setIfInBounds_toArray, List.set_cons_zero, List.set_cons_succ]
    clear f0 f1 f2 f3 f4 z0 z1 z2 z3 z4
    refine wpAnyH_ready (rs := [1]) (by kernel_rfl) (by simp) (AllReadyH.cons rfl (fun K hK => ?_) AllReadyH.nil)
    rw [if_pos (by rfl)]
    go_wp2_with fail
    refine (number_any x.1 x.2.1 v A a c B b d _).mono ?_
    rintro e w7 ⟨rfl, hb7⟩
    go_wp2_with fail
    refine hK.out _ _ (hHeld.trans (hb7.mono hHeld.size)) (fun hHeld2 => ?_)
    clear hK K
    try simp only [Act.put, List.setIfInBounds_toArray, List.set_cons_zero, List.set_cons_succ]
    refine wpAnyH_ready (rs := [6]) (by kernel_rfl) (by simp) (AllReadyH.cons rfl (fun K hK => ?_) AllReadyH.nil)
    rw [if_pos (by rfl)]
    go_wp2_with fail
    refine (number_any x.1 x.2.1 x.2.2.1 A1 a1 d1 A2 a2 d2 _).mono ?_
    rintro e w8 ⟨rfl, hb8⟩
    go_wp2_with fail
    refine hK.out _ _ (hHeld2.trans (hb8.mono hHeld2.size)) (fun hHeld3 => ?_)
    clear hK K
    try simp only [Act.put, List.setIfInBounds_toArray, List.set_cons_zero, List.set_cons_succ]
    refine wpAnyH_take (i := 7) (v := .bool E) rfl (by kernel_rfl) (by kernel_rfl) (by kernel_rfl) (fun _ _ _ h => h) (Or.inl ⟨by rfl, ?_⟩) hHeld3 ?_
    · intro w' _
      clear hf
      go_simp
    refine wpAnyH_take (i := 8) (v := .bool E) rfl (by kernel_rfl) (by kernel_rfl) (by kernel_rfl) (fun _ _ _ h => h) (Or.inl ⟨by rfl, fun w' _ => by rfl⟩) hHeld3 ?_
    refine wpAnyH_done (by kernel_rfl) ?_ _
    try simp only [Act.put, List.setIfInBounds_toArray, List.set_cons_zero, List.set_cons_succ]
    go_wp2_with fail
    refine (same_any _ v4 v5 r1 r2 (hv4.next hHeld3) (hv5.next hHeld3)).mono ?_
    rintro e w9 ⟨rfl, rfl⟩
    rw [H1.out]
    go_wp2_with (go_at_call 14; refine (awake_any _).mono ?_; rintro e w9 ⟨rfl, hb9⟩)
    all_goals go_ret
    all_goals exact ⟨rfl, hB5.trans ((bstep hHeld3 hb9).mono hB5.size)⟩
  · have k1 := K1.out (by trivial)
    clear f0 f1 f2 z0 z1 z2
    go_wp2
    go_region_held3 (fun w' => Below w5.heap.size w5 w') (first | exact hb6.drew | assumption)
      (first | (go_at_call 11; refine (same_any _ (.slice A a c) (.slice A1 a1 d1) p x.2.2.2.1 (hp5.next (by assumption)) (hp1.next (by assumption))).mono ?_; rintro e w' ⟨rfl, rfl⟩; rw [k1]))
    go_wp2_with fail
    refine (same_any _ v4 v5 r1 r2 (hv4.next (by assumption)) (hv5.next (by assumption))).mono ?_
    rintro e w8 ⟨rfl, rfl⟩
    rw [H1.out]
    go_wp2_with (go_at_call 14; refine (awake_any _).mono ?_; rintro e w9 ⟨rfl, hb9⟩)
    all_goals go_ret
    all_goals exact ⟨rfl, hB5.trans ((bstep (by assumption) hb9).mono hB5.size)⟩
  · have k2 := K2.out (by trivial)
    clear f0 f1 f2 z0 z1 z2
    go_wp2
    go_region_held3 (fun w' => Below w5.heap.size w5 w') (first | exact hb6.drew | assumption | exact bstep (by assumption) hb)
      (first | (go_at_call 23; refine (names_any _ (.slice B b d) (.slice A2 a2 d2) N x.2.2.2.2.1 (hn5.next (by assumption)) (hn1.next (by assumption)) (by omega) (by omega)).mono ?_; rintro e w' ⟨rfl, hb⟩; rw [k2]))
    go_wp2_with fail
    refine (same_any _ v4 v5 r1 r2 (hv4.next (by assumption)) (hv5.next (by assumption))).mono ?_
    rintro e w8 ⟨rfl, rfl⟩
    rw [H1.out]
    go_wp2_with (go_at_call 14; refine (awake_any _).mono ?_; rintro e w9 ⟨rfl, hb9⟩)
    all_goals go_ret
    all_goals exact ⟨rfl, hB5.trans ((bstep (by assumption) hb9).mono hB5.size)⟩

theorem walk_out (w : World) (u : Value) (L : List Val) (h2 : VS rVal w u L) (h0 : L.length = 0 ∨ 60 < L.length) (hm : L.length ≤ 281474976710656) (t : Int) (cs : Array Value) :
    Calls Try.prog 7 #[u, .int .i64 t, .agg cs] w fun e w' => e = .returned (.bool true) ∧ Below w.heap.size w w' := by
  obtain ⟨A0, c0, rfl, hc1, hc2⟩ := h2.form
  have hF : Below w.heap.size w (w.alloc (.cells cs 44)) := (Below.refl _ _).alloc (Nat.le_refl _) _
  rcases h0 with h0 | h0
  · rw [h0]
    go_enter Try.func7, Try.ntmps7
    go_wp2_with (go_at_call 14; refine (awake_any _).mono ?_; rintro e w6 ⟨rfl, hb6⟩)
    go_ret
    exact ⟨rfl, hF.trans (hb6.mono hF.size)⟩
  · have s1 : (60 : Int) < (L.length : Int) := by omega
    have b1 : ((L.length : Int) == 0) = false := by rw [beq_eq_false_iff_ne]; omega
    go_enter Try.func7, Try.ntmps7
    go_wp2_with (go_at_call 14; refine (awake_any _).mono ?_; rintro e w6 ⟨rfl, hb6⟩)
    go_ret
    exact ⟨rfl, hF.trans (hb6.mono hF.size)⟩

theorem walk (w : World) (u : Value) (L : List Val) (h2 : VS rVal w u L) (hf : L.length * Try.prog.bytesOf 44 ≤ reachBytes ∧ ∀ x ∈ L, rVal.fine x) (t : Int) (y : Val) (cs : Array Value) (hy : rVal.is w y cs.toList) (hyf : rVal.fine y) :
    Calls Try.prog 7 #[u, .int .i64 t, .agg cs] w fun e w' => e = .returned (.bool true) ∧ Below w.heap.size w w' := by
  have hb : Try.prog.bytesOf 44 = 72 := by kernel_rfl
  have hm : L.length ≤ 281474976710656 := by have := hf.1; rw [hb] at this; simp only [reachBytes] at this; omega
  by_cases h0 : L.length = 0
  · exact walk_out w u L h2 (Or.inl h0) hm t cs
  · by_cases hL : 60 < L.length
    · exact walk_out w u L h2 (Or.inr hL) hm t cs
    · obtain ⟨A, a, c, B, b, d, hcs, _, _, hp, hn⟩ := rVal_form hy
      have e : cs = valC y.1 y.2.1 y.2.2.1 A a c B b d := by
        cases cs
        simpa using hcs
      subst e
      obtain ⟨_, _, _, hf4, hf5, _⟩ := hyf
      exact walk_mid w u L h2 hf.2 (by omega) (by omega) t y.1 y.2.1 y.2.2.1 A a c B b d y.2.2.2.1 y.2.2.2.2.1 hp hn hf4 hf5

set_option maxRecDepth 100000 in
/-- The law's step, at every reading. -/
theorem lifted (os : Os) (started : os.Started) (H : Type) (enc : TypeId × Value → H) :
    ReturnsInHanded {} Try.checked os 7 .any (Rows.codecApartSpec.pre6 enc Try.prog Try.f7 Rows.codecApartRow.domain false) (Rows.codecApartSpec.post enc Try.prog Try.f7 false true false false) := by
  refine law_lifted (C := Try.checked) (n := 3) (tb := 4) own started (by kernel_rfl) Try.func7 rfl (by kernel_rfl)
    (of_decide_eq_true (by kernel_rfl)) (by kernel_rfl) (by kernel_rfl) Try.underlying4
    (fun ds hd => by match ds, hd with | [_, _, _], _ => rfl)
    (ChangeSpec.witness6 (enc := enc) (C := Try.checked) false ⟨#[], #[.slice none 0 0, .int .i64 0, .agg #[.int .i64 0, .int .i64 0, .int .u64 0, .slice none 0 0, .slice none 0 0]], []⟩ 8 (by kernel_rfl) (by kernel_rfl) (by kernel_rfl) (by kernel_rfl)) ?_
  intro W base args ds ps hval hA hlt hsz
  rw [Try.params7] at hA hval
  obtain ⟨v0, vs0, d0, ds0, p0, q0, hargs, rfl, rfl, h0, r0⟩ := trodAll_cons hA
  obtain ⟨v1, vs1, d1, ds1, p1, q1, rfl, rfl, rfl, h1, r1⟩ := trodAll_cons r0
  obtain ⟨v2, vs2, d2, ds2, p2, q2, rfl, rfl, rfl, h2, r2⟩ := trodAll_cons r1
  obtain ⟨rfl, rfl, rfl⟩ := trodAll_nil r2
  obtain rfl : args = #[v0, v1, v2] := by cases args; simp_all
  obtain ⟨a0, n0, c0, rfl⟩ := okWide_slice Try.underlying41 (hval 0 _ v0 rfl rfl)
  obtain ⟨l0, ⟨u0, hu0, hs0⟩, hf0⟩ := open_rep (repSlice Try.underlying41 rVal (by kernel_rfl) (by rw [cellsV]; omega)) rfl h0 (fun x hx => hlt x (by simp [hx])) hsz (j := 0) (by rw [Try.params7]; rfl) rfl
  cases hu0
  obtain ⟨x1, rfl, rfl, rfl, wn1⟩ := open_int Try.underlying3 (hval 1 _ v1 rfl rfl) h1
  obtain ⟨cs2, rfl, _⟩ := okWide_struct Try.underlying44 (hval 2 _ v2 rfl rfl)
  obtain ⟨y2, hy2, hf2⟩ := open_rep_any rVal h2 (fun x hx => hlt x (by simp [hx])) hsz (j := 2) (by rw [Try.params7]; rfl) rfl
  exact walk W _ l0 hs0 hf0 x1 y2 cs2 hy2 hf2

theorem proved : Rows.CodecApartSaid :=
  OpenClaim.holds_of_wide 7 Try.f7 rfl rfl rfl rfl rfl rfl rfl ⟨rfl, rfl, rfl, rfl, rfl⟩ rfl rfl rfl rfl rfl (by kernel_rfl) Try.func7 (by kernel_rfl)
    (of_decide_eq_true (by kernel_rfl)) (by unfold Func.isWrapper; first | (rw [if_pos (by decide +kernel)]; kernel_rfl) | (rw [if_neg (by decide +kernel)]; exact ⟨rfl, rfl⟩))
    (fun os started H enc _ => lifted os started H enc)
#print axioms proved
end Go.Proofs.Ytnpbohndhgnfjaa.codecApart
