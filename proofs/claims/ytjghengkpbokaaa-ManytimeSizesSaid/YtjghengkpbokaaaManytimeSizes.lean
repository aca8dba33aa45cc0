/-
  The statement ManytimeSizes, proved for every number and every slice of bytes, with no condition: Capacity, Size and Leaf are as documented.
-/
import Derived.Test.YtjghengkpbokaaaG20
namespace Go.Proofs.Ytjghengkpbokaaa.manytimeSizes
open Go.ChangeShapes Go.WideShapes Go.ChangeAt Go.RowKit Go.Fl

attribute [local go_sem] equal_nm eqGuard_nm

theorem walk (w : World) (lv : Int) (v : Value) (l : List UInt8) (hlv : I64 lv) (h : VB w v l) (hl : l.length ≤ 140737488351232) :
    Calls Try.prog 3 #[.int .i64 lv, v] w fun e w' => e = .returned (.bool true) ∧ Below w.heap.size w w' := by
  obtain ⟨C, hC⟩ : ∃ C, capF lv = C := ⟨_, rfl⟩
  obtain ⟨S, hS⟩ : ∃ S, sizeF lv = S := ⟨_, rfl⟩
  have HC := Lib.hid hC
  have HS := Lib.hid hS
  clear hC hS
  have hl9 : (l.length : Int) ≤ 140737488351232 := by omega
  by_cases h2 : l.length < 2
  · have hlp : leafP l = (0, false) := by unfold leafP; rw [if_neg (by omega)]
    have s1 : (l.length : Int) < 2 := by omega
    have b1 : decide ((2 : Int) ≤ (l.length : Int)) = false := by rw [decide_eq_false_iff_not]; omega
    go_enter Try.func3, Try.ntmps3
    go_wp2_with fail
    refine (leafM.leaf w v l h (by omega)).mono ?_
    rintro e w1 ⟨rfl, hb1⟩
    rw [hlp]
    have hB := hb1
    obtain ⟨A, c, rfl, -⟩ := h
    go_wp2_with (first
      | (go_at_call 10; refine (manN.cap _ _ hlv).mono ?_; rintro e w2 ⟨rfl, hb⟩; rw [HC.out]; have hB := hB.trans (hb.mono hB.size))
      | (go_at_call 11; refine (refN.cap _ _ hlv).mono ?_; rintro e w2 ⟨rfl, hb⟩; rw [HC.out]; have hB := hB.trans (hb.mono hB.size))
      | (go_at_call 12; refine (manN.size _ _ hlv).mono ?_; rintro e w2 ⟨rfl, hb⟩; rw [HS.out]; have hB := hB.trans (hb.mono hB.size))
      | (go_at_call 13; refine (refN.size _ _ hlv).mono ?_; rintro e w2 ⟨rfl, hb⟩; rw [HS.out]; have hB := hB.trans (hb.mono hB.size))
      | (go_at_call 14; refine (awake_any _).mono ?_; rintro e w2 ⟨rfl, hb⟩; have hB := hB.trans (hb.mono hB.size))
      | fail)
    go_ret
    exact ⟨rfl, hB⟩
  · obtain ⟨n, hn⟩ : ∃ n, leafN l = n := ⟨_, rfl⟩
    have hlp : leafP l = ((n : Int), true) := by unfold leafP; rw [if_pos (by omega), hn]
    obtain ⟨b0, hb0⟩ : ∃ b, l[0]? = some b := ⟨_, List.getElem?_eq_getElem (by omega)⟩
    obtain ⟨b1, hb1'⟩ : ∃ b, l[1]? = some b := ⟨_, List.getElem?_eq_getElem (by omega)⟩
    have hnn : ub b0 * 256 + ub b1 = (n : Int) := by
      rw [← hn]
      unfold leafN
      rw [List.getD_eq_getElem?_getD, List.getD_eq_getElem?_getD, hb0, hb1']
      simp [ub]
    have hor := or_i64 b0 b1
    rw [hnn] at hor
    have lo0 := ub_lo b0
    have hi0 := ub_hi b0
    have lo1 := ub_lo b1
    have hi1 := ub_hi b1
    have hw0 : IntKind.i64.wrap (ub b0) = ub b0 := by rw [IntKind.wrap_i64]; omega
    have hw1 : IntKind.i64.wrap (ub b1) = ub b1 := by rw [IntKind.wrap_i64]; omega
    have hw2 : IntKind.i64.wrap (ub b0 * 256) = ub b0 * 256 := by rw [IntKind.wrap_i64]; omega
    obtain ⟨ln, hln⟩ : ∃ ln, l.length = ln := ⟨_, rfl⟩
    have s1 : (2 : Int) ≤ (ln : Int) := by omega
    have s2 : (0 : Int) < (ln : Int) := by omega
    have s3 : (1 : Int) < (ln : Int) := by omega
    have s4 : ¬ ln = 0 := by omega
    have s5 : 1 < ln := by omega
    have b5 : decide ((2 : Int) ≤ (ln : Int)) = true := by rw [decide_eq_true_iff]; omega
    go_enter Try.func3, Try.ntmps3
    go_wp2_with fail
    refine (leafM.leaf w v l h (by omega)).mono ?_
    rintro e w1 ⟨rfl, hb1⟩
    rw [hlp]
    have hB := hb1
    obtain ⟨A, c, hv, hc1, hc2, hr⟩ := h.next hb1
    rw [hln] at hv
    subst hv
    obtain ⟨g, off, rfl, hg, hcell⟩ := hr (by omega)
    have hc0 : w1.cell? ⟨g, off, none⟩ = some (.int .u8 (ub b0)) := hcell 0 b0 hb0
    have hc1' : w1.cell? ⟨g, off + 1, none⟩ = some (.int .u8 (ub b1)) := hcell 1 b1 hb1'
    have HC0 := Lib.hid hc0
    have HC1 := Lib.hid hc1'
    have HG := Lib.hid hg
    clear hcell hc0 hc1' hb0 hb1' hnn hr hg h hn hlp h2 hl9 hl hc1 hln
    go_wp2_with fail
    refine wp_region_held_drew (S := fun w' => Below w1.heap.size w1 w') (by kernel_rfl) (Below.refl _ _).drew (fun hHeld => ?_)
    refine held_pure 0 18 (.slice (some ⟨g, off, none⟩) ln c) rfl (fun W => by rfl) hHeld ?_
    try simp only [Act.put, List.setIfInBounds_toArray, List.set_cons_zero, List.set_cons_succ]
    refine held_pure 1 19 (.pointer (some ⟨g, off, none⟩)) rfl (fun W => by go_simp) hHeld ?_
    try simp only [Act.put, List.setIfInBounds_toArray, List.set_cons_zero, List.set_cons_succ]
    refine held_if 2 20 (.int .u8 (ub b0)) rfl (fun w' h => by (have hc := (h.cell (p := ⟨g, off, none⟩) HG.out).trans HC0.out; go_simp)) hHeld ?_
    try simp only [Act.put, List.setIfInBounds_toArray, List.set_cons_zero, List.set_cons_succ]
    refine held_pure 3 21 (.int .i64 (ub b0)) rfl (fun W => by go_simp) hHeld ?_
    try simp only [Act.put, List.setIfInBounds_toArray, List.set_cons_zero, List.set_cons_succ]
    refine held_pure 4 22 (.int .i64 (ub b0 * 256)) rfl (fun W => by go_simp) hHeld ?_
    try simp only [Act.put, List.setIfInBounds_toArray, List.set_cons_zero, List.set_cons_succ]
    refine held_pure 5 23 (.slice (some ⟨g, off, none⟩) ln c) rfl (fun W => by rfl) hHeld ?_
    try simp only [Act.put, List.setIfInBounds_toArray, List.set_cons_zero, List.set_cons_succ]
    refine held_pure 6 24 (.pointer (some ⟨g, off + 1, none⟩)) rfl (fun W => by go_simp) hHeld ?_
    try simp only [Act.put, List.setIfInBounds_toArray, List.set_cons_zero, List.set_cons_succ]
    refine held_if 7 25 (.int .u8 (ub b1)) rfl (fun w' h => by (have hc := (h.cell (p := ⟨g, off + 1, none⟩) HG.out).trans HC1.out; go_simp)) hHeld ?_
    try simp only [Act.put, List.setIfInBounds_toArray, List.set_cons_zero, List.set_cons_succ]
    refine held_pure 8 26 (.int .i64 (ub b1)) rfl (fun W => by go_simp) hHeld ?_
    try simp only [Act.put, List.setIfInBounds_toArray, List.set_cons_zero, List.set_cons_succ]
    refine held_pure 9 27 (.int .i64 (n : Int)) rfl (fun W => by go_simp) hHeld ?_
    try simp only [Act.put, List.setIfInBounds_toArray, List.set_cons_zero, List.set_cons_succ]
    refine held_pure 10 7 (.int .i64 (n : Int)) rfl (fun W => by rfl) hHeld ?_
    try simp only [Act.put, List.setIfInBounds_toArray, List.set_cons_zero, List.set_cons_succ]
    refine wpAnyH_done (by kernel_rfl) ?_ _
    try simp only [Act.put, List.setIfInBounds_toArray, List.set_cons_zero, List.set_cons_succ]
    clear hw0 hw1 hw2 hor lo0 hi0 lo1 hi1
    have hB := hB.drew
    go_wp2_with (first
      | (go_at_call 10; refine (manN.cap _ _ hlv).mono ?_; rintro e w2 ⟨rfl, hb⟩; rw [HC.out]; have hB := hB.trans (hb.mono hB.size))
      | (go_at_call 11; refine (refN.cap _ _ hlv).mono ?_; rintro e w2 ⟨rfl, hb⟩; rw [HC.out]; have hB := hB.trans (hb.mono hB.size))
      | (go_at_call 12; refine (manN.size _ _ hlv).mono ?_; rintro e w2 ⟨rfl, hb⟩; rw [HS.out]; have hB := hB.trans (hb.mono hB.size))
      | (go_at_call 13; refine (refN.size _ _ hlv).mono ?_; rintro e w2 ⟨rfl, hb⟩; rw [HS.out]; have hB := hB.trans (hb.mono hB.size))
      | (go_at_call 14; refine (awake_any _).mono ?_; rintro e w2 ⟨rfl, hb⟩; have hB := hB.trans (hb.mono hB.size))
      | fail)
    go_ret
    exact ⟨rfl, hB⟩

set_option maxRecDepth 100000 in
/-- The law's step, at every reading. -/
theorem lifted (os : Os) (started : os.Started) (H : Type) (enc : TypeId × Value → H) :
    ReturnsInHanded {} Try.checked os 3 .any (Rows.manytimeSizesSpec.pre6 enc Try.prog Try.f3 Rows.manytimeSizesRow.domain false) (Rows.manytimeSizesSpec.post enc Try.prog Try.f3 false true false false) := by
  refine law_lifted (C := Try.checked) (n := 2) (tb := 4) own started (by kernel_rfl) Try.func3 rfl (by kernel_rfl)
    (of_decide_eq_true (by kernel_rfl)) (by kernel_rfl) (by kernel_rfl) Try.underlying4
    (fun ds hd => by match ds, hd with | [_, _], _ => rfl)
    (ChangeSpec.witness6 (enc := enc) (C := Try.checked) false ⟨#[], #[.int .i64 0, .slice none 0 0], []⟩ 8 (by kernel_rfl) (by kernel_rfl) (by kernel_rfl) (by kernel_rfl)) ?_
  intro W base args ds ps hval hA hlt hsz
  rw [Try.params3] at hA hval
  obtain ⟨v0, vs0, d0, ds0, p0, q0, hargs, rfl, rfl, h0, r0⟩ := trodAll_cons hA
  obtain ⟨v1, vs1, d1, ds1, p1, q1, rfl, rfl, rfl, h1, r1⟩ := trodAll_cons r0
  obtain ⟨rfl, rfl, rfl⟩ := trodAll_nil r1
  obtain rfl : args = #[v0, v1] := by cases args; simp_all
  obtain ⟨x0, rfl, rfl, rfl, wn0⟩ := open_int Try.underlying3 (hval 0 _ v0 rfl rfl) h0
  obtain ⟨A1, l1, c1, rfl, hc1, hm1, hr1⟩ := open_bytes Try.underlying22 Try.underlying5 cells1 bytes1 (hval 1 _ v1 rfl rfl) h1 (fun x hx => hlt x (by simp [hx])) hsz (j := 1) (by rw [Try.params3]; rfl) rfl
  exact walk W x0 _ l1 (bounds_i64 wn0) (VB.mk hr1 hc1 hm1) (by omega)

theorem proved : Rows.ManytimeSizesSaid :=
  OpenClaim.holds_of_wide 3 Try.f3 rfl rfl rfl rfl rfl rfl rfl ⟨rfl, rfl, rfl, rfl, rfl⟩ rfl rfl rfl rfl rfl (by kernel_rfl) Try.func3 (by kernel_rfl)
    (of_decide_eq_true (by kernel_rfl)) (by unfold Func.isWrapper; first | (rw [if_pos (by decide +kernel)]; kernel_rfl) | (rw [if_neg (by decide +kernel)]; exact ⟨rfl, rfl⟩))
    (fun os started H enc _ => lifted os started H enc)
#print axioms proved
end Go.Proofs.Ytjghengkpbokaaa.manytimeSizes
