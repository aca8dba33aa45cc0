/-
  The statement ManytimeApart, proved for every seed, name and pair of numbers, with no condition: signatures by different leaves of one key are different, and each of them verifies.
-/
import Derived.Test.YtjghengkpbokaaaG20
namespace Go.Proofs.Ytjghengkpbokaaa.manytimeApart
open Go.ChangeShapes Go.WideShapes Go.ChangeAt Go.RowKit Go.Fl

attribute [local go_sem] equal_nm eqGuard_nm

theorem apart (s m : BitVec 64) (p q : Nat) (hp : p < 32) (hq : q < 32) (h : p ≠ q) : ¬ bsOf (sign1F s p m) = bsOf (sign1F s q m) := fun e => by
  have e1 := congrArg ByteArray.toList e
  rw [bsOf_toList, bsOf_toList] at e1
  have e2 := congrArg leafN e1
  rw [leafN_one s p m hp, leafN_one s q m hq] at e2
  exact h e2

set_option maxRecDepth 10000 in
set_option maxHeartbeats 4000000 in
theorem walk (w : World) (s : BitVec 64) (a b : Int) (m : BitVec 64) (ha : I64 a) (hb : I64 b) :
    Calls Try.prog 7 #[nm s, .int .i64 a, .int .i64 b, nm m] w fun e w' => e = .returned (.bool true) ∧ Below w.heap.size w w' := by
  obtain ⟨ha1, ha2⟩ := ha
  obtain ⟨hb1, hb2⟩ := hb
  obtain ⟨hs, hm, hF⟩ := signW_facts w s m
  obtain ⟨A, hA⟩ : ∃ n : Nat, IntKind.u64.wrap a = (n : Int) := ⟨(IntKind.u64.wrap a).toNat, by rw [IntKind.wrap_u64]; omega⟩
  obtain ⟨p, hp⟩ : ∃ n : Nat, A % 32 = n := ⟨_, rfl⟩
  have hp1 : (A : Int) % 32 = (p : Int) := by omega
  have hp2 : Int.tmod (A : Int) 32 = (p : Int) := by rw [Int.tmod_eq_emod_of_nonneg (by omega)]; exact hp1
  have hp3 : p < 32 := by omega
  have hp4 : IntKind.i64.wrap (p : Int) = (p : Int) := by rw [IntKind.wrap_i64]; omega
  have hp5 : IntKind.u64.wrap (p : Int) = (p : Int) := by rw [IntKind.wrap_u64]; omega
  obtain ⟨C, hC⟩ : ∃ n : Nat, IntKind.u64.wrap b = (n : Int) := ⟨(IntKind.u64.wrap b).toNat, by rw [IntKind.wrap_u64]; omega⟩
  obtain ⟨q, hq⟩ : ∃ n : Nat, C % 32 = n := ⟨_, rfl⟩
  have hq1 : (C : Int) % 32 = (q : Int) := by omega
  have hq2 : Int.tmod (C : Int) 32 = (q : Int) := by rw [Int.tmod_eq_emod_of_nonneg (by omega)]; exact hq1
  have hq3 : q < 32 := by omega
  have hq4 : IntKind.i64.wrap (q : Int) = (q : Int) := by rw [IntKind.wrap_i64]; omega
  have hq5 : IntKind.u64.wrap (q : Int) = (q : Int) := by rw [IntKind.wrap_u64]; omega
  obtain ⟨X, hX⟩ : ∃ x, sign1F s p m = x := ⟨_, rfl⟩
  obtain ⟨Y, hY⟩ : ∃ x, sign1F s q m = x := ⟨_, rfl⟩
  obtain ⟨y, hy⟩ : ∃ y, mpubF s 1 = y := ⟨_, rfl⟩
  have HSX : Hid (signP s 1 (p : Int) m = (X, true)) := Lib.hid (by unfold signP; rw [if_pos ⟨rfl, by omega, by omega⟩, Int.toNat_natCast, hX])
  have HSY : Hid (signP s 1 (q : Int) m = (Y, true)) := Lib.hid (by unfold signP; rw [if_pos ⟨rfl, by omega, by omega⟩, Int.toNat_natCast, hY])
  have HVX : Hid (verM y 1 m X = true) := Lib.hid (by rw [← hy, ← hX]; exact ver_one s p m hp3)
  have HVY : Hid (verM y 1 m Y = true) := Lib.hid (by rw [← hy, ← hY]; exact ver_one s q m hq3)
  have HXL : Hid (X.length = 186) := Lib.hid (by rw [← hX]; exact sign1F_len s p m hp3)
  have HYL : Hid (Y.length = 186) := Lib.hid (by rw [← hY]; exact sign1F_len s q m hq3)
  have HY := Lib.hid hy
  obtain ⟨E, hE⟩ : ∃ E, decide (p = q) = E := ⟨_, rfl⟩
  have hE1 : ((bsOf X).toList == (bsOf Y).toList) = E := by
    rw [← hE, bsOf_toList, bsOf_toList]
    by_cases e : p = q
    · subst e
      rw [← hX, ← hY, decide_eq_true_iff.2 rfl]
      simp
    · have h1 := apart s m p q hp3 hq3 e
      rw [hX, hY] at h1
      have h2 : X ≠ Y := fun h => h1 (by rw [h])
      rw [beq_eq_false_iff_ne.2 h2, decide_eq_false_iff_not.2 e]
  have hE2 : decide ((p : Int) = (q : Int)) = E := by rw [← hE, Bool.eq_iff_iff]; simp only [decide_eq_true_eq]; omega
  have hE3 : ((p : Int) == (q : Int)) = E := by rw [← hE2, Bool.eq_iff_iff]; simp
  clear hX hY hy hp hq hE
  go_enter Try.func7, Try.ntmps7
  go_wp2_with fail
  refine (manN.sign (signW w s m) s 1 (p : Int) m (X, true) ⟨by omega, by omega⟩ ⟨by omega, by omega⟩ HSX).mono ?_
  rintro e w1 ⟨v1, rfl, ho1, hb1⟩
  generalize signW w s m = W at *
  have hv1 := ho1.vb
  have hs1 := hs.next hb1
  have hm1 := hm.next hb1
  have hF1 := hF.next hb1
  have k1 := hs1.cell
  have k2 := hm1.cell
  go_wp2_with fail
  refine (manN.sign w1 s 1 (q : Int) m (Y, true) ⟨by omega, by omega⟩ ⟨by omega, by omega⟩ HSY).mono ?_
  rintro e w2 ⟨v2, rfl, ho2, hb2⟩
  have hv1 := hv1.next hb2
  have hv2 := ho2.vb
  have hs2 := hs1.next hb2
  have hm2 := hm1.next hb2
  have hF2 := hF1.next hb2
  clear k1 k2 ho1 ho2
  have k1 := hs2.cell
  have k2 := hm2.cell
  go_wp2_with fail
  refine (manN.pub w2 s 1 y ⟨by omega, by omega⟩ HY).mono ?_
  rintro e w3 ⟨rfl, hb3⟩
  have hv1 := hv1.next hb3
  have hv2 := hv2.next hb3
  have hm3 := (hm2.next hb3).old (.cells #[B 0, B 0, B 0, B 0, B 0, B 0, B 0, B 0] 30)
  have hF3 := (hF2.next hb3).alloc (.cells #[B 0, B 0, B 0, B 0, B 0, B 0, B 0, B 0] 30)
  have hz3 := Is.new w3 30 #[B 0, B 0, B 0, B 0, B 0, B 0, B 0, B 0]
  clear k1 k2
  obtain ⟨A1, c1, e1, d1, d2, hr1⟩ := hv1
  obtain ⟨A2, c2, e2, d3, d4, hr2⟩ := hv2
  have hXL := HXL.out
  have hYL := HYL.out
  rw [hXL] at e1
  rw [hYL] at e2
  subst e1 e2
  have HXY : Hid (VB w3 (.slice A1 186 c1) X) := Lib.hid ⟨A1, c1, by rw [hXL], d1, d2, hr1⟩
  have HYY : Hid (VB w3 (.slice A2 186 c2) Y) := Lib.hid ⟨A2, c2, by rw [hYL], d3, d4, hr2⟩
  have HR1 := Lib.hid hr1
  have HR2 := Lib.hid hr2
  have hsz := hF2.2
  have hsz3 := hb3.size
  clear hXL hYL hr1 hr2 d1 d2 d3 d4
  cases E <;>
  · go_wp2_with (refine wpList_store_far rfl 30 (.tmp 13) (.tmp 37) rfl w3.heap.size 30 _ (nmC y) rfl rfl hz3 (nmC_size _) name_info (nmC_one _) ?_; intro w4 hz4 hb4 hfar4; have hm4 : Is w4 (w.heap.size + 1) 30 (nmC m) := (hfar4 _ (by omega)).trans hm3; have k1 := hz4.cell; have k2 := hm4.cell; have hB34 : Below w3.heap.size w3 w4 := ((Below.refl _ _).alloc (Nat.le_refl _) _).trans hb4; have cv1 := run_convert_rb 186 c1 HXL.out.symm w4 (HR1.out.keep hB34); have cv2 := run_convert_rb 186 c2 HYL.out.symm w4 (HR2.out.keep hB34); have hx4 := HXY.out.next hB34; have hy4 := HYY.out.next hB34; have hF4 := hF3.step hb4 (by omega))
    refine (manN.ver w4 y 1 m (.slice A1 186 c1) X true ⟨by omega, by omega⟩ hx4 (by (have := HXL.out; omega)) HVX).mono ?_
    rintro e w5 ⟨rfl, hb5⟩
    have k3 := (hz4.next hb5).cell
    have k4 := (hm4.next hb5).cell
    have hy5 := hy4.next hb5
    have hF5 := hF4.next hb5
    go_wp2_with fail
    refine (manN.ver w5 y 1 m (.slice A2 186 c2) Y true ⟨by omega, by omega⟩ hy5 (by (have := HYL.out; omega)) HVY).mono ?_
    rintro e w6 ⟨rfl, hb6⟩
    have hF6 := hF5.next hb6
    go_wp2_with fail
    refine (awake_any _).mono ?_
    rintro e w7 ⟨rfl, hb7⟩
    have hF7 := hF6.next hb7
    go_wp2_with fail
    go_ret
    exact ⟨rfl, hF7.1⟩

set_option maxRecDepth 100000 in
/-- The law's step, at every reading. -/
theorem lifted (os : Os) (started : os.Started) (H : Type) (enc : TypeId × Value → H) :
    ReturnsInHanded {} Try.checked os 7 .any (Rows.manytimeApartSpec.pre6 enc Try.prog Try.f7 Rows.manytimeApartRow.domain false) (Rows.manytimeApartSpec.post enc Try.prog Try.f7 false true false false) := by
  refine law_lifted (C := Try.checked) (n := 4) (tb := 4) own started (by kernel_rfl) Try.func7 rfl (by kernel_rfl)
    (of_decide_eq_true (by kernel_rfl)) (by kernel_rfl) (by kernel_rfl) Try.underlying4
    (fun ds hd => by match ds, hd with | [_, _, _, _], _ => rfl)
    (ChangeSpec.witness6 (enc := enc) (C := Try.checked) false ⟨#[], #[.agg #[.int .u8 0, .int .u8 0, .int .u8 0, .int .u8 0, .int .u8 0, .int .u8 0, .int .u8 0, .int .u8 0], .int .i64 0, .int .i64 0, .agg #[.int .u8 0, .int .u8 0, .int .u8 0, .int .u8 0, .int .u8 0, .int .u8 0, .int .u8 0, .int .u8 0]], []⟩ 8 (by kernel_rfl) (by kernel_rfl) (by kernel_rfl) (by kernel_rfl)) ?_
  intro W base args ds ps hval hA hlt hsz
  rw [Try.params7] at hA hval
  obtain ⟨v0, vs0, d0, ds0, p0, q0, hargs, rfl, rfl, h0, r0⟩ := trodAll_cons hA
  obtain ⟨v1, vs1, d1, ds1, p1, q1, rfl, rfl, rfl, h1, r1⟩ := trodAll_cons r0
  obtain ⟨v2, vs2, d2, ds2, p2, q2, rfl, rfl, rfl, h2, r2⟩ := trodAll_cons r1
  obtain ⟨v3, vs3, d3, ds3, p3, q3, rfl, rfl, rfl, h3, r3⟩ := trodAll_cons r2
  obtain ⟨rfl, rfl, rfl⟩ := trodAll_nil r3
  obtain rfl : args = #[v0, v1, v2, v3] := by cases args; simp_all
  obtain ⟨x0, rfl, rfl⟩ := open_name Try.underlying30 Try.underlying5 cells1 cells8 (hval 0 _ v0 rfl rfl) h0
  obtain ⟨x1, rfl, rfl, rfl, wn1⟩ := open_int Try.underlying3 (hval 1 _ v1 rfl rfl) h1
  obtain ⟨x2, rfl, rfl, rfl, wn2⟩ := open_int Try.underlying3 (hval 2 _ v2 rfl rfl) h2
  obtain ⟨x3, rfl, rfl⟩ := open_name Try.underlying30 Try.underlying5 cells1 cells8 (hval 3 _ v3 rfl rfl) h3
  exact walk W x0 x1 x2 x3 (bounds_i64 wn1) (bounds_i64 wn2)

theorem proved : Rows.ManytimeApartSaid :=
  OpenClaim.holds_of_wide 7 Try.f7 rfl rfl rfl rfl rfl rfl rfl ⟨rfl, rfl, rfl, rfl, rfl⟩ rfl rfl rfl rfl rfl (by kernel_rfl) Try.func7 (by kernel_rfl)
    (of_decide_eq_true (by kernel_rfl)) (by unfold Func.isWrapper; first | (rw [if_pos (by decide +kernel)]; kernel_rfl) | (rw [if_neg (by decide +kernel)]; exact ⟨rfl, rfl⟩))
    (fun os started H enc _ => lifted os started H enc)
#print axioms proved
end Go.Proofs.Ytjghengkpbokaaa.manytimeApart
