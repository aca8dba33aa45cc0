/-
  The statement CommitteeSets, proved for every mask and numbers, with no condition: Has, Size, IDs and Lowest are as documented.
-/
import Derived.Test.YtonchdillkhjbaaLaw6A
namespace Go.Proofs.Ytonchdillkhjbaa.committeeSets
open Go.ChangeShapes Go.WideShapes Go.ChangeAt Go.RowKit Go.Fl

set_option maxRecDepth 10000 in
set_option maxHeartbeats 1000000 in
theorem walk (w : World) (m i k : Int) (hm : I64 m) (hi : I64 i) (hk : I64 k) :
    Calls Try.prog 4 #[.int .i64 m, .int .i64 i, .int .i64 k] w fun e w' => e = .returned (.bool true) ∧ Below w.heap.size w w' := by
  have HM := Lib.hid hm
  have HI := Lib.hid hi
  have HK := Lib.hid hk
  have hlen : (idsF m).length ≤ 10 := by have := (idsF_sub m).length_le; simpa using this
  have HLEN := Lib.hid hlen
  obtain ⟨b, eH⟩ : ∃ b, hasF m i = b := ⟨_, rfl⟩
  obtain ⟨z, eL⟩ : ∃ z, lowF m k = z := ⟨_, rfl⟩
  obtain ⟨N, eN⟩ : ∃ n, ((idsF m).length : Int) = n := ⟨_, rfl⟩
  clear hlen hm hi hk
  go_enter Try.func4, Try.ntmps4
  go_wp2_with fail
  refine (comC.has _ m i HM.out HI.out).mono ?_
  rintro e w1 ⟨rfl, hb1⟩
  rw [eH]
  have hB1 := hb1
  go_wp2_with fail
  refine (refC.has _ m i HM.out HI.out).mono ?_
  rintro e w2 ⟨rfl, hb2⟩
  rw [eH]
  have hB2 := hB1.trans (hb2.mono hB1.size)
  go_wp2_with fail
  refine (comC.size _ m HM.out).mono ?_
  rintro e w3 ⟨rfl, hb3⟩
  rw [eN]
  have hB3 := hB2.trans (hb3.mono hB2.size)
  go_wp2_with fail
  refine (refC.size _ m HM.out).mono ?_
  rintro e w4 ⟨rfl, hb4⟩
  rw [eN]
  have hB4 := hB3.trans (hb4.mono hB3.size)
  go_wp2_with fail
  refine (comC.ids _ m HM.out).mono ?_
  rintro e w5 ⟨vc, rfl, hoc, hb5⟩
  obtain ⟨Ac, nc, cc, rfl, hnc, -, -, hrc⟩ := hoc.form_n
  have hB5 := hB4.trans (hb5.mono hB4.size)
  go_wp2_with fail
  refine (refC.ids _ m HM.out).mono ?_
  rintro e w6 ⟨vr, rfl, hor, hb6⟩
  obtain ⟨Ar, nr, cr, rfl, hnr, -, -, hrr⟩ := hor.form_n
  have hB6 := hB5.trans (hb6.mono hB5.size)
  have hrc2 := Lib.hid ((hrc.out.keep hb6).mono hb6.size)
  have hcn := hnc.out
  have hrn := hnr.out
  have ecr : nr = nc := by omega
  subst ecr
  have HRN := Lib.hid hrn
  clear hoc hor hrc hnc hnr hcn hrn
  go_wp2_with fail
  refine (ints_any Ac Ar cc cr nr (idsF m) HRN.out HLEN.out _ hrc2.out hrr.out).mono ?_
  rintro e w7 ⟨rfl, hb7⟩
  have hB7 := hB6.trans (hb7.mono hB6.size)
  clear hrr hrc2
  go_wp2_with fail
  refine (comC.low _ m k HM.out HK.out).mono ?_
  rintro e w8 ⟨rfl, hb8⟩
  rw [eL]
  have hB8 := hB7.trans (hb8.mono hB7.size)
  go_wp2_with fail
  refine (refC.low _ m k HM.out HK.out).mono ?_
  rintro e w9 ⟨rfl, hb9⟩
  rw [eL]
  have hB9 := hB8.trans (hb9.mono hB8.size)
  go_wp2_with fail
  refine (awake_any _).mono ?_
  rintro e w10 ⟨rfl, hb10⟩
  have hB10 := hB9.trans (hb10.mono hB9.size)
  go_wp2_with fail
  go_ret
  exact ⟨rfl, hB10⟩

set_option maxRecDepth 100000 in
/-- The law's step, at every reading. -/
theorem lifted (os : Os) (started : os.Started) (H : Type) (enc : TypeId × Value → H) :
    ReturnsInHanded {} Try.checked os 4 .any (Rows.committeeSetsSpec.pre6 enc Try.prog Try.f4 Rows.committeeSetsRow.domain false) (Rows.committeeSetsSpec.post enc Try.prog Try.f4 false true false false) := by
  refine law_lifted (C := Try.checked) (n := 3) (tb := 4) own started (by kernel_rfl) Try.func4 rfl (by kernel_rfl)
    (of_decide_eq_true (by kernel_rfl)) (by kernel_rfl) (by kernel_rfl) Try.underlying4
    (fun ds hd => by match ds, hd with | [_, _, _], _ => rfl)
    (ChangeSpec.witness6 (enc := enc) (C := Try.checked) false ⟨#[], #[.int .i64 0, .int .i64 0, .int .i64 0], []⟩ 8 (by kernel_rfl) (by kernel_rfl) (by kernel_rfl) (by kernel_rfl)) ?_
  intro W base args ds ps hval hA hlt hsz
  rw [Try.params4] at hA hval
  obtain ⟨v0, vs0, d0, ds0, p0, q0, hargs, rfl, rfl, h0, r0⟩ := trodAll_cons hA
  obtain ⟨v1, vs1, d1, ds1, p1, q1, rfl, rfl, rfl, h1, r1⟩ := trodAll_cons r0
  obtain ⟨v2, vs2, d2, ds2, p2, q2, rfl, rfl, rfl, h2, r2⟩ := trodAll_cons r1
  obtain ⟨rfl, rfl, rfl⟩ := trodAll_nil r2
  obtain rfl : args = #[v0, v1, v2] := by cases args; simp_all
  obtain ⟨x0, rfl, rfl, rfl, wn0⟩ := open_int Try.underlying25 (hval 0 _ v0 rfl rfl) h0
  obtain ⟨x1, rfl, rfl, rfl, wn1⟩ := open_int Try.underlying3 (hval 1 _ v1 rfl rfl) h1
  obtain ⟨x2, rfl, rfl, rfl, wn2⟩ := open_int Try.underlying3 (hval 2 _ v2 rfl rfl) h2
  exact walk W x0 x1 x2 (bounds_i64 wn0) (bounds_i64 wn1) (bounds_i64 wn2)

theorem proved : Rows.CommitteeSetsSaid :=
  OpenClaim.holds_of_wide 4 Try.f4 rfl rfl rfl rfl rfl rfl rfl ⟨rfl, rfl, rfl, rfl, rfl⟩ rfl rfl rfl rfl rfl (by kernel_rfl) Try.func4 (by kernel_rfl)
    (of_decide_eq_true (by kernel_rfl)) (by unfold Func.isWrapper; first | (rw [if_pos (by decide +kernel)]; kernel_rfl) | (rw [if_neg (by decide +kernel)]; exact ⟨rfl, rfl⟩))
    (fun os started H enc _ => lifted os started H enc)
#print axioms proved
end Go.Proofs.Ytonchdillkhjbaa.committeeSets
