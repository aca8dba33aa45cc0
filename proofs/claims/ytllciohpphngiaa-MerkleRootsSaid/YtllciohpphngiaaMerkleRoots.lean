/-
  The statement MerkleRoots, proved for every slice of names and every number, with no condition: Root and Path are as documented.
-/
import Derived.Test.YtllciohpphngiaaLaw3A
namespace Go.Proofs.Ytllciohpphngiaa.merkleRoots
open Go.ChangeShapes Go.WideShapes Go.ChangeAt Go.RowKit Go.Fl

attribute [local go_sem] equal_nm eqGuard_nm

theorem walk (w : World) (v : Value) (l : List (BitVec 64)) (i : Int) (hv : VN w v l) (hl : l.length ≤ 17592186044160) (hi : I64 i) :
    Calls Try.prog 3 #[v, .int .i64 i] w fun e w' => e = .returned (.bool true) ∧ Below w.heap.size w w' := by
  go_enter Try.func3, Try.ntmps3
  go_wp2_with fail
  refine (vn_cut hv hl).mono ?_
  rintro e w1 ⟨u, rfl, hu, rfl⟩
  have hm : (l.take 300).length ≤ 300 := by rw [List.length_take]; omega
  generalize l.take 300 = m at hu hm
  obtain ⟨⟨r, b⟩, hr⟩ : ∃ r, pathP m i = r := ⟨_, rfl⟩
  obtain ⟨x, hx⟩ : ∃ x, rootF m = x := ⟨_, rfl⟩
  have hrl : r.length ≤ 63 := by
    have := pathP_len m i (by omega)
    rw [hr] at this
    exact this
  have hxx := nmEq_self x
  have HR := Lib.hid hr
  have HX := Lib.hid hx
  have HL := Lib.hid hrl
  clear hv hl hr hx hrl
  go_wp2_with (first
    | (go_at_call 11; refine (merkleM.path _ u m i (r, b) hu (by omega) hi HR).mono ?_; rintro e w1 ⟨v1, rfl, ho1, hb1⟩; have hF1 := (Fr.refl w).next hb1; have hu1 := hu.next hb1; have hp1 := ho1.vn)
    | (go_at_call 12; refine (refM.path _ u m i (r, b) hu1 (by omega) hi HR).mono ?_; rintro e w2 ⟨v2, rfl, ho2, hb2⟩; have hF2 := hF1.next hb2; have hu2 := hu1.next hb2; have hp12 := hp1.next hb2; have hp22 := ho2.vn)
    | (go_at_call 13; refine (merkleM.root _ u m x hu2 (by omega) HX).mono ?_; rintro e w3 ⟨rfl, hb3⟩; have hF3 := hF2.next hb3; have hu3 := hu2.next hb3; have hp13 := hp12.next hb3; have hp23 := hp22.next hb3)
    | (go_at_call 14; refine (refM.root _ u m x hu3 (by omega) HX).mono ?_; rintro e w4 ⟨rfl, hb4⟩; have hF4 := hF3.next hb4; have hp14 := hp13.next hb4; have hp24 := hp23.next hb4)
    | (go_at_call 15; refine (same_any _ v1 v2 r r hp14 hp24 (by (have := HL.out; omega)) (by (have := HL.out; omega))).mono ?_; rintro e w5 ⟨rfl, hb5⟩; rw [nsEq_self]; have hF5 := hF4.next hb5)
    | (go_at_call 16; refine (awake_any _).mono ?_; rintro e w6 ⟨rfl, hb6⟩; have hF6 := hF5.next hb6)
    | fail)
  go_ret
  exact ⟨rfl, hF6.1⟩

set_option maxRecDepth 100000 in
/-- The law's step, at every reading. -/
theorem lifted (os : Os) (started : os.Started) (H : Type) (enc : TypeId × Value → H) :
    ReturnsInHanded {} Try.checked os 3 .any (Rows.merkleRootsSpec.pre6 enc Try.prog Try.f3 Rows.merkleRootsRow.domain false) (Rows.merkleRootsSpec.post enc Try.prog Try.f3 false true false false) := by
  refine law_lifted (C := Try.checked) (n := 2) (tb := 4) own started (by kernel_rfl) Try.func3 rfl (by kernel_rfl)
    (of_decide_eq_true (by kernel_rfl)) (by kernel_rfl) (by kernel_rfl) Try.underlying4
    (fun ds hd => by match ds, hd with | [_, _], _ => rfl)
    (ChangeSpec.witness6 (enc := enc) (C := Try.checked) false ⟨#[], #[.slice none 0 0, .int .i64 0], []⟩ 8 (by kernel_rfl) (by kernel_rfl) (by kernel_rfl) (by kernel_rfl)) ?_
  intro W base args ds ps hval hA hlt hsz
  rw [Try.params3] at hA hval
  obtain ⟨v0, vs0, d0, ds0, p0, q0, hargs, rfl, rfl, h0, r0⟩ := trodAll_cons hA
  obtain ⟨v1, vs1, d1, ds1, p1, q1, rfl, rfl, rfl, h1, r1⟩ := trodAll_cons r0
  obtain ⟨rfl, rfl, rfl⟩ := trodAll_nil r1
  obtain rfl : args = #[v0, v1] := by cases args; simp_all
  obtain ⟨A0, l0, c0, rfl, hc0, hm0, hr0⟩ := open_names Try.underlying22 Try.underlying27 Try.underlying5 cells1 cells8 bytes8 (hval 0 _ v0 rfl rfl) h0 (fun x hx => hlt x (by simp [hx])) hsz (j := 0) (by rw [Try.params3]; rfl) rfl
  obtain ⟨x1, rfl, rfl, rfl, wn1⟩ := open_int Try.underlying3 (hval 1 _ v1 rfl rfl) h1
  exact walk W _ l0 x1 (VN.mk hr0 hc0 hm0) (by omega) (bounds_i64 wn1)

theorem proved : Rows.MerkleRootsSaid :=
  OpenClaim.holds_of_wide 3 Try.f3 rfl rfl rfl rfl rfl rfl rfl ⟨rfl, rfl, rfl, rfl, rfl⟩ rfl rfl rfl rfl rfl (by kernel_rfl) Try.func3 (by kernel_rfl)
    (of_decide_eq_true (by kernel_rfl)) (by unfold Func.isWrapper; first | (rw [if_pos (by decide +kernel)]; kernel_rfl) | (rw [if_neg (by decide +kernel)]; exact ⟨rfl, rfl⟩))
    (fun os started H enc _ => lifted os started H enc)
#print axioms proved
end Go.Proofs.Ytllciohpphngiaa.merkleRoots
