/-
  The statement HashNumbers, proved for every name and every number, with no condition: Number and Of are inverse to each other, and both agree with the reference.
-/
import Derived.Test.YtfmhfkmigfhleaaNum
namespace Go.Proofs.Ytfmhfkmigfhleaa.hashNumbers
open Go.ChangeShapes Go.WideShapes Go.ChangeAt Go.RowKit Go.Fl

theorem own : ownKnob Try.prog.godebug = none := by kernel_rfl
theorem cells1 : Try.prog.cellsOf 5 = 1 := by kernel_rfl
theorem cells8 : Try.prog.cellsOf 24 = 8 := by kernel_rfl

attribute [local go_sem] equal_nm eqGuard_nm

theorem walk (x v : BitVec 64) (w : World) :
    Calls Try.prog 5 #[nm x, U v] w fun e w' => e = .returned (.bool true) ∧ Below w.heap.size w w' := by
  have ex := nmEq_self x
  have ev := nmEq_self v
  go_enter Try.func5, Try.ntmps5
  go_wp2
  have A1 := At.new w (nmC x) 24
  have A3 : Fr w 1 (w.alloc (.cells (nmC x) 24)) := (Fr.refl w).alloc _
  go_region_held3 (fun w' => Fr w 1 w' ∧ (∀ i, w'.cell? ⟨w.heap.size, i, none⟩ = (nmC x)[i]?))
    (first | exact ⟨A3.drew, A1⟩ | (go_split_ands; exact ⟨Fr.next hb (by assumption), Fr.cells (n := 1) hb (by assumption) (by omega) (by assumption)⟩))
    (first
      | (go_at_call 16; refine (number_any _ _).mono ?_; rintro e w' ⟨rfl, hb⟩)
      | (go_at_call 15; refine (of_any _ _).mono ?_; rintro e w' ⟨rfl, hb⟩)
      | (go_at_call 17; refine (rnumber_any _ _).mono ?_; rintro e w' ⟨rfl, hb⟩)
      | (go_at_call 18; refine (rof_any _ _).mono ?_; rintro e w' ⟨rfl, hb⟩)
      | (go_at_call 11; refine (awake_any _).mono ?_; rintro e w' ⟨rfl, hb⟩))
  all_goals go_split_ands
  all_goals go_wp2
  all_goals go_ret
  all_goals exact ⟨rfl, (by assumption : Fr w 1 _).1⟩

set_option maxRecDepth 100000 in
theorem lifted (os : Os) (started : os.Started) (H : Type) (enc : TypeId × Value → H) :
    ReturnsInHanded {} Try.checked os 5 .any (Rows.hashNumbersSpec.pre6 enc Try.prog Try.f5 Rows.hashNumbersRow.domain false) (Rows.hashNumbersSpec.post enc Try.prog Try.f5 false true false false) := by
  refine law_lifted (C := Try.checked) (n := 2) (tb := 4) own started (by kernel_rfl) Try.func5 rfl (by kernel_rfl)
    (by intro t ht; simp [Try.params5] at ht; rcases ht with rfl | rfl <;> exact ⟨by kernel_rfl, of_decide_eq_true (by kernel_rfl)⟩)
    (by kernel_rfl) (by kernel_rfl) Try.underlying4
    (fun ds hd => by match ds, hd with | [_, _], _ => rfl)
    (ChangeSpec.witness6 (enc := enc) (C := Try.checked) false ⟨#[], #[.agg #[.int .u8 0, .int .u8 0, .int .u8 0, .int .u8 0, .int .u8 0, .int .u8 0, .int .u8 0, .int .u8 0], .int .u64 0], []⟩ 8 (by kernel_rfl) (by kernel_rfl) (by kernel_rfl) (by kernel_rfl)) ?_
  intro W base args ds ps hval hA hlt hsz
  rw [Try.params5] at hA hval
  obtain ⟨v0, vs0, d0, ds0, p0, q0, hargs, rfl, rfl, h0, r0⟩ := trodAll_cons hA
  obtain ⟨v1, vs1, d1, ds1, p1, q1, rfl, rfl, rfl, h1, r1⟩ := trodAll_cons r0
  obtain ⟨rfl, rfl, rfl⟩ := trodAll_nil r1
  obtain rfl : args = #[v0, v1] := by cases args; simp_all
  obtain ⟨x, rfl, rfl⟩ := open_name Try.underlying24 Try.underlying5 cells1 cells8 (hval 0 _ v0 rfl rfl) h0
  obtain ⟨y, rfl, _, rfl⟩ := open_u64 Try.underlying31 (hval 1 _ v1 rfl rfl) h1
  exact walk x y W

theorem proved : Rows.HashNumbersSaid :=
  OpenClaim.holds_of_wide 5 Try.f5 rfl rfl rfl rfl rfl rfl rfl ⟨rfl, rfl, rfl, rfl, rfl⟩ rfl rfl rfl rfl rfl (by kernel_rfl) Try.func5 (by kernel_rfl)
    (of_decide_eq_true (by kernel_rfl)) (by unfold Func.isWrapper; first | (rw [if_pos (by decide +kernel)]; kernel_rfl) | (rw [if_neg (by decide +kernel)]; exact ⟨rfl, rfl⟩))
    (fun os started H enc _ => lifted os started H enc)
#print axioms proved
end Go.Proofs.Ytfmhfkmigfhleaa.hashNumbers
