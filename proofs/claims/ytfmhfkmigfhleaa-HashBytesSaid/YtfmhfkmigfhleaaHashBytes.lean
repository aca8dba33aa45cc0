/-
  The statement HashBytes, proved for all names, with no condition: Less agrees with the order of the strings of their bytes.
-/
import Derived.Test.YtfmhfkmigfhleaaNum
namespace Go.Proofs.Ytfmhfkmigfhleaa.hashBytes
open Go.ChangeShapes Go.WideShapes Go.ChangeAt Go.RowKit Go.Fl

theorem own : ownKnob Try.prog.godebug = none := by kernel_rfl
theorem cells1 : Try.prog.cellsOf 5 = 1 := by kernel_rfl
theorem cells8 : Try.prog.cellsOf 24 = 8 := by kernel_rfl

attribute [local go_sem] equal_nm eqGuard_nm bsOf_toList

theorem walk (x y : BitVec 64) (w : World) :
    Calls Try.prog 7 #[nm x, nm y] w fun e w' => e = .returned (.bool true) ∧ Below w.heap.size w w' := by
  have hl : ltB x y = Op.bytesLess (nmL x) (nmL y) := (bytesLess_nm x y).symm
  have C0 := fun (w' : World) h => run_convert_nm (P := Try.prog) (ts := 22) (tstr := 9) Try.underlying22 Try.underlying5 Try.underlying9 w.heap.size x w' h
  have C1 := fun (w' : World) h => run_convert_nm (P := Try.prog) (ts := 22) (tstr := 9) Try.underlying22 Try.underlying5 Try.underlying9 (w.heap.size + 1) y w' h
  have A1 := At.old (At.new w (nmC x) 24) (.cells (nmC y) 24) (by simp)
  have A2 := At.newAt (w.alloc (.cells (nmC x) 24)) (nmC y) 24 (g := w.heap.size + 1) (by simp)
  have A3 : Fr w 2 ((w.alloc (.cells (nmC x) 24)).alloc (.cells (nmC y) 24)) := ((Fr.refl w).alloc _).alloc _
  go_enter Try.func7, Try.ntmps7
  go_wp2
  go_region_held3 (fun w' => Fr w 2 w' ∧ (∀ i, w'.cell? ⟨w.heap.size, i, none⟩ = (nmC x)[i]?) ∧ (∀ i, w'.cell? ⟨w.heap.size + 1, i, none⟩ = (nmC y)[i]?))
    (first | exact ⟨A3.drew, A1, A2⟩ | assumption | (go_split_ands; exact ⟨Fr.next hb (by assumption), Fr.cells (n := 2) hb (by assumption) (by omega) (by assumption), Fr.cells (n := 2) hb (by assumption) (by omega) (by assumption)⟩))
    (first
      | (go_at_call 19; refine (less_any _ _ _).mono ?_; rintro e w' ⟨rfl, hb⟩)
      | (go_at_call 11; refine (awake_any _).mono ?_; rintro e w' ⟨rfl, hb⟩))
  all_goals go_split_ands
  all_goals go_wp2
  all_goals go_ret
  all_goals exact ⟨rfl, (by assumption : Fr w 2 _).1⟩

set_option maxRecDepth 100000 in
theorem lifted (os : Os) (started : os.Started) (H : Type) (enc : TypeId × Value → H) :
    ReturnsInHanded {} Try.checked os 7 .any (Rows.hashBytesSpec.pre6 enc Try.prog Try.f7 Rows.hashBytesRow.domain false) (Rows.hashBytesSpec.post enc Try.prog Try.f7 false true false false) := by
  refine law_lifted (C := Try.checked) (n := 2) (tb := 4) own started (by kernel_rfl) Try.func7 rfl (by kernel_rfl)
    (by intro t ht; simp [Try.params7] at ht; obtain rfl := ht; exact ⟨by kernel_rfl, of_decide_eq_true (by kernel_rfl)⟩)
    (by kernel_rfl) (by kernel_rfl) Try.underlying4
    (fun ds hd => by match ds, hd with | [_, _], _ => rfl)
    (ChangeSpec.witness6 (enc := enc) (C := Try.checked) false ⟨#[], #[.agg #[.int .u8 0, .int .u8 0, .int .u8 0, .int .u8 0, .int .u8 0, .int .u8 0, .int .u8 0, .int .u8 0], .agg #[.int .u8 0, .int .u8 0, .int .u8 0, .int .u8 0, .int .u8 0, .int .u8 0, .int .u8 0, .int .u8 0]], []⟩ 8 (by kernel_rfl) (by kernel_rfl) (by kernel_rfl) (by kernel_rfl)) ?_
  intro W base args ds ps hval hA hlt hsz
  rw [Try.params7] at hA hval
  obtain ⟨v0, vs0, d0, ds0, p0, q0, hargs, rfl, rfl, h0, r0⟩ := trodAll_cons hA
  obtain ⟨v1, vs1, d1, ds1, p1, q1, rfl, rfl, rfl, h1, r1⟩ := trodAll_cons r0
  obtain ⟨rfl, rfl, rfl⟩ := trodAll_nil r1
  obtain rfl : args = #[v0, v1] := by cases args; simp_all
  obtain ⟨x, rfl, rfl⟩ := open_name Try.underlying24 Try.underlying5 cells1 cells8 (hval 0 _ v0 rfl rfl) h0
  obtain ⟨y, rfl, rfl⟩ := open_name Try.underlying24 Try.underlying5 cells1 cells8 (hval 1 _ v1 rfl rfl) h1
  exact walk x y W

theorem proved : Rows.HashBytesSaid :=
  OpenClaim.holds_of_wide 7 Try.f7 rfl rfl rfl rfl rfl rfl rfl ⟨rfl, rfl, rfl, rfl, rfl⟩ rfl rfl rfl rfl rfl (by kernel_rfl) Try.func7 (by kernel_rfl)
    (of_decide_eq_true (by kernel_rfl)) (by unfold Func.isWrapper; first | (rw [if_pos (by decide +kernel)]; kernel_rfl) | (rw [if_neg (by decide +kernel)]; exact ⟨rfl, rfl⟩))
    (fun os started H enc _ => lifted os started H enc)
#print axioms proved
end Go.Proofs.Ytfmhfkmigfhleaa.hashBytes
