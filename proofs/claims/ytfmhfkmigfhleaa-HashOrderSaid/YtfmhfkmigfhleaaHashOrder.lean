/-
  The statement HashOrder, proved for all names, with no condition: Less is irreflexive, total and transitive, and agrees with the reference.
-/
import Derived.Test.YtfmhfkmigfhleaaNum
namespace Go.Proofs.Ytfmhfkmigfhleaa.hashOrder
open Go.ChangeShapes Go.WideShapes Go.ChangeAt Go.RowKit Go.Fl

theorem own : ownKnob Try.prog.godebug = none := by kernel_rfl
theorem cells1 : Try.prog.cellsOf 5 = 1 := by kernel_rfl
theorem cells8 : Try.prog.cellsOf 24 = 8 := by kernel_rfl

attribute [local go_sem] equal_nm eqGuard_nm

theorem lt_self (a : BitVec 64) : ltB a a = false := by simp [ltB]
theorem lt_asymm {a b : BitVec 64} (h : ltB a b = true) : ltB b a = false := by
  simp [ltB] at *
  omega
theorem lt_trans {a b c : BitVec 64} (h : ltB a b = true) (k : ltB b c = true) : ltB a c = true := by
  simp [ltB] at *
  omega
theorem lt_ne {a b : BitVec 64} (h : ltB a b = true) : a ≠ b := by
  rintro rfl
  simp [ltB] at h
theorem lt_total {a b : BitVec 64} (h : a ≠ b) (k : ltB a b = false) : ltB b a = true := by
  simp [ltB] at *
  have : iu a ≠ iu b := fun e => h (iu_inj e)
  omega

set_option maxHeartbeats 1000000 in
theorem walk_any (a b c : BitVec 64) (w : World)
    (hc : (ltB a b = true ∧ ltB b a = false ∧ nmEq a b = false ∧ ((ltB b c = true ∧ ltB a c = true) ∨ ltB b c = false)) ∨ (ltB a b = false ∧ ltB b a = true ∧ nmEq a b = false) ∨ (ltB a b = false ∧ ltB b a = false ∧ nmEq a b = true)) :
    Calls Try.prog 6 #[nm a, nm b, nm c] w fun e w' => e = .returned (.bool true) ∧ Below w.heap.size w w' := by
  have haa := lt_self a
  have CA := At.old (At.old (At.new w (nmC a) 24) (.cells (nmC b) 24) (by simp)) (.cells (nmC c) 24) (by simp; omega)
  have CB := At.old (At.newAt (w.alloc (.cells (nmC a) 24)) (nmC b) 24 (g := w.heap.size + 1) (by simp)) (.cells (nmC c) 24) (by simp)
  have CC := At.newAt ((w.alloc (.cells (nmC a) 24)).alloc (.cells (nmC b) 24)) (nmC c) 24 (g := w.heap.size + 1 + 1) (by simp)
  have HF : Fr w 3 (((w.alloc (.cells (nmC a) 24)).alloc (.cells (nmC b) 24)).alloc (.cells (nmC c) 24)) := (((Fr.refl w).alloc _).alloc _).alloc _
  rcases hc with ⟨hab, hba, hne, ⟨hbcc, hac⟩ | hbcc⟩ | ⟨hab, hba, hne⟩ | ⟨hab, hba, hne⟩
  all_goals go_enter Try.func6, Try.ntmps6
  all_goals go_wp2_with (go_at_call 19; refine (less_any _ _ _).mono ?_; rintro e w1 ⟨rfl, hb⟩; replace CA := Fr.cells (n := 3) hb HF (by omega) CA; replace CB := Fr.cells (n := 3) hb HF (by omega) CB; replace CC := Fr.cells (n := 3) hb HF (by omega) CC; replace HF := Fr.next hb HF; clear hb)
  all_goals go_region_held3 (fun w' => Fr w 3 w' ∧ (∀ i, w'.cell? ⟨w.heap.size, i, none⟩ = (nmC a)[i]?) ∧ (∀ i, w'.cell? ⟨w.heap.size + 1, i, none⟩ = (nmC b)[i]?))
    (first | exact ⟨HF.drew, CA, CB⟩ | (go_split_ands; exact ⟨Fr.next hb (by assumption), Fr.cells (n := 3) hb (by assumption) (by omega) (by assumption), Fr.cells (n := 3) hb (by assumption) (by omega) (by assumption)⟩))
    (first
      | (go_at_call 19; refine (less_any _ _ _).mono ?_; rintro e w' ⟨rfl, hb⟩)
      | (go_at_call 20; refine (rless_any _ _ _).mono ?_; rintro e w' ⟨rfl, hb⟩)
      | (go_at_call 11; refine (awake_any _).mono ?_; rintro e w' ⟨rfl, hb⟩))
  all_goals go_split_ands
  all_goals go_wp2
  all_goals go_ret
  all_goals exact ⟨rfl, (by assumption : Fr w 3 _).1⟩

theorem walk (a b c : BitVec 64) (w : World) :
    Calls Try.prog 6 #[nm a, nm b, nm c] w fun e w' => e = .returned (.bool true) ∧ Below w.heap.size w w' := by
  refine walk_any a b c w ?_
  by_cases e : a = b
  · subst e
    exact Or.inr (Or.inr ⟨lt_self a, lt_self a, nmEq_self a⟩)
  · cases h : ltB a b
    · exact Or.inr (Or.inl ⟨rfl, lt_total e h, nmEq_ne e⟩)
    · exact Or.inl ⟨rfl, lt_asymm h, nmEq_ne e, by cases k : ltB b c; exact Or.inr rfl; exact Or.inl ⟨rfl, lt_trans h k⟩⟩

set_option maxRecDepth 100000 in
theorem lifted (os : Os) (started : os.Started) (H : Type) (enc : TypeId × Value → H) :
    ReturnsInHanded {} Try.checked os 6 .any (Rows.hashOrderSpec.pre6 enc Try.prog Try.f6 Rows.hashOrderRow.domain false) (Rows.hashOrderSpec.post enc Try.prog Try.f6 false true false false) := by
  refine law_lifted (C := Try.checked) (n := 3) (tb := 4) own started (by kernel_rfl) Try.func6 rfl (by kernel_rfl)
    (by intro t ht; simp [Try.params6] at ht; obtain rfl := ht; exact ⟨by kernel_rfl, of_decide_eq_true (by kernel_rfl)⟩)
    (by kernel_rfl) (by kernel_rfl) Try.underlying4
    (fun ds hd => by match ds, hd with | [_, _, _], _ => rfl)
    (ChangeSpec.witness6 (enc := enc) (C := Try.checked) false ⟨#[], #[.agg #[.int .u8 0, .int .u8 0, .int .u8 0, .int .u8 0, .int .u8 0, .int .u8 0, .int .u8 0, .int .u8 0], .agg #[.int .u8 0, .int .u8 0, .int .u8 0, .int .u8 0, .int .u8 0, .int .u8 0, .int .u8 0, .int .u8 0], .agg #[.int .u8 0, .int .u8 0, .int .u8 0, .int .u8 0, .int .u8 0, .int .u8 0, .int .u8 0, .int .u8 0]], []⟩ 8 (by kernel_rfl) (by kernel_rfl) (by kernel_rfl) (by kernel_rfl)) ?_
  intro W base args ds ps hval hA hlt hsz
  rw [Try.params6] at hA hval
  obtain ⟨v0, vs0, d0, ds0, p0, q0, hargs, rfl, rfl, h0, r0⟩ := trodAll_cons hA
  obtain ⟨v1, vs1, d1, ds1, p1, q1, rfl, rfl, rfl, h1, r1⟩ := trodAll_cons r0
  obtain ⟨v2, vs2, d2, ds2, p2, q2, rfl, rfl, rfl, h2, r2⟩ := trodAll_cons r1
  obtain ⟨rfl, rfl, rfl⟩ := trodAll_nil r2
  obtain rfl : args = #[v0, v1, v2] := by cases args; simp_all
  obtain ⟨x, rfl, rfl⟩ := open_name Try.underlying24 Try.underlying5 cells1 cells8 (hval 0 _ v0 rfl rfl) h0
  obtain ⟨y, rfl, rfl⟩ := open_name Try.underlying24 Try.underlying5 cells1 cells8 (hval 1 _ v1 rfl rfl) h1
  obtain ⟨z, rfl, rfl⟩ := open_name Try.underlying24 Try.underlying5 cells1 cells8 (hval 2 _ v2 rfl rfl) h2
  exact walk x y z W

theorem proved : Rows.HashOrderSaid :=
  OpenClaim.holds_of_wide 6 Try.f6 rfl rfl rfl rfl rfl rfl rfl ⟨rfl, rfl, rfl, rfl, rfl⟩ rfl rfl rfl rfl rfl (by kernel_rfl) Try.func6 (by kernel_rfl)
    (of_decide_eq_true (by kernel_rfl)) (by unfold Func.isWrapper; first | (rw [if_pos (by decide +kernel)]; kernel_rfl) | (rw [if_neg (by decide +kernel)]; exact ⟨rfl, rfl⟩))
    (fun os started H enc _ => lifted os started H enc)
#print axioms proved
end Go.Proofs.Ytfmhfkmigfhleaa.hashOrder
