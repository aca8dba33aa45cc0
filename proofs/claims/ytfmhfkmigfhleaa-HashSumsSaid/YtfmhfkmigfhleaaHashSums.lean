/-
  The statement HashSums, proved for every slice of bytes, with no condition: Sum returns what the reference returns.
-/
import Derived.Test.YtfmhfkmigfhleaaSums
namespace Go.Proofs.Ytfmhfkmigfhleaa.hashSums
open Go.ChangeShapes Go.WideShapes Go.ChangeAt Go.RowKit Go.Fl

theorem own : ownKnob Try.prog.godebug = none := by kernel_rfl
theorem cells1 : Try.prog.cellsOf 5 = 1 := by kernel_rfl
theorem cells8 : Try.prog.cellsOf 24 = 8 := by kernel_rfl

attribute [local go_sem] equal_nm eqGuard_nm

theorem bytes1 : Try.prog.bytesOf 5 = 1 := by kernel_rfl

theorem walk (A : Option Addr) (l : List UInt8) (c : Nat) (hc : l.length ≤ c) (hm : c ≤ 140737488351232) (w : World) (hr : RB w w.heap.size A l) :
    Calls Try.prog 3 #[.slice A l.length c] w fun e w' => e = .returned (.bool true) ∧ Below w.heap.size w w' := by
  obtain ⟨x, hx⟩ : ∃ x, sumF l = x := ⟨_, rfl⟩
  have HX := Lib.hid hx
  clear hx
  have he := nmEq_self x
  have HR := Lib.hid hr
  clear hr
  have hF := Fr.refl w
  go_enter Try.func3, Try.ntmps3
  go_wp2_with (first
    | (go_at_call 9; refine (sum_is _ _ _ HX hc (by omega) _ HR.out).mono ?_; rintro e w1 ⟨rfl, hb⟩; have hF1 := hF.next hb; clear hb; have HR1 := Lib.hid ((carry HR.out hF hF1).mono (by have := hF1.2; omega)))
    | (go_at_call 10; refine (rsum_is _ _ _ HX hc (by omega) (by omega) _ HR1.out).mono ?_; rintro e w2 ⟨rfl, hb⟩; have hF2 := hF1.next hb; clear hb)
    | (go_at_call 11; refine (awake_any _).mono ?_; rintro e w3 ⟨rfl, hb⟩; have hF3 := hF2.next hb; clear hb))
  go_ret
  exact ⟨rfl, hF3.1⟩

set_option maxRecDepth 100000 in
theorem lifted (os : Os) (started : os.Started) (H : Type) (enc : TypeId × Value → H) :
    ReturnsInHanded {} Try.checked os 3 .any (Rows.hashSumsSpec.pre6 enc Try.prog Try.f3 Rows.hashSumsRow.domain false) (Rows.hashSumsSpec.post enc Try.prog Try.f3 false true false false) := by
  refine law_lifted (C := Try.checked) (n := 1) (tb := 4) own started (by kernel_rfl) Try.func3 rfl (by kernel_rfl)
    (by intro t ht; simp [Try.params3] at ht; obtain rfl := ht; exact ⟨by kernel_rfl, of_decide_eq_true (by kernel_rfl)⟩)
    (by kernel_rfl) (by kernel_rfl) Try.underlying4
    (fun ds hd => by match ds, hd with | [_], _ => rfl)
    (ChangeSpec.witness6 (enc := enc) (C := Try.checked) false ⟨#[], #[.slice none 0 0], []⟩ 8 (by kernel_rfl) (by kernel_rfl) (by kernel_rfl) (by kernel_rfl)) ?_
  intro W base args ds ps hval hA hlt hsz
  rw [Try.params3] at hA hval
  obtain ⟨v0, vs0, d0, ds0, p0, q0, hargs, rfl, rfl, h0, r0⟩ := trodAll_cons hA
  obtain ⟨rfl, rfl, rfl⟩ := trodAll_nil r0
  obtain rfl : args = #[v0] := by cases args; simp_all
  obtain ⟨A, l, c, rfl, hc, hm, hr⟩ := open_bytes Try.underlying22 Try.underlying5 cells1 bytes1 (hval 0 _ v0 rfl rfl) h0 (fun x hx => hlt x (by simp [hx])) hsz (j := 0) (by rw [Try.params3]; rfl) rfl
  exact walk A l c hc hm W hr

theorem proved : Rows.HashSumsSaid :=
  OpenClaim.holds_of_wide 3 Try.f3 rfl rfl rfl rfl rfl rfl rfl ⟨rfl, rfl, rfl, rfl, rfl⟩ rfl rfl rfl rfl rfl (by kernel_rfl) Try.func3 (by kernel_rfl)
    (of_decide_eq_true (by kernel_rfl)) (by unfold Func.isWrapper; first | (rw [if_pos (by decide +kernel)]; kernel_rfl) | (rw [if_neg (by decide +kernel)]; exact ⟨rfl, rfl⟩))
    (fun os started H enc _ => lifted os started H enc)
#print axioms proved
end Go.Proofs.Ytfmhfkmigfhleaa.hashSums
