/-
  The small functions beside the laws of layer 6: awake, ints.
-/
import Derived.Test.YtonchdillkhjbaaCommD
import Derived.Test.YtonchdillkhjbaaR6Ids
import Derived.BigQuiet
namespace Go.Proofs.Ytonchdillkhjbaa
open Go.ChangeShapes Go.WideShapes Go.ChangeAt Go.RowKit Go.Fl

theorem own : ownKnob Try.prog.godebug = none := own6

theorem awake_any (w : World) : Calls Try.prog 14 #[] w fun e w' => e = .returned (.bool true) ∧ Below w.heap.size w w' := by
  go_enter Try.func14, Try.ntmps14
  go_wp2_with fail
  refine (comC.quorum _ 4 ⟨by omega, by omega⟩).mono ?_
  rintro e w1 ⟨rfl, hb1⟩
  rw [show quorumF 4 = 3 by decide]
  have hB1 := hb1
  go_wp2_with fail
  refine (comC.quorum _ 7 ⟨by omega, by omega⟩).mono ?_
  rintro e w2 ⟨rfl, hb2⟩
  rw [show quorumF 7 = 5 by decide]
  have hB2 := hB1.trans (hb2.mono hB1.size)
  go_wp2_with fail
  refine (comC.third _ 4 ⟨by omega, by omega⟩).mono ?_
  rintro e w3 ⟨rfl, hb3⟩
  rw [show thirdF 4 = 2 by decide]
  have hB3 := hB2.trans (hb3.mono hB2.size)
  go_wp2_with fail
  refine (comC.third _ 3 ⟨by omega, by omega⟩).mono ?_
  rintro e w4 ⟨rfl, hb4⟩
  rw [show thirdF 3 = 1 by decide]
  have hB4 := hB3.trans (hb4.mono hB3.size)
  go_wp2_with fail
  refine (comC.sel _ 5 3 1 ⟨by omega, by omega⟩ ⟨by omega, by omega⟩ ⟨by omega, by omega⟩).mono ?_
  rintro e w5 ⟨rfl, hb5⟩
  rw [show selF 5 3 1 = 14 by decide +kernel]
  have hB5 := hB4.trans (hb5.mono hB4.size)
  go_wp2_with fail
  go_ret
  exact ⟨rfl, hB5⟩

/-- Two slices of the same numbers are equal. -/
theorem ints_any (A1 A2 : Option Addr) (c1 c2 n : Nat) (l : List Nat) (hn : n = l.length) (hl : l.length ≤ 10) (w : World) (h1 : RI w w.heap.size A1 l) (h2 : RI w w.heap.size A2 l) :
    Calls Try.prog 19 #[.slice A1 n c1, .slice A2 n c2] w fun e w' => e = .returned (.bool true) ∧ Below w.heap.size w w' := by
  have H1 := Lib.hid h1
  have H2 := Lib.hid h2
  have HN := Lib.hid hn
  clear h1 h2 hn
  go_enter Try.func19, Try.ntmps19
  go_wp2
  go_loopw [5] (fun i wr => ∃ k : Nat, k ≤ n ∧ i = .int .i64 (k : Int) ∧ Below w.heap.size w wr) (fun i _ => n - (intOf i).toNat)
  case atStart => exact ⟨0, by omega, rfl, Below.refl _ _⟩
  case round =>
    obtain ⟨k, hk, rfl, hB⟩ := hrel
    by_cases hlt : k < n
    · have s1 : (k : Int) < (n : Int) := by omega
      have k0 : (0 : Int) ≤ (k : Int) := by omega
      have hpos : 0 < l.length := by have := HN.out; omega
      have k10 : (k : Int) ≤ 10 := by have := HN.out; omega
      obtain ⟨x, hx⟩ : ∃ x, l[k]? = some x := ⟨_, List.getElem?_eq_getElem (by have := HN.out; omega)⟩
      obtain ⟨g, o, rfl, hg, hc⟩ := H1.out hpos
      obtain ⟨g2, o2, rfl, hg2, hc2⟩ := H2.out hpos
      have e1 := fun (w' : World) (h : Below w.heap.size w w') => (h.cell (p := ⟨g, o + k, none⟩) hg).trans (hc k x hx)
      have e2 := fun (w' : World) (h : Below w.heap.size w w') => (h.cell (p := ⟨g2, o2 + k, none⟩) hg2).trans (hc2 k x hx)
      have hBd : Below w.heap.size w wr.drew := hB.trans (Below.refl _ _).drew
      clear hc hc2 hx
      go_wp2
      go_quiet (fail)
      go_wp2
      go_roundw
      case rel => exact ⟨k + 1, by omega, by go_num, hB.trans (fl_drewN _ _ _)⟩
      case measure => simp [intOf]; omega
    · obtain rfl : k = n := by omega
      go_wp2
      go_ret
      exact ⟨rfl, hB⟩
end Go.Proofs.Ytonchdillkhjbaa
