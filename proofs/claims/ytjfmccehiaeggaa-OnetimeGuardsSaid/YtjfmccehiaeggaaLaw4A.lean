/-
  The small functions beside the laws of layer 4: awake, same.
-/
import Derived.Test.YtjfmccehiaeggaaOne
import Derived.BigQuiet
namespace Go.Fl
theorem dig_zero : digF 0 = [0, 0, 0, 0, 0, 0, 0, 0, 0, 0, 0, 0, 0, 0, 0, 0, 15, 0] := by decide +kernel
end Go.Fl
namespace Go.Proofs.Ytjfmccehiaeggaa
open Go.ChangeShapes Go.WideShapes Go.ChangeAt Go.RowKit Go.Fl

attribute [local go_sem] equal_nm eqGuard_nm

theorem cells1 : Try.prog.cellsOf 5 = 1 := by kernel_rfl
theorem cells8 : Try.prog.cellsOf 23 = 8 := by kernel_rfl
theorem bytes8 : Try.prog.bytesOf 23 = 8 := by kernel_rfl
theorem own : ownKnob Try.prog.godebug = none := by kernel_rfl

theorem awake_any (w : World) : Calls Try.prog 11 #[] w fun e w' => e = .returned (.bool true) ∧ Below w.heap.size w w' := by
  go_enter Try.func11, Try.ntmps11
  go_wp2_with fail
  refine (oneO.digits w 0).mono ?_
  rintro e w1 ⟨v, rfl, ho, hb⟩
  rw [dig_zero] at ho
  obtain ⟨A1, n1, c1, rfl, hn1, hc1, hm1, hri⟩ := ho.form_n
  have hn1 := hn1.out
  have hn1 : n1 = 18 := hn1
  subst hn1
  obtain ⟨g, off, rfl, hg, hdc⟩ := hri.out (by simp)
  have d0 : w1.cell? ⟨g, off, none⟩ = some (.int .i64 0) := hdc 0 0 rfl
  have d16 : w1.cell? ⟨g, off + 16, none⟩ = some (.int .i64 15) := hdc 16 15 rfl
  have d17 : w1.cell? ⟨g, off + 17, none⟩ = some (.int .i64 0) := hdc 17 0 rfl
  clear hri hdc ho
  go_wp2
  go_ret
  exact ⟨rfl, hb⟩

set_option maxHeartbeats 600000 in
theorem same_any (w : World) (v u : Value) (l m : List (BitVec 64)) (h : VN w v l) (h2 : VN w u m) (hl : l.length ≤ 281474976710656) (hm : m.length ≤ 281474976710656) :
    Calls Try.prog 14 #[v, u] w fun e w' => e = .returned (.bool (nsEq l m)) ∧ Below w.heap.size w w' := by
  obtain ⟨A, c, rfl, h1, h3, hr⟩ := h
  obtain ⟨A2, c2, rfl, h4, h5, hr2⟩ := h2
  have HR := Lib.hid hr
  have HR2 := Lib.hid hr2
  clear hr hr2
  by_cases hne : l.length = m.length
  · have e1 : (l.length : Int) = (m.length : Int) := by omega
    go_enter Try.func14, Try.ntmps14
    go_wp2
    go_loopw [5] (fun i wr => ∃ k : Nat, k ≤ l.length ∧ i = .int .i64 k ∧ l.take k = m.take k ∧ Fr w 0 wr) (fun i _ => l.length - (intOf i).toNat)
    case atStart => exact ⟨0, by omega, rfl, rfl, Fr.refl w⟩
    case round =>
      obtain ⟨k, hk, rfl, hp, hF⟩ := hrel
      by_cases hlt : k < l.length
      · obtain ⟨y, hy⟩ : ∃ y, l[k]? = some y := ⟨_, List.getElem?_eq_getElem hlt⟩
        obtain ⟨z, hz⟩ : ∃ z, m[k]? = some z := ⟨_, List.getElem?_eq_getElem (by omega)⟩
        have HRa := HR.out.keep hF.1
        have HRb := HR2.out.keep hF.1
        obtain ⟨g, off, rfl, hg, hcell⟩ := HRa.at_ hy
        obtain ⟨g2, off2, rfl, hg2, hcell2⟩ := HRb.at_ hz
        have s1 : (k : Int) < (l.length : Int) := by omega
        have s2 : (k : Int) < (m.length : Int) := by omega
        have a0 : wr.cell? ⟨g, off + k * 8, none⟩ = some (B (nb y 0)) := hcell 0 (by omega)
        have a1 : wr.cell? ⟨g, off + k * 8 + 1, none⟩ = some (B (nb y 1)) := hcell 1 (by omega)
        have a2 : wr.cell? ⟨g, off + k * 8 + 2, none⟩ = some (B (nb y 2)) := hcell 2 (by omega)
        have a3 : wr.cell? ⟨g, off + k * 8 + 3, none⟩ = some (B (nb y 3)) := hcell 3 (by omega)
        have a4 : wr.cell? ⟨g, off + k * 8 + 4, none⟩ = some (B (nb y 4)) := hcell 4 (by omega)
        have a5 : wr.cell? ⟨g, off + k * 8 + 5, none⟩ = some (B (nb y 5)) := hcell 5 (by omega)
        have a6 : wr.cell? ⟨g, off + k * 8 + 6, none⟩ = some (B (nb y 6)) := hcell 6 (by omega)
        have a7 : wr.cell? ⟨g, off + k * 8 + 7, none⟩ = some (B (nb y 7)) := hcell 7 (by omega)
        have b0 : wr.cell? ⟨g2, off2 + k * 8, none⟩ = some (B (nb z 0)) := hcell2 0 (by omega)
        have b1 : wr.cell? ⟨g2, off2 + k * 8 + 1, none⟩ = some (B (nb z 1)) := hcell2 1 (by omega)
        have b2 : wr.cell? ⟨g2, off2 + k * 8 + 2, none⟩ = some (B (nb z 2)) := hcell2 2 (by omega)
        have b3 : wr.cell? ⟨g2, off2 + k * 8 + 3, none⟩ = some (B (nb z 3)) := hcell2 3 (by omega)
        have b4 : wr.cell? ⟨g2, off2 + k * 8 + 4, none⟩ = some (B (nb z 4)) := hcell2 4 (by omega)
        have b5 : wr.cell? ⟨g2, off2 + k * 8 + 5, none⟩ = some (B (nb z 5)) := hcell2 5 (by omega)
        have b6 : wr.cell? ⟨g2, off2 + k * 8 + 6, none⟩ = some (B (nb z 6)) := hcell2 6 (by omega)
        have b7 : wr.cell? ⟨g2, off2 + k * 8 + 7, none⟩ = some (B (nb z 7)) := hcell2 7 (by omega)
        clear hcell hcell2
        by_cases hyz : y = z
        · subst hyz
          have e3 := nmEq_self y
          have hstep : l.take (k + 1) = m.take (k + 1) := by rw [← take_snoc l k y hy, ← take_snoc m k y hz, hp]
          go_wp2
          go_quiet (fail)
          go_wp2
          go_roundw
          case rel => exact ⟨k + 1, by omega, by go_num, hstep, hF.drewN _⟩
          case measure => simp [intOf]; omega
        · have e3 := nmEq_ne hyz
          have e4 : nsEq l m = false := by
            unfold nsEq
            rw [decide_eq_false_iff_not]
            intro h
            subst h
            rw [hy] at hz
            exact hyz (Option.some.inj hz)
          go_wp2
          go_quiet (fail)
          go_wp2
          go_ret
          exact ⟨by rw [e4]; rfl, (hF.drewN _).1⟩
      · obtain rfl : k = l.length := by omega
        go_wp2
        go_ret
        refine ⟨?_, hF.1⟩
        rw [List.take_length, hne, List.take_length] at hp
        subst hp
        rw [nsEq_self]
        rfl
  · have e1 : (l.length : Int) ≠ (m.length : Int) := by omega
    have e2 : nsEq l m = false := by
      unfold nsEq
      rw [decide_eq_false_iff_not]
      intro h
      exact hne (by rw [h])
    go_enter Try.func14, Try.ntmps14
    go_wp2
    go_ret
    exact ⟨by rw [e2]; rfl, Below.refl _ _⟩

end Go.Proofs.Ytjfmccehiaeggaa
