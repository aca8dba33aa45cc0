/-
  The statement CodecFresh, proved for every three slices of bytes, number, width and slice of names, with no condition: the Append functions return new memory.
-/
import Derived.Test.YtnpbohndhgnfjaaWrite
namespace Go.Fl
open Go.ChangeShapes Go.WideShapes Go.ChangeAt Go.RowKit
/-- Cells of bytes from block n0 on that may be written. -/
def RowC (w : World) (n0 : Nat) (A : Option Addr) (n : Nat) : Prop :=
  ∀ i, i < n → ∃ g, A = some ⟨g, 0, none⟩ ∧ n0 ≤ g ∧ g < w.heap.size ∧ (∃ z, w.cell? ⟨g, i, none⟩ = some (.int .u8 z)) ∧ w.frozen? ⟨g, i, none⟩ = false
section
variable {w w' : World} {n0 n : Nat} {A : Option Addr}
theorem RowC.next (h : RowC w n0 A n) (hb : Below w.heap.size w w') : RowC w' n0 A n := fun i hi => by
  obtain ⟨g, rfl, h1, h2, ⟨z, hz⟩, h4⟩ := h i hi
  exact ⟨g, rfl, h1, Nat.lt_of_lt_of_le h2 hb.size, ⟨z, (hb.cell h2).trans hz⟩, (hb.frozen (p := ⟨g, i, none⟩) h2).trans h4⟩
theorem RowC.mono (h : RowC w n0 A n) {m : Nat} (hm : m ≤ n0) : RowC w m A n := fun i hi => by
  obtain ⟨g, rfl, h1, h2⟩ := h i hi
  exact ⟨g, rfl, by omega, h2⟩
theorem RowC.set (h : RowC w n0 A n) (p : Addr) (z : Int) : RowC (w.setCell p (.int .u8 z)) n0 A n := fun i hi => by
  obtain ⟨g, rfl, h1, h2, ⟨z0, hz⟩, h4⟩ := h i hi
  refine ⟨g, rfl, h1, by simpa [World.setCell] using h2, ?_, by rw [World.frozen?_setCell]; exact h4⟩
  by_cases e : p = ⟨g, i, none⟩
  · subst e
    exact ⟨z, World.cell?_setCell_same' _ _ _ (by rw [hz]; rfl)⟩
  · exact ⟨z0, by rw [World.cell?_setCell_other (h := e)]; exact hz⟩
theorem OB.row {base : Nat} {tb : TypeId} {v : Value} {l : List UInt8} (h : OB w base tb v l) : ∃ A c, v = .slice A l.length c ∧ l.length ≤ c ∧ c ≤ 9223372036854775807 ∧ RowC w base A l.length := by
  obtain ⟨A, c, hv, h1, h2, hr⟩ := h.form
  refine ⟨A, c, hv, h1, h2, fun i hi => ?_⟩
  obtain ⟨g, off, rfl, hg, hc⟩ := hr (by omega)
  rcases h.2 with ⟨e, _⟩ | ⟨g', cap, cur, e, hb, hh, _⟩
  · rw [e] at hv
    cases hv
  · rw [e] at hv
    cases hv
    have hci := hc i _ (List.getElem?_eq_getElem hi)
    rw [Nat.zero_add] at hci
    exact ⟨g, rfl, hb, hg, ⟨_, hci⟩, frozen_of_row w g i cur tb hh⟩
theorem fresh_nil {w : World} {b c : Nat} {t : TypeId} {A : Option Addr} {l : List UInt8} (h : OB w b t (.slice A ([] ++ l).length c) ([] ++ l)) : OB w b t (.slice A l.length c) l := h
end
end Go.Fl
namespace Go.Proofs.Ytnpbohndhgnfjaa.codecFresh
open Go.ChangeShapes Go.WideShapes Go.ChangeAt Go.RowKit Go.Fl

theorem own : ownKnob Try.prog.godebug = none := by kernel_rfl
theorem cells1 : Try.prog.cellsOf 5 = 1 := by kernel_rfl
theorem cells8 : Try.prog.cellsOf 55 = 8 := by kernel_rfl
theorem bytes8 : Try.prog.bytesOf 55 = 8 := by kernel_rfl
theorem bytes1 : Try.prog.bytesOf 5 = 1 := by kernel_rfl

section
attribute [local go_sem] equal_nm eqGuard_nm bsOf_toList bsOf_append bsOf_size
set_option maxHeartbeats 8000000 in
set_option maxRecDepth 10000 in
theorem walk (w : World) (v : Value) (l : List UInt8) (u : Value) (m : List UInt8) (q : Value) (p : List UInt8) (x : BitVec 64) (n : Int) (s : Value) (N : List (BitVec 64))
    (h : VB w v l) (hl : l.length ≤ 140737488351232) (h2 : VB w u m) (hm : m.length ≤ 140737488351232) (h3 : VB w q p) (hp : p.length ≤ 140737488351232) (hn : I64 n) (h4 : VN w s N) (hN : N.length ≤ 17592186044160) :
    Calls Try.prog 8 #[v, u, q, U x, .int .i64 n, s] w fun e w' => e = .returned (.bool true) ∧ Below w.heap.size w w' := by
  obtain ⟨i0, hi, hz0, hz1, hz2⟩ := info_parts info_byte
  obtain ⟨A, c, rfl, hc, _, hr⟩ := h
  obtain ⟨A2, c2, rfl, hc2, _, hr2⟩ := h2
  have HR := Lib.hid hr
  have HR2 := Lib.hid hr2
  clear hr hr2
  have HI := Lib.hid hi
  have HZ0 := Lib.hid hz0
  have HZ1 := Lib.hid hz1
  have HZ2 := Lib.hid hz2
  clear hi hz0 hz1 hz2
  have hF := Fr.refl w
  go_enter Try.func8, Try.ntmps8
  go_wp2_with (first
    | (at_make; go_loud (refine wpList_make_own _ rfl _ _ 22 rfl w.heap.size 5 i0 (.int .u8 0) 1 Try.underlying22 HI.out HZ0.out HZ1.out .i64 .i64 _ (l.length + m.length + 40) rfl rfl (by simp) (by (rw [HZ2.out]; omega)) (by (simp only [maxLen]; omega)) (Nat.le_refl _) ?_; intro w1 ho1 hg1; have hob1 := ob_make ho1 rfl; have hF1 := hF.grown hg1 (by simp); clear ho1 hg1))
    | (at_builtin; (refine wpList_append_ob_room rfl (.tmp 30) (.tmp 31) 22 rfl w.heap.size 5 i0 Try.underlying22 HI.out HZ1.out w.heap.size (l.length + m.length + 40) [] rfl hob1 _ A l l.length c rfl rfl (carry HR.out (Fr.refl w) hF1) (by (have : ([] : List UInt8).length = 0 := rfl; omega)) ?_; intro w2 ho2 hg2; have hob2 := fresh_nil ho2; have hF2 := hF1.grown hg2 (fun k hk => by (injection hk; omega)); clear ho2 hg2))
    | (at_builtin; go_loud (refine wpList_append_ob_room rfl (.tmp 32) (.tmp 33) 22 rfl w.heap.size 5 i0 Try.underlying22 HI.out HZ1.out w.heap.size (l.length + m.length + 40) l rfl hob2 _ A2 m m.length c2 rfl rfl (carry HR2.out (Fr.refl w) hF2) (by omega) ?_; intro w3 hob3 hg3; have hF3 := hF2.grown hg3 (fun k hk => by (injection hk; omega)); clear hg3; have HRR := Lib.hid (OB.rb_ hob3); have hlt3 := OB.lt_ hob3; clear hob3; have hcv := fun (w' : World) (hb : Below w3.heap.size w3 w') => run_convert_rb (l.length + m.length) (l.length + m.length + 40) (by simp) w' (HRR.out.keep (hb.mono hlt3)); have hB3 := Below.refl w3.heap.size w3))
    | fail)
  have hlt := hF3.1.size
  have hvb3 : VB w3 (.slice (some ⟨w.heap.size, 0, none⟩) l.length (l.length + m.length + 40)) l :=
    ⟨_, _, rfl, by omega, by omega, by have := (HRR.out.take l.length).mono (m := w3.heap.size) (by omega); simpa using this⟩
  refine (codecS.appUint w3 _ l x n hvb3 (by omega) hn).mono ?_
  rintro e w4 ⟨v4, rfl, ho4, hb4⟩
  have B4 := bstep hB3 hb4
  obtain ⟨A4, c4, rfl, hc4, hm4, hr4⟩ := ho4.row
  have hlen4 : l.length ≤ (appUintF l x n).length := by unfold appUintF; simp
  clear ho4
  generalize (appUintF l x n).length = n4 at *
  go_wp2_with fail
  refine (codecS.appBytes w4 _ q l p (hvb3.next B4) (h3.next (hF3.1.trans (B4.mono hlt))) (by omega) (by omega)).mono ?_
  rintro e w5 ⟨v5, rfl, ho5, hb5⟩
  have B5 := bstep B4 hb5
  obtain ⟨A5, c5, rfl, hc5, hm5, hr5⟩ := ho5.row
  clear ho5
  generalize (appBytesF l p).2 = ok5
  generalize (appBytesF l p).1.length = n5 at *
  go_wp2_with fail
  refine (codecS.appNames w5 _ s l N (hvb3.next B5) (h4.next (hF3.1.trans (B5.mono hlt))) (by omega) (by omega)).mono ?_
  rintro e w6 ⟨v6, rfl, ho6, hb6⟩
  have B6 := bstep B5 hb6
  obtain ⟨A6, c6, rfl, hc6, hm6, hr6⟩ := ho6.row
  clear ho6
  generalize (appNamesF l N).2 = ok6
  generalize (appNamesF l N).1.length = n6 at *
  have k4 := ((hr4.next hb5).next hb6)
  have k5 := (hr5.next hb6).mono B4.size
  have k6 := hr6.mono B5.size
  have s1 : ¬ ((n4 : Int) < (l.length : Int)) := by omega
  have HN4 : n4 ≤ 9223372036854775807 := by omega
  have HN5 : n5 ≤ 9223372036854775807 := by omega
  have HN6 : n6 ≤ 9223372036854775807 := by omega
  clear hr4 hr5 hr6 hb4 hb5 hb6 hvb3 h3 h4
  go_wp2
  go_loopw [72] (fun i wr => ∃ k : Nat, k ≤ 3 ∧ i = .int .i64 k ∧ Below w3.heap.size w3 wr ∧ RowC wr w3.heap.size A4 n4 ∧ RowC wr w3.heap.size A5 n5 ∧ RowC wr w3.heap.size A6 n6) (fun i _ => 3 - (intOf i).toNat)
  case atStart => exact ⟨0, by omega, rfl, B6, k4, k5, k6⟩
  case round =>
    obtain ⟨k, hk, rfl, hBr, g4, g5, g6⟩ := hrel
    clear B4 B5 B6 k4 k5 k6
    have i0 : ∀ w' : World, (Instr.index 49 (.agg #[.slice A4 n4 c4, .slice A5 n5 c5, .slice A6 n6 c6]) (.int .i64 0)).run Try.prog w' = .ok (.slice A4 n4 c4) w' := fun _ => by kernel_rfl
    have i1 : ∀ w' : World, (Instr.index 49 (.agg #[.slice A4 n4 c4, .slice A5 n5 c5, .slice A6 n6 c6]) (.int .i64 1)).run Try.prog w' = .ok (.slice A5 n5 c5) w' := fun _ => by kernel_rfl
    have i2 : ∀ w' : World, (Instr.index 49 (.agg #[.slice A4 n4 c4, .slice A5 n5 c5, .slice A6 n6 c6]) (.int .i64 2)).run Try.prog w' = .ok (.slice A6 n6 c6) w' := fun _ => by kernel_rfl
    have hkc : k = 0 ∨ k = 1 ∨ k = 2 ∨ k = 3 := by omega
    rcases hkc with rfl | rfl | rfl | rfl
    · go_wp2
      go_loopw [23] (fun i wr => ∃ j : Nat, j ≤ n4 ∧ i = .int .i64 j ∧ Below w3.heap.size w3 wr ∧ RowC wr w3.heap.size A4 n4 ∧ RowC wr w3.heap.size A5 n5 ∧ RowC wr w3.heap.size A6 n6) (fun i _ => n4 - (intOf i).toNat)
      case atStart => exact ⟨0, by omega, rfl, hBr, g4, g5, g6⟩
      case round =>
        obtain ⟨j, hj, rfl, hBj, j4, j5, j6⟩ := hrel
        by_cases hjl : j < n4
        · obtain ⟨g, rfl, hg0, hg1, ⟨z, hz⟩, hfz⟩ := j4 j hjl
          have t1 : (j : Int) < (n4 : Int) := by omega
          have t2 : (0 : Int) ≤ (j : Int) := by omega
          go_wp2
          go_roundw
          case rel => exact ⟨j + 1, by omega, by go_num, hBj.setCell hg0 _, j4.set _ _, j5.set _ _, j6.set _ _⟩
          case measure => simp [intOf]; omega
        · obtain rfl : j = n4 := by omega
          go_wp2
          go_roundw
          case rel => exact ⟨1, by omega, by go_num, hBj, j4, j5, j6⟩
          case measure => simp [intOf]
    · go_wp2
      go_loopw [23] (fun i wr => ∃ j : Nat, j ≤ n5 ∧ i = .int .i64 j ∧ Below w3.heap.size w3 wr ∧ RowC wr w3.heap.size A4 n4 ∧ RowC wr w3.heap.size A5 n5 ∧ RowC wr w3.heap.size A6 n6) (fun i _ => n5 - (intOf i).toNat)
      case atStart => exact ⟨0, by omega, rfl, hBr, g4, g5, g6⟩
      case round =>
        obtain ⟨j, hj, rfl, hBj, j4, j5, j6⟩ := hrel
        by_cases hjl : j < n5
        · obtain ⟨g, rfl, hg0, hg1, ⟨z, hz⟩, hfz⟩ := j5 j hjl
          have t1 : (j : Int) < (n5 : Int) := by omega
          have t2 : (0 : Int) ≤ (j : Int) := by omega
          go_wp2
          go_roundw
          case rel => exact ⟨j + 1, by omega, by go_num, hBj.setCell hg0 _, j4.set _ _, j5.set _ _, j6.set _ _⟩
          case measure => simp [intOf]; omega
        · obtain rfl : j = n5 := by omega
          go_wp2
          go_roundw
          case rel => exact ⟨2, by omega, by go_num, hBj, j4, j5, j6⟩
          case measure => simp [intOf]
    · go_wp2
      go_loopw [23] (fun i wr => ∃ j : Nat, j ≤ n6 ∧ i = .int .i64 j ∧ Below w3.heap.size w3 wr ∧ RowC wr w3.heap.size A4 n4 ∧ RowC wr w3.heap.size A5 n5 ∧ RowC wr w3.heap.size A6 n6) (fun i _ => n6 - (intOf i).toNat)
      case atStart => exact ⟨0, by omega, rfl, hBr, g4, g5, g6⟩
      case round =>
        obtain ⟨j, hj, rfl, hBj, j4, j5, j6⟩ := hrel
        by_cases hjl : j < n6
        · obtain ⟨g, rfl, hg0, hg1, ⟨z, hz⟩, hfz⟩ := j6 j hjl
          have t1 : (j : Int) < (n6 : Int) := by omega
          have t2 : (0 : Int) ≤ (j : Int) := by omega
          go_wp2
          go_roundw
          case rel => exact ⟨j + 1, by omega, by go_num, hBj.setCell hg0 _, j4.set _ _, j5.set _ _, j6.set _ _⟩
          case measure => simp [intOf]; omega
        · obtain rfl : j = n6 := by omega
          go_wp2
          go_roundw
          case rel => exact ⟨3, by omega, by go_num, hBj, j4, j5, j6⟩
          case measure => simp [intOf]
    · go_wp2_with (go_at_call 14; refine (awake_any _).mono ?_; rintro e w7 ⟨rfl, hb7⟩)
      go_ret
      exact ⟨rfl, ((hF3.step hBr hlt).next hb7).1⟩
end

set_option maxRecDepth 100000 in
/-- The law's step, at every reading. -/
theorem lifted (os : Os) (started : os.Started) (H : Type) (enc : TypeId × Value → H) :
    ReturnsInHanded {} Try.checked os 8 .any (Rows.codecFreshSpec.pre6 enc Try.prog Try.f8 Rows.codecFreshRow.domain false) (Rows.codecFreshSpec.post enc Try.prog Try.f8 false true false false) := by
  refine law_lifted (C := Try.checked) (n := 6) (tb := 4) own started (by kernel_rfl) Try.func8 rfl (by kernel_rfl)
    (of_decide_eq_true (by kernel_rfl)) (by kernel_rfl) (by kernel_rfl) Try.underlying4
    (fun ds hd => by match ds, hd with | [_, _, _, _, _, _], _ => rfl)
    (ChangeSpec.witness6 (enc := enc) (C := Try.checked) false ⟨#[], #[.slice none 0 0, .slice none 0 0, .slice none 0 0, .int .u64 0, .int .i64 0, .slice none 0 0], []⟩ 8 (by kernel_rfl) (by kernel_rfl) (by kernel_rfl) (by kernel_rfl)) ?_
  intro W base args ds ps hval hA hlt hsz
  rw [Try.params8] at hA hval
  obtain ⟨v0, vs0, d0, ds0, p0, q0, hargs, rfl, rfl, h0, r0⟩ := trodAll_cons hA
  obtain ⟨v1, vs1, d1, ds1, p1, q1, rfl, rfl, rfl, h1, r1⟩ := trodAll_cons r0
  obtain ⟨v2, vs2, d2, ds2, p2, q2, rfl, rfl, rfl, h2, r2⟩ := trodAll_cons r1
  obtain ⟨v3, vs3, d3, ds3, p3, q3, rfl, rfl, rfl, h3, r3⟩ := trodAll_cons r2
  obtain ⟨v4, vs4, d4, ds4, p4, q4, rfl, rfl, rfl, h4, r4⟩ := trodAll_cons r3
  obtain ⟨v5, vs5, d5, ds5, p5, q5, rfl, rfl, rfl, h5, r5⟩ := trodAll_cons r4
  obtain ⟨rfl, rfl, rfl⟩ := trodAll_nil r5
  obtain rfl : args = #[v0, v1, v2, v3, v4, v5] := by cases args; simp_all
  obtain ⟨A0, l0, c0, rfl, hc0, hm0, hr0⟩ := open_bytes Try.underlying22 Try.underlying5 cells1 bytes1 (hval 0 _ v0 rfl rfl) h0 (fun x hx => hlt x (by simp [hx])) hsz (j := 0) (by rw [Try.params8]; rfl) rfl
  obtain ⟨A1, l1, c1, rfl, hc1, hm1, hr1⟩ := open_bytes Try.underlying22 Try.underlying5 cells1 bytes1 (hval 1 _ v1 rfl rfl) h1 (fun x hx => hlt x (by simp [hx])) hsz (j := 1) (by rw [Try.params8]; rfl) rfl
  obtain ⟨A2, l2, c2, rfl, hc2, hm2, hr2⟩ := open_bytes Try.underlying22 Try.underlying5 cells1 bytes1 (hval 2 _ v2 rfl rfl) h2 (fun x hx => hlt x (by simp [hx])) hsz (j := 2) (by rw [Try.params8]; rfl) rfl
  obtain ⟨x3, rfl, rfl, rfl⟩ := open_u64 Try.underlying23 (hval 3 _ v3 rfl rfl) h3
  obtain ⟨x4, rfl, rfl, rfl, wn4⟩ := open_int Try.underlying3 (hval 4 _ v4 rfl rfl) h4
  obtain ⟨A5, l5, c5, rfl, hc5, hm5, hr5⟩ := open_names Try.underlying35 Try.underlying55 Try.underlying5 cells1 cells8 bytes8 (hval 5 _ v5 rfl rfl) h5 (fun x hx => hlt x (by simp [hx])) hsz (j := 5) (by rw [Try.params8]; rfl) rfl
  exact walk W _ l0 _ l1 _ l2 x3 x4 _ l5 (VB.mk hr0 hc0 hm0) (by omega) (VB.mk hr1 hc1 hm1) (by omega) (VB.mk hr2 hc2 hm2) (by omega) (bounds_i64 wn4) (VN.mk hr5 hc5 hm5) (by omega)

theorem proved : Rows.CodecFreshSaid :=
  OpenClaim.holds_of_wide 8 Try.f8 rfl rfl rfl rfl rfl rfl rfl ⟨rfl, rfl, rfl, rfl, rfl⟩ rfl rfl rfl rfl rfl (by kernel_rfl) Try.func8 (by kernel_rfl)
    (of_decide_eq_true (by kernel_rfl)) (by unfold Func.isWrapper; first | (rw [if_pos (by decide +kernel)]; kernel_rfl) | (rw [if_neg (by decide +kernel)]; exact ⟨rfl, rfl⟩))
    (fun os started H enc _ => lifted os started H enc)
#print axioms proved
end Go.Proofs.Ytnpbohndhgnfjaa.codecFresh
