/-
  The statement CodecNumbers, proved for every slice of bytes, number, width, offset and size, with no condition: AppendUint and Uint agree with the reference.
-/
import Derived.Test.YtnpbohndhgnfjaaLaw2A
namespace Go.Proofs.Ytnpbohndhgnfjaa.codecNumbers
open Go.ChangeShapes Go.WideShapes Go.ChangeAt Go.RowKit Go.Fl

theorem own : ownKnob Try.prog.godebug = none := by kernel_rfl
theorem cells1 : Try.prog.cellsOf 5 = 1 := by kernel_rfl
theorem bytes1 : Try.prog.bytesOf 5 = 1 := by kernel_rfl

set_option maxHeartbeats 1000000 in
theorem walk (w : World) (v : Value) (l : List UInt8) (x : BitVec 64) (n p k : Int) (h : VB w v l) (hl : l.length ≤ 140737488351232) (hn : I64 n) (hp : I64 p) (hk : I64 k) :
    Calls Try.prog 3 #[v, U x, .int .i64 n, .int .i64 p, .int .i64 k] w fun e w' => e = .returned (.bool true) ∧ Below w.heap.size w w' := by
  obtain ⟨r, hr⟩ : ∃ r, uintF l p k = r := ⟨_, rfl⟩
  obtain ⟨a, ha⟩ : ∃ a, appUintF l x n = a := ⟨_, rfl⟩
  have HR := Lib.hid hr
  have HA := Lib.hid ha
  clear hr ha
  have e1 := bsEq_self a
  go_enter Try.func3, Try.ntmps3
  go_wp2_with fail
  refine (codecS.uint w v l p k h (by omega) hp hk).mono ?_
  rintro e w1 ⟨rfl, hb1⟩
  rw [HR.out]
  have h1 := h.next hb1
  go_wp2_with fail
  refine (refS.uint w1 v l p k h1 (by omega) hp hk).mono ?_
  rintro e w2 ⟨rfl, hb2⟩
  rw [HR.out]
  have h2 := h1.next hb2
  clear h1
  go_wp2_with fail
  refine (codecS.appUint w2 v l x n h2 (by omega) hn).mono ?_
  rintro e w3 ⟨v3, rfl, ho3, hb3⟩
  rw [HA.out] at ho3
  have h3 := h2.next hb3
  go_wp2_with fail
  refine (refS.appUint w3 v l x n h3 (by omega) hn).mono ?_
  rintro e w4 ⟨v4, rfl, ho4, hb4⟩
  rw [HA.out] at ho4
  have h5 := ho3.vb.next hb4
  go_wp2_with fail
  refine (same_any w4 v3 v4 a a h5 ho4.vb).mono ?_
  rintro e w5 ⟨rfl, rfl⟩
  have hB := ((hb1.trans (hb2.mono hb1.size)).trans (hb3.mono (by have := hb1.size; have := hb2.size; omega))).trans (hb4.mono (by have := hb1.size; have := hb2.size; have := hb3.size; omega))
  have hs : w.heap.size ≤ w4.heap.size := hB.size
  obtain ⟨r1, r2⟩ := r
  clear h2 h3 h5 ho3 ho4 hb1 hb2 hb3 hb4
  go_wp2_with (go_at_call 14; refine (awake_any _).mono ?_; rintro e w6 ⟨rfl, hb6⟩)
  go_ret
  exact ⟨by go_num, hB.trans (hb6.mono hs)⟩

set_option maxRecDepth 100000 in
/-- The law's step, at every reading. -/
theorem lifted (os : Os) (started : os.Started) (H : Type) (enc : TypeId × Value → H) :
    ReturnsInHanded {} Try.checked os 3 .any (Rows.codecNumbersSpec.pre6 enc Try.prog Try.f3 Rows.codecNumbersRow.domain false) (Rows.codecNumbersSpec.post enc Try.prog Try.f3 false true false false) := by
  refine law_lifted (C := Try.checked) (n := 5) (tb := 4) own started (by kernel_rfl) Try.func3 rfl (by kernel_rfl)
    (of_decide_eq_true (by kernel_rfl)) (by kernel_rfl) (by kernel_rfl) Try.underlying4
    (fun ds hd => by match ds, hd with | [_, _, _, _, _], _ => rfl)
    (ChangeSpec.witness6 (enc := enc) (C := Try.checked) false ⟨#[], #[.slice none 0 0, .int .u64 0, .int .i64 0, .int .i64 0, .int .i64 0], []⟩ 8 (by kernel_rfl) (by kernel_rfl) (by kernel_rfl) (by kernel_rfl)) ?_
  intro W base args ds ps hval hA hlt hsz
  rw [Try.params3] at hA hval
  obtain ⟨v0, vs0, d0, ds0, p0, q0, hargs, rfl, rfl, h0, r0⟩ := trodAll_cons hA
  obtain ⟨v1, vs1, d1, ds1, p1, q1, rfl, rfl, rfl, h1, r1⟩ := trodAll_cons r0
  obtain ⟨v2, vs2, d2, ds2, p2, q2, rfl, rfl, rfl, h2, r2⟩ := trodAll_cons r1
  obtain ⟨v3, vs3, d3, ds3, p3, q3, rfl, rfl, rfl, h3, r3⟩ := trodAll_cons r2
  obtain ⟨v4, vs4, d4, ds4, p4, q4, rfl, rfl, rfl, h4, r4⟩ := trodAll_cons r3
  obtain ⟨rfl, rfl, rfl⟩ := trodAll_nil r4
  obtain rfl : args = #[v0, v1, v2, v3, v4] := by cases args; simp_all
  obtain ⟨A0, l0, c0, rfl, hc0, hm0, hr0⟩ := open_bytes Try.underlying22 Try.underlying5 cells1 bytes1 (hval 0 _ v0 rfl rfl) h0 (fun x hx => hlt x (by simp [hx])) hsz (j := 0) (by rw [Try.params3]; rfl) rfl
  obtain ⟨x1, rfl, rfl, rfl⟩ := open_u64 Try.underlying23 (hval 1 _ v1 rfl rfl) h1
  obtain ⟨x2, rfl, rfl, rfl, wn2⟩ := open_int Try.underlying3 (hval 2 _ v2 rfl rfl) h2
  obtain ⟨x3, rfl, rfl, rfl, wn3⟩ := open_int Try.underlying3 (hval 3 _ v3 rfl rfl) h3
  obtain ⟨x4, rfl, rfl, rfl, wn4⟩ := open_int Try.underlying3 (hval 4 _ v4 rfl rfl) h4
  exact walk W _ l0 x1 x2 x3 x4 (VB.mk hr0 hc0 hm0) (by omega) (bounds_i64 wn2) (bounds_i64 wn3) (bounds_i64 wn4)

theorem proved : Rows.CodecNumbersSaid :=
  OpenClaim.holds_of_wide 3 Try.f3 rfl rfl rfl rfl rfl rfl rfl ⟨rfl, rfl, rfl, rfl, rfl⟩ rfl rfl rfl rfl rfl (by kernel_rfl) Try.func3 (by kernel_rfl)
    (of_decide_eq_true (by kernel_rfl)) (by unfold Func.isWrapper; first | (rw [if_pos (by decide +kernel)]; kernel_rfl) | (rw [if_neg (by decide +kernel)]; exact ⟨rfl, rfl⟩))
    (fun os started H enc _ => lifted os started H enc)
#print axioms proved
end Go.Proofs.Ytnpbohndhgnfjaa.codecNumbers
