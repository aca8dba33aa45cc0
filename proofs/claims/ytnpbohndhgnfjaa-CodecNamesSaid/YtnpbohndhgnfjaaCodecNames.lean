/-
  The statement CodecNames, proved for every slice of bytes, slice of names, offset and number, with no condition: AppendNames and Names agree with the reference.
-/
import Derived.Test.YtnpbohndhgnfjaaLaw2A
namespace Go.Proofs.Ytnpbohndhgnfjaa.codecNames
open Go.ChangeShapes Go.WideShapes Go.ChangeAt Go.RowKit Go.Fl

theorem own : ownKnob Try.prog.godebug = none := by kernel_rfl
theorem cells1 : Try.prog.cellsOf 5 = 1 := by kernel_rfl
theorem cells8 : Try.prog.cellsOf 55 = 8 := by kernel_rfl
theorem bytes8 : Try.prog.bytesOf 55 = 8 := by kernel_rfl
theorem bytes1 : Try.prog.bytesOf 5 = 1 := by kernel_rfl

set_option maxHeartbeats 2000000 in
theorem walk_long (w : World) (v : Value) (l : List UInt8) (u : Value) (m : List (BitVec 64)) (p n : Int) (h : VB w v l) (hl : l.length ≤ 140737488351232) (h2 : VN w u m) (hm : m.length ≤ 17592186044160) (hp : I64 p) (hn : I64 n) (hq : n.tmod 4 = 3) :
    Calls Try.prog 5 #[v, u, .int .i64 p, .int .i64 n] w fun e w' => e = .returned (.bool true) ∧ Below w.heap.size w w' := by
  obtain ⟨i0, hi, hz0, hz1, hz2⟩ := info_parts info_name
  obtain ⟨k, hk, hke⟩ := long_len 254 (by omega) (by omega) n
  have hmk := fun (u : World) => made_names u (P := Try.prog) Try.underlying35 hi hz0 hz1 hz2 k (by omega) hke
  have hv := fun (u : World) => vn_made u 55 k (by omega)
  have hlk : (List.replicate k (0 : BitVec 64)).length ≤ 256 := by simp; omega
  obtain ⟨z, hz⟩ : ∃ z, List.replicate k (0 : BitVec 64) = z := ⟨_, rfl⟩
  rw [hz] at hlk hv
  clear hz hi hz0 hz1 hz2
  go_enter Try.func5, Try.ntmps5
  go_wp2_with fail
  have hF0 := (Fr.refl w).alloc (.cells (madeCells (nmC 0) (k * 8)) 55)
  have hv0 := hv w
  have h0 := h.next ((Below.refl w.heap.size w).alloc (Nat.le_refl _) (.cells (madeCells (nmC 0) (k * 8)) 55))
  obtain ⟨⟨a1, a2⟩, ha⟩ : ∃ r, appNamesF l z = r := ⟨_, rfl⟩
  obtain ⟨⟨b1, b2, b3⟩, hb⟩ : ∃ r, namesF l p = r := ⟨_, rfl⟩
  have HA := Lib.hid ha
  have hlb : b1.length ≤ 281474976710656 := by have := namesF_len l p; rw [hb] at this; simp only at this; omega
  have HB := Lib.hid hb
  clear ha hb
  have e1 := bsEq_self a1
  have e2 := nsEq_self b1
  refine (codecS.appNames _ v _ l z h0 hv0 (by omega) (by omega)).mono ?_
  rintro e w1 ⟨v1, rfl, ho1, hb1⟩
  rw [HA.out] at ho1 ⊢
  have hB1 := hF0.next hb1
  have g1 := h0.next hb1
  have g2 := hv0.next hb1
  go_wp2_with fail
  refine (refS.appNames w1 v _ l z g1 g2 (by omega) (by omega)).mono ?_
  rintro e w2 ⟨v2, rfl, ho2, hb2⟩
  rw [HA.out] at ho2 ⊢
  have hB2 := hB1.next hb2
  have g3 := g1.next hb2
  have g4 := ho1.vb.next hb2
  go_wp2_with fail
  refine (codecS.names w2 v l p g3 (by omega) hp).mono ?_
  rintro e w3 ⟨v3, rfl, ho3, hb3⟩
  rw [HB.out] at ho3 ⊢
  have hB3 := hB2.next hb3
  have g5 := g3.next hb3
  have g6 := g4.next hb3
  have g7 := ho2.vb.next hb3
  go_wp2_with fail
  refine (refS.names w3 v l p g5 (by omega) hp).mono ?_
  rintro e w4 ⟨v4, rfl, ho4, hb4⟩
  rw [HB.out] at ho4 ⊢
  have hB4 := hB3.next hb4
  have g8 := g6.next hb4
  have g9 := g7.next hb4
  have g10 := ho3.vn.next hb4
  go_wp2_with fail
  refine (same_any w4 v1 v2 a1 a1 g8 g9).mono ?_
  rintro e w5 ⟨rfl, rfl⟩
  rw [e1]
  go_wp2_with fail
  refine (names_any w4 v3 v4 b1 b1 g10 ho4.vn hlb hlb).mono ?_
  rintro e w5 ⟨rfl, hb5⟩
  rw [e2]
  have hF4 := hB4.next hb5
  clear g1 g2 g3 g4 g5 g6 g7 g8 g9 g10 ho1 ho2 ho3 ho4 hb1 hb2 hb3 hb4 hb5 hB1 hB2 hB3 hB4
  go_wp2_with (go_at_call 14; refine (awake_any _).mono ?_; rintro e w6 ⟨rfl, hb6⟩)
  go_ret
  exact ⟨by go_num, (hF4.next hb6).1⟩

set_option maxHeartbeats 2000000 in
theorem walk_short (w : World) (v : Value) (l : List UInt8) (u : Value) (m : List (BitVec 64)) (p n : Int) (h : VB w v l) (hl : l.length ≤ 140737488351232) (h2 : VN w u m) (hm : m.length ≤ 17592186044160) (hp : I64 p) (hn : I64 n) (hq : n.tmod 4 ≠ 3) :
    Calls Try.prog 5 #[v, u, .int .i64 p, .int .i64 n] w fun e w' => e = .returned (.bool true) ∧ Below w.heap.size w w' := by
  go_enter Try.func5, Try.ntmps5
  have hF0 := Fr.refl w
  obtain ⟨⟨a1, a2⟩, ha⟩ : ∃ r, appNamesF l m = r := ⟨_, rfl⟩
  obtain ⟨⟨b1, b2, b3⟩, hb⟩ : ∃ r, namesF l p = r := ⟨_, rfl⟩
  have HA := Lib.hid ha
  have hlb : b1.length ≤ 281474976710656 := by have := namesF_len l p; rw [hb] at this; simp only at this; omega
  have HB := Lib.hid hb
  clear ha hb
  have e1 := bsEq_self a1
  have e2 := nsEq_self b1
  go_wp2_with fail
  refine (codecS.appNames w v u l m h h2 (by omega) (by omega)).mono ?_
  rintro e w1 ⟨v1, rfl, ho1, hb1⟩
  rw [HA.out] at ho1 ⊢
  have hB1 := hF0.next hb1
  have g1 := h.next hb1
  have g2 := h2.next hb1
  go_wp2_with fail
  refine (refS.appNames w1 v u l m g1 g2 (by omega) (by omega)).mono ?_
  rintro e w2 ⟨v2, rfl, ho2, hb2⟩
  rw [HA.out] at ho2 ⊢
  have hB2 := hB1.next hb2
  have g3 := g1.next hb2
  have g4 := ho1.vb.next hb2
  go_wp2_with fail
  refine (codecS.names w2 v l p g3 (by omega) hp).mono ?_
  rintro e w3 ⟨v3, rfl, ho3, hb3⟩
  rw [HB.out] at ho3 ⊢
  have hB3 := hB2.next hb3
  have g5 := g3.next hb3
  have g6 := g4.next hb3
  have g7 := ho2.vb.next hb3
  go_wp2_with fail
  refine (refS.names w3 v l p g5 (by omega) hp).mono ?_
  rintro e w4 ⟨v4, rfl, ho4, hb4⟩
  rw [HB.out] at ho4 ⊢
  have hB4 := hB3.next hb4
  have g8 := g6.next hb4
  have g9 := g7.next hb4
  have g10 := ho3.vn.next hb4
  go_wp2_with fail
  refine (same_any w4 v1 v2 a1 a1 g8 g9).mono ?_
  rintro e w5 ⟨rfl, rfl⟩
  rw [e1]
  go_wp2_with fail
  refine (names_any w4 v3 v4 b1 b1 g10 ho4.vn hlb hlb).mono ?_
  rintro e w5 ⟨rfl, hb5⟩
  rw [e2]
  have hF4 := hB4.next hb5
  clear g1 g2 g3 g4 g5 g6 g7 g8 g9 g10 ho1 ho2 ho3 ho4 hb1 hb2 hb3 hb4 hb5 hB1 hB2 hB3 hB4
  go_wp2_with (go_at_call 14; refine (awake_any _).mono ?_; rintro e w6 ⟨rfl, hb6⟩)
  go_ret
  exact ⟨by go_num, (hF4.next hb6).1⟩

theorem walk (w : World) (v : Value) (l : List UInt8) (u : Value) (m : List (BitVec 64)) (p n : Int) (h : VB w v l) (hl : l.length ≤ 140737488351232) (h2 : VN w u m) (hm : m.length ≤ 17592186044160) (hp : I64 p) (hn : I64 n) :
    Calls Try.prog 5 #[v, u, .int .i64 p, .int .i64 n] w fun e w' => e = .returned (.bool true) ∧ Below w.heap.size w w' := by
  by_cases hq : n.tmod 4 = 3
  · exact walk_long w v l u m p n h hl h2 hm hp hn hq
  · exact walk_short w v l u m p n h hl h2 hm hp hn hq

set_option maxRecDepth 100000 in
/-- The law's step, at every reading. -/
theorem lifted (os : Os) (started : os.Started) (H : Type) (enc : TypeId × Value → H) :
    ReturnsInHanded {} Try.checked os 5 .any (Rows.codecNamesSpec.pre6 enc Try.prog Try.f5 Rows.codecNamesRow.domain false) (Rows.codecNamesSpec.post enc Try.prog Try.f5 false true false false) := by
  refine law_lifted (C := Try.checked) (n := 4) (tb := 4) own started (by kernel_rfl) Try.func5 rfl (by kernel_rfl)
    (of_decide_eq_true (by kernel_rfl)) (by kernel_rfl) (by kernel_rfl) Try.underlying4
    (fun ds hd => by match ds, hd with | [_, _, _, _], _ => rfl)
    (ChangeSpec.witness6 (enc := enc) (C := Try.checked) false ⟨#[], #[.slice none 0 0, .slice none 0 0, .int .i64 0, .int .i64 0], []⟩ 8 (by kernel_rfl) (by kernel_rfl) (by kernel_rfl) (by kernel_rfl)) ?_
  intro W base args ds ps hval hA hlt hsz
  rw [Try.params5] at hA hval
  obtain ⟨v0, vs0, d0, ds0, p0, q0, hargs, rfl, rfl, h0, r0⟩ := trodAll_cons hA
  obtain ⟨v1, vs1, d1, ds1, p1, q1, rfl, rfl, rfl, h1, r1⟩ := trodAll_cons r0
  obtain ⟨v2, vs2, d2, ds2, p2, q2, rfl, rfl, rfl, h2, r2⟩ := trodAll_cons r1
  obtain ⟨v3, vs3, d3, ds3, p3, q3, rfl, rfl, rfl, h3, r3⟩ := trodAll_cons r2
  obtain ⟨rfl, rfl, rfl⟩ := trodAll_nil r3
  obtain rfl : args = #[v0, v1, v2, v3] := by cases args; simp_all
  obtain ⟨A0, l0, c0, rfl, hc0, hm0, hr0⟩ := open_bytes Try.underlying22 Try.underlying5 cells1 bytes1 (hval 0 _ v0 rfl rfl) h0 (fun x hx => hlt x (by simp [hx])) hsz (j := 0) (by rw [Try.params5]; rfl) rfl
  obtain ⟨A1, l1, c1, rfl, hc1, hm1, hr1⟩ := open_names Try.underlying35 Try.underlying55 Try.underlying5 cells1 cells8 bytes8 (hval 1 _ v1 rfl rfl) h1 (fun x hx => hlt x (by simp [hx])) hsz (j := 1) (by rw [Try.params5]; rfl) rfl
  obtain ⟨x2, rfl, rfl, rfl, wn2⟩ := open_int Try.underlying3 (hval 2 _ v2 rfl rfl) h2
  obtain ⟨x3, rfl, rfl, rfl, wn3⟩ := open_int Try.underlying3 (hval 3 _ v3 rfl rfl) h3
  exact walk W _ l0 _ l1 x2 x3 (VB.mk hr0 hc0 hm0) (by omega) (VN.mk hr1 hc1 hm1) (by omega) (bounds_i64 wn2) (bounds_i64 wn3)

theorem proved : Rows.CodecNamesSaid :=
  OpenClaim.holds_of_wide 5 Try.f5 rfl rfl rfl rfl rfl rfl rfl ⟨rfl, rfl, rfl, rfl, rfl⟩ rfl rfl rfl rfl rfl (by kernel_rfl) Try.func5 (by kernel_rfl)
    (of_decide_eq_true (by kernel_rfl)) (by unfold Func.isWrapper; first | (rw [if_pos (by decide +kernel)]; kernel_rfl) | (rw [if_neg (by decide +kernel)]; exact ⟨rfl, rfl⟩))
    (fun os started H enc _ => lifted os started H enc)
#print axioms proved
end Go.Proofs.Ytnpbohndhgnfjaa.codecNames
