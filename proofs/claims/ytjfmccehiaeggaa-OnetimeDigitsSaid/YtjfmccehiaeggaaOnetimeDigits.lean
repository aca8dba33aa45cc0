/-
  The statement OnetimeDigits, proved for every name, with no condition: Digits is as documented; its first 16 digits spell the name, and all digits are from 0 to 15.
-/
import Derived.Test.YtjfmccehiaeggaaLaw4A
namespace Go.Proofs.Ytjfmccehiaeggaa.onetimeDigits
open Go.ChangeShapes Go.WideShapes Go.ChangeAt Go.RowKit Go.Fl

attribute [local go_sem] equal_nm eqGuard_nm

theorem dig_sum (m : BitVec 64) (k d : Nat) (hk : k < 16) (hd : (digF m)[k]? = some d) : ((digF m).take (min (k + 1) 16)).sum = ((digF m).take (min k 16)).sum + d := by
  have e1 : min (k + 1) 16 = k + 1 := by omega
  have e2 : min k 16 = k := by omega
  rw [e1, e2, List.take_add_one, hd, List.sum_append]
  simp
theorem dig_all (m : BitVec 64) : ((digF m).take 16).sum = (halfs m).sum := rfl
theorem dig_le (m : BitVec 64) : (halfs m).sum ≤ 240 := by
  have := half_sum m 8 (Nat.le_refl _)
  exact this

set_option maxHeartbeats 1000000 in
theorem walk (w : World) (m : BitVec 64) :
    Calls Try.prog 3 #[nm m] w fun e w' => e = .returned (.bool true) ∧ Below w.heap.size w w' := by
  have hm0 := Is.new w 23 (nmC m)
  have hF := (Fr.refl w).alloc (.cells (nmC m) 23)
  go_enter Try.func3, Try.ntmps3
  go_wp2
  generalize w.alloc (.cells (nmC m) 23) = W at *
  refine wp_region_held_drew (S := fun w' => Is w' w.heap.size 23 (nmC m) ∧ Fr w 1 w') (by kernel_rfl) ⟨hm0.drew, hF.drew⟩ (fun hHeld => ?_)
  refine held_load 0 7 rfl 23 (.tmp 1) rfl w.heap.size 0 rfl (nmR m) (fun w' h => range_is (cs := nmR m) h.1) Try.underlying23 name_info hHeld ?_
  try simp only [Act.put, List.setIfInBounds_toArray, List.set_cons_zero, List.set_cons_succ]
  refine held_load 2 9 rfl 23 (.tmp 1) rfl w.heap.size 0 rfl (nmR m) (fun w' h => range_is (cs := nmR m) h.1) Try.underlying23 name_info hHeld ?_
  try simp only [Act.put, List.setIfInBounds_toArray, List.set_cons_zero, List.set_cons_succ]
  refine held_one (i := 1) (by kernel_rfl) rfl (by rfl) (fun KK hK => ?_)
  go_wp2_with fail
  refine (oneO.digits _ m).mono ?_
  rintro e w1 ⟨v1, rfl, ho1, hb⟩
  obtain ⟨A1, n1, c1, rfl, hn1, hc1, hm1, hri1⟩ := ho1.form_n
  have hn1 := hn1.out
  rw [digF_len] at hn1 hc1
  subst hn1
  obtain ⟨g1, off1, rfl, hg1, hdc1⟩ := hri1.out (by rw [digF_len]; omega)
  have HD1 := Lib.hid hdc1
  clear ho1 hri1 hdc1
  go_wp2_with fail
  refine hK.out _ _ ⟨hHeld.1.next hb, hHeld.2.next hb⟩ (fun hHeld1 => ?_)
  clear hK KK
  try simp only [Act.put, List.setIfInBounds_toArray, List.set_cons_zero, List.set_cons_succ]
  refine held_one (i := 3) (by kernel_rfl) rfl (by rfl) (fun KK hK => ?_)
  go_wp2_with fail
  refine (refO.digits _ m).mono ?_
  rintro e w2 ⟨v2, rfl, ho2, hbb⟩
  obtain ⟨A2, n2, c2, rfl, hn2, hc2, hm2, hri2⟩ := ho2.form_n
  have hn2 := hn2.out
  rw [digF_len] at hn2 hc2
  subst hn2
  obtain ⟨g2, off2, rfl, hg2, hdc2⟩ := hri2.out (by rw [digF_len]; omega)
  have HD2 := Lib.hid hdc2
  clear ho2 hri2 hdc2
  go_wp2_with fail
  refine hK.out _ _ ⟨hHeld1.1.next hbb, hHeld1.2.next hbb⟩ (fun hHeld2 => ?_)
  clear hK KK
  try simp only [Act.put, List.setIfInBounds_toArray, List.set_cons_zero, List.set_cons_succ]
  refine held_pure 4 3 (.slice (some ⟨g1, off1, none⟩) 18 c1) rfl (fun W => by rfl) hHeld2 ?_
  try simp only [Act.put, List.setIfInBounds_toArray, List.set_cons_zero, List.set_cons_succ]
  refine held_pure 5 4 (.slice (some ⟨g2, off2, none⟩) 18 c2) rfl (fun W => by rfl) hHeld2 ?_
  try simp only [Act.put, List.setIfInBounds_toArray, List.set_cons_zero, List.set_cons_succ]
  refine wpAnyH_done (by kernel_rfl) ?_ _
  try simp only [Act.put, List.setIfInBounds_toArray, List.set_cons_zero, List.set_cons_succ]
  have hF2 := hHeld2.2
  have hbs := hbb.size
  go_wp2_with fail
  go_loopw [5, 6] (fun s i wr => ∃ k S : Nat, k ≤ 18 ∧ i = .int .i64 (k : Int) ∧ s = .int .i64 (S : Int) ∧ S ≤ 240 ∧ Hid (S = ((digF m).take (min k 16)).sum) ∧ Below w2.heap.size w2 wr) (fun _ i _ => 18 - (intOf i).toNat)
  case atStart => exact ⟨0, 0, by omega, rfl, rfl, by omega, Lib.hid rfl, Below.refl _ _⟩
  case round =>
    obtain ⟨k, S, hk, rfl, rfl, hS, hSS, hBr⟩ := hrel
    have S0 : (0 : Int) ≤ (S : Int) := by omega
    have S1 : (S : Int) ≤ 240 := by omega
    have g1r : g1 < w2.heap.size := by omega
    by_cases hlt : k < 18
    · obtain ⟨d, hd⟩ : ∃ d, (digF m)[k]? = some d := ⟨_, List.getElem?_eq_getElem (by rw [digF_len]; exact hlt)⟩
      have hd15 := digF_le m d (List.mem_of_getElem? hd)
      have c1' : wr.cell? ⟨g1, off1 + k, none⟩ = some (.int .i64 (d : Int)) := (hBr.cell g1r).trans ((hbb.cell hg1).trans (HD1.out k d hd))
      have c2' : wr.cell? ⟨g2, off2 + k, none⟩ = some (.int .i64 (d : Int)) := (hBr.cell hg2).trans (HD2.out k d hd)
      have s1 : (k : Int) < 18 := by omega
      have s0 : (0 : Int) ≤ (k : Int) := by omega
      have d0 : (0 : Int) ≤ (d : Int) := by omega
      have d1 : (d : Int) ≤ 15 := by omega
      by_cases h16 : k < 16
      · have hsum := dig_sum m k d h16 hd
        have hle : ((digF m).take (min (k + 1) 16)).sum ≤ 240 := by
          have e : min (k + 1) 16 = k + 1 := by omega
          have h1 := dig_le m
          rw [← dig_all] at h1
          have h2 : ((digF m).take (k + 1)).sum ≤ ((digF m).take 16).sum := by
            have e3 : (digF m).take 16 = (digF m).take (k + 1) ++ ((digF m).drop (k + 1)).take (16 - (k + 1)) := by
              rw [← List.take_add]
              congr 1
              omega
            rw [e3, List.sum_append]
            omega
          rw [e]
          omega
        have s2 : (k : Int) < 16 := by omega
        have hS2 : S + d ≤ 240 := by have := hSS.out; omega
        have HS2 : Hid (S + d = ((digF m).take (min (k + 1) 16)).sum) := Lib.hid (by have := hSS.out; omega)
        clear hd hsum hle
        go_wp2
        go_quiet (fail)
        go_wp2
        go_roundw
        case rel => exact ⟨k + 1, S + d, by omega, by go_num, by go_num, hS2, HS2, hBr.trans (fl_drewN _ _ _)⟩
        case measure => simp [intOf]; omega
      · have s2 : ¬ (k : Int) < 16 := by omega
        have HS2 : Hid (S = ((digF m).take (min (k + 1) 16)).sum) := Lib.hid (by
          have h0 := hSS.out
          have e1 : min k 16 = 16 := by omega
          have e2 : min (k + 1) 16 = 16 := by omega
          rw [e1] at h0
          rw [e2]
          exact h0)
        clear hd
        go_wp2
        go_quiet (fail)
        go_wp2
        go_roundw
        case rel => exact ⟨k + 1, S, by omega, by go_num, rfl, hS, HS2, hBr.trans (fl_drewN _ _ _)⟩
        case measure => simp [intOf]; omega
    · obtain rfl : k = 18 := by omega
      have hR : restF m = 240 - S := by unfold restF; rw [hSS.out]; rfl
      obtain ⟨x1, hx1⟩ : ∃ x, restF m / 16 = x := ⟨_, rfl⟩
      obtain ⟨x2, hx2⟩ : ∃ x, restF m % 16 = x := ⟨_, rfl⟩
      have d16 : (digF m)[16]? = some x1 := by rw [← hx1]; rfl
      have d17 : (digF m)[17]? = some x2 := by rw [← hx2]; rfl
      have c16 : wr.cell? ⟨g1, off1 + 16, none⟩ = some (.int .i64 (x1 : Int)) := (hBr.cell g1r).trans ((hbb.cell hg1).trans (HD1.out 16 x1 d16))
      have c17 : wr.cell? ⟨g1, off1 + 17, none⟩ = some (.int .i64 (x2 : Int)) := (hBr.cell g1r).trans ((hbb.cell hg1).trans (HD1.out 17 x2 d17))
      have hx : 16 * (x1 : Int) + (x2 : Int) = 240 - (S : Int) := by omega
      have y1 : (0 : Int) ≤ (x1 : Int) := by omega
      have y2 : (x1 : Int) ≤ 15 := by omega
      have y3 : (0 : Int) ≤ (x2 : Int) := by omega
      have y4 : (x2 : Int) ≤ 15 := by omega
      clear hx1 hx2 d16 d17 hR
      go_wp2
      have g1w : g1 < wr.heap.size := Nat.lt_of_lt_of_le g1r hBr.size
      have hwa : IntKind.i64.wrap (16 * (x1 : Int)) = 16 * (x1 : Int) := by rw [IntKind.wrap_i64]; omega
      have hwb : IntKind.i64.wrap (240 - (S : Int)) = 240 - (S : Int) := by rw [IntKind.wrap_i64]; omega
      refine wp_region_held_drew (S := fun w' => Below wr.heap.size wr w') (by kernel_rfl) (Below.refl _ _).drew (fun hHeld => ?_)
      refine held_pure 0 54 (.slice (some ⟨g1, off1, none⟩) 18 c1) rfl (fun W => by rfl) hHeld ?_
      try simp only [Act.put, List.setIfInBounds_toArray, List.set_cons_zero, List.set_cons_succ]
      refine held_pure 1 55 (.pointer (some ⟨g1, off1 + 16, none⟩)) rfl (fun W => by go_simp) hHeld ?_
      try simp only [Act.put, List.setIfInBounds_toArray, List.set_cons_zero, List.set_cons_succ]
      refine held_if 2 56 (.int .i64 (x1 : Int)) rfl (fun w' h => by (have hc := (h.cell (p := ⟨g1, off1 + 16, none⟩) g1w).trans c16; go_simp)) hHeld ?_
      try simp only [Act.put, List.setIfInBounds_toArray, List.set_cons_zero, List.set_cons_succ]
      refine held_pure 3 57 (.int .i64 (16 * (x1 : Int))) rfl (fun W => by go_simp) hHeld ?_
      try simp only [Act.put, List.setIfInBounds_toArray, List.set_cons_zero, List.set_cons_succ]
      refine held_pure 4 58 (.slice (some ⟨g1, off1, none⟩) 18 c1) rfl (fun W => by rfl) hHeld ?_
      try simp only [Act.put, List.setIfInBounds_toArray, List.set_cons_zero, List.set_cons_succ]
      refine held_pure 5 59 (.pointer (some ⟨g1, off1 + 17, none⟩)) rfl (fun W => by go_simp) hHeld ?_
      try simp only [Act.put, List.setIfInBounds_toArray, List.set_cons_zero, List.set_cons_succ]
      refine held_if 6 60 (.int .i64 (x2 : Int)) rfl (fun w' h => by (have hc := (h.cell (p := ⟨g1, off1 + 17, none⟩) g1w).trans c17; go_simp)) hHeld ?_
      try simp only [Act.put, List.setIfInBounds_toArray, List.set_cons_zero, List.set_cons_succ]
      refine held_pure 7 61 (.int .i64 (240 - (S : Int))) rfl (fun W => by go_simp) hHeld ?_
      try simp only [Act.put, List.setIfInBounds_toArray, List.set_cons_zero, List.set_cons_succ]
      refine held_pure 8 62 (.int .i64 (S : Int)) rfl (fun W => by rfl) hHeld ?_
      try simp only [Act.put, List.setIfInBounds_toArray, List.set_cons_zero, List.set_cons_succ]
      refine held_pure 9 63 (.int .i64 (240 - (S : Int))) rfl (fun W => by go_simp) hHeld ?_
      try simp only [Act.put, List.setIfInBounds_toArray, List.set_cons_zero, List.set_cons_succ]
      refine held_pure 10 64 (.bool true) rfl (fun W => by go_simp) hHeld ?_
      try simp only [Act.put, List.setIfInBounds_toArray, List.set_cons_zero, List.set_cons_succ]
      refine held_pure 11 65 (.bool true) rfl (fun W => by rfl) hHeld ?_
      try simp only [Act.put, List.setIfInBounds_toArray, List.set_cons_zero, List.set_cons_succ]
      refine held_one (i := 12) (by kernel_rfl) rfl (by rfl) (fun KK hK => ?_)
      go_wp2_with fail
      refine (awake_any _).mono ?_
      rintro e w5 ⟨rfl, hb5⟩
      go_wp2_with fail
      refine hK.out _ _ (hHeld.trans (hb5.mono hHeld.size)) (fun hHeld1 => ?_)
      clear hK KK
      try simp only [Act.put, List.setIfInBounds_toArray, List.set_cons_zero, List.set_cons_succ]
      refine held_pure 13 67 (.bool true) rfl (fun W => by rfl) hHeld1 ?_
      try simp only [Act.put, List.setIfInBounds_toArray, List.set_cons_zero, List.set_cons_succ]
      refine held_pure 14 2 (.bool true) rfl (fun W => by rfl) hHeld1 ?_
      try simp only [Act.put, List.setIfInBounds_toArray, List.set_cons_zero, List.set_cons_succ]
      refine wpAnyH_done (by kernel_rfl) ?_ _
      try simp only [Act.put, List.setIfInBounds_toArray, List.set_cons_zero, List.set_cons_succ]
      go_wp2_with fail
      go_ret
      exact ⟨rfl, hF2.1.trans ((hBr.trans (hHeld1.mono hBr.size)).mono (by have := hF2.2; omega))⟩

set_option maxRecDepth 100000 in
/-- The law's step, at every reading. -/
theorem lifted (os : Os) (started : os.Started) (H : Type) (enc : TypeId × Value → H) :
    ReturnsInHanded {} Try.checked os 3 .any (Rows.onetimeDigitsSpec.pre6 enc Try.prog Try.f3 Rows.onetimeDigitsRow.domain false) (Rows.onetimeDigitsSpec.post enc Try.prog Try.f3 false true false false) := by
  refine law_lifted (C := Try.checked) (n := 1) (tb := 4) own started (by kernel_rfl) Try.func3 rfl (by kernel_rfl)
    (of_decide_eq_true (by kernel_rfl)) (by kernel_rfl) (by kernel_rfl) Try.underlying4
    (fun ds hd => by match ds, hd with | [_], _ => rfl)
    (ChangeSpec.witness6 (enc := enc) (C := Try.checked) false ⟨#[], #[.agg #[.int .u8 0, .int .u8 0, .int .u8 0, .int .u8 0, .int .u8 0, .int .u8 0, .int .u8 0, .int .u8 0]], []⟩ 8 (by kernel_rfl) (by kernel_rfl) (by kernel_rfl) (by kernel_rfl)) ?_
  intro W base args ds ps hval hA hlt hsz
  rw [Try.params3] at hA hval
  obtain ⟨v0, vs0, d0, ds0, p0, q0, hargs, rfl, rfl, h0, r0⟩ := trodAll_cons hA
  obtain ⟨rfl, rfl, rfl⟩ := trodAll_nil r0
  obtain rfl : args = #[v0] := by cases args; simp_all
  obtain ⟨x0, rfl, rfl⟩ := open_name Try.underlying23 Try.underlying5 cells1 cells8 (hval 0 _ v0 rfl rfl) h0
  exact walk W x0

theorem proved : Rows.OnetimeDigitsSaid :=
  OpenClaim.holds_of_wide 3 Try.f3 rfl rfl rfl rfl rfl rfl rfl ⟨rfl, rfl, rfl, rfl, rfl⟩ rfl rfl rfl rfl rfl (by kernel_rfl) Try.func3 (by kernel_rfl)
    (of_decide_eq_true (by kernel_rfl)) (by unfold Func.isWrapper; first | (rw [if_pos (by decide +kernel)]; kernel_rfl) | (rw [if_neg (by decide +kernel)]; exact ⟨rfl, rfl⟩))
    (fun os started H enc _ => lifted os started H enc)
#print axioms proved
end Go.Proofs.Ytjfmccehiaeggaa.onetimeDigits
