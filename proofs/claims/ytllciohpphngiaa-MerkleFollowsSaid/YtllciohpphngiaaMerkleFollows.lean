/-
  The statement MerkleFollows, proved for every pair of names, every pair of numbers and every slice of names, with no condition: Follow and Verify are as documented.
-/
import Derived.Test.YtllciohpphngiaaLaw3A
namespace Go.Proofs.Ytllciohpphngiaa.merkleFollows
open Go.ChangeShapes Go.WideShapes Go.ChangeAt Go.RowKit Go.Fl

attribute [local go_sem] equal_nm eqGuard_nm

set_option maxHeartbeats 1000000 in
theorem walk (w : World) (y x : BitVec 64) (i n : Int) (v : Value) (p : List (BitVec 64)) (hi : I64 i) (hn : I64 n) (hv : VN w v p) (hp : p.length ≤ 17592186044160) :
    Calls Try.prog 5 #[nm y, nm x, .int .i64 i, .int .i64 n, v] w fun e w' => e = .returned (.bool true) ∧ Below w.heap.size w w' := by
  obtain ⟨hy, hx, hF, hW⟩ := verW_facts w y x
  obtain ⟨⟨z, b⟩, hq⟩ : ∃ q, followP x i n p = q := ⟨_, rfl⟩
  obtain ⟨V, hV⟩ : ∃ V, verifyP y x i n p = V := ⟨_, rfl⟩
  have hV2 : verifyP z x i n p = b := by unfold verifyP; rw [hq]; simp [nmEq_self]
  have hzz := nmEq_self z
  have HQ := Lib.hid hq
  have HV := Lib.hid hV
  have HV2 := Lib.hid hV2
  have hz : ∀ w1 : World, Is (w1.alloc (.cells #[B 0, B 0, B 0, B 0, B 0, B 0, B 0, B 0] 27)) w1.heap.size 27 #[B 0, B 0, B 0, B 0, B 0, B 0, B 0, B 0] := fun w1 => Is.new _ _ _
  clear hq hV hV2
  go_enter Try.func5, Try.ntmps5
  go_wp2_with fail
  refine (merkleM.follow (verW w y x) x i n v p (z, b) (hv.next hF.1) hp hi hn HQ).mono ?_
  rintro e w1 ⟨rfl, hb1⟩
  generalize verW w y x = W at *
  have hF1 := (hF.next hb1).alloc (.cells #[B 0, B 0, B 0, B 0, B 0, B 0, B 0, B 0] 27)
  have hy1 := (hy.next hb1).old (.cells #[B 0, B 0, B 0, B 0, B 0, B 0, B 0, B 0] 27)
  have hx1 := (hx.next hb1).old (.cells #[B 0, B 0, B 0, B 0, B 0, B 0, B 0, B 0] 27)
  have hl1 := (hy.next hb1).lt
  have hl2 := (hx.next hb1).lt
  go_wp2_with (refine wpList_store_is rfl 27 (.tmp 11) (.tmp 21) rfl w1.heap.size 27 _ (nmC z) rfl rfl (hz w1) (nmC_size _) name_info (nmC_one _) ?_; intro w2 hz2 hb2; have hF2 := hF1.step hb2 (by (have := hF.2; omega)); have hy2 := hy1.keep hb2 hl1; have hx2 := hx1.keep hb2 hl2; have cx := hx2.cell)
  refine (refM.follow w2 x i n v p (z, b) (hv.next hF2.1) hp hi hn HQ).mono ?_
  rintro e w3 ⟨rfl, hb3⟩
  have hF3 := (hF2.next hb3).alloc (.cells #[B 0, B 0, B 0, B 0, B 0, B 0, B 0, B 0] 27)
  have hy3 := (hy2.next hb3).old (.cells #[B 0, B 0, B 0, B 0, B 0, B 0, B 0, B 0] 27)
  have hx3 := (hx2.next hb3).old (.cells #[B 0, B 0, B 0, B 0, B 0, B 0, B 0, B 0] 27)
  have hz3 := (hz2.next hb3).old (.cells #[B 0, B 0, B 0, B 0, B 0, B 0, B 0, B 0] 27)
  have hl3 := (hy2.next hb3).lt
  have hl4 := (hx2.next hb3).lt
  have hl5 := (hz2.next hb3).lt
  clear cx hF1 hy1 hx1 hb1 hb2 hy2 hx2 hz2
  go_wp2_with (refine wpList_store_is rfl 27 (.tmp 13) (.tmp 29) rfl w3.heap.size 27 _ (nmC z) rfl rfl (hz w3) (nmC_size _) name_info (nmC_one _) ?_; intro w4 hz4 hb4; have hF4 := hF3.step hb4 (by (have := hF2.2; have := hb3.size; omega)); have hy4 := hy3.keep hb4 hl3; have hx4 := hx3.keep hb4 hl4; have hz14 := hz3.keep hb4 hl5)
  clear hz hF3 hy3 hx3 hz3 hb3 hb4 hF2
  refine wp_region_held_drew (S := fun w' => Is w' w.heap.size 27 (nmC y) ∧ Is w' (w.heap.size + 1) 27 (nmC x) ∧ Is w' w1.heap.size 27 (nmC z) ∧ Is w' w3.heap.size 27 (nmC z) ∧ Fr w 0 w') (by kernel_rfl) ⟨hy4.drew, hx4.drew, hz14.drew, hz4.drew, (hF4.le (Nat.zero_le _)).drew⟩ (fun hHeld => ?_)
  refine held_load 0 31 rfl 27 (.tmp 11) rfl w1.heap.size 0 rfl (nmR z) (fun w' h => range_is (cs := nmR z) h.2.2.1) Try.underlying27 name_info hHeld ?_
  try simp only [Act.put, List.setIfInBounds_toArray, List.set_cons_zero, List.set_cons_succ]
  refine held_load 1 32 rfl 27 (.tmp 13) rfl w3.heap.size 0 rfl (nmR z) (fun w' h => range_is (cs := nmR z) h.2.2.2.1) Try.underlying27 name_info hHeld ?_
  try simp only [Act.put, List.setIfInBounds_toArray, List.set_cons_zero, List.set_cons_succ]
  refine held_pure 2 33 (.bool true) rfl (fun W => by go_simp) hHeld ?_
  try simp only [Act.put, List.setIfInBounds_toArray, List.set_cons_zero, List.set_cons_succ]
  refine held_pure 3 34 (.bool true) rfl (fun W => by rfl) hHeld ?_
  try simp only [Act.put, List.setIfInBounds_toArray, List.set_cons_zero, List.set_cons_succ]
  refine held_pure 4 35 (.bool b) rfl (fun W => by rfl) hHeld ?_
  try simp only [Act.put, List.setIfInBounds_toArray, List.set_cons_zero, List.set_cons_succ]
  refine held_pure 5 36 (.bool b) rfl (fun W => by rfl) hHeld ?_
  try simp only [Act.put, List.setIfInBounds_toArray, List.set_cons_zero, List.set_cons_succ]
  refine held_pure 6 37 (.bool true) rfl (fun W => by go_simp) hHeld ?_
  try simp only [Act.put, List.setIfInBounds_toArray, List.set_cons_zero, List.set_cons_succ]
  refine held_pure 7 38 (.bool true) rfl (fun W => by rfl) hHeld ?_
  try simp only [Act.put, List.setIfInBounds_toArray, List.set_cons_zero, List.set_cons_succ]
  refine held_pure 8 39 (.bool true) rfl (fun W => by rfl) hHeld ?_
  try simp only [Act.put, List.setIfInBounds_toArray, List.set_cons_zero, List.set_cons_succ]
  refine held_load 9 40 rfl 27 (.tmp 5) rfl w.heap.size 0 rfl (nmR y) (fun w' h => range_is (cs := nmR y) h.1) Try.underlying27 name_info hHeld ?_
  try simp only [Act.put, List.setIfInBounds_toArray, List.set_cons_zero, List.set_cons_succ]
  refine held_load 10 41 rfl 27 (.tmp 6) rfl (w.heap.size + 1) 0 rfl (nmR x) (fun w' h => range_is (cs := nmR x) h.2.1) Try.underlying27 name_info hHeld ?_
  try simp only [Act.put, List.setIfInBounds_toArray, List.set_cons_zero, List.set_cons_succ]
  refine held_pure 11 42 (.int .i64 i) rfl (fun W => by rfl) hHeld ?_
  try simp only [Act.put, List.setIfInBounds_toArray, List.set_cons_zero, List.set_cons_succ]
  refine held_pure 12 43 (.int .i64 n) rfl (fun W => by rfl) hHeld ?_
  try simp only [Act.put, List.setIfInBounds_toArray, List.set_cons_zero, List.set_cons_succ]
  refine held_pure 13 44 (v) rfl (fun W => by rfl) hHeld ?_
  try simp only [Act.put, List.setIfInBounds_toArray, List.set_cons_zero, List.set_cons_succ]
  refine held_load 15 46 rfl 27 (.tmp 5) rfl w.heap.size 0 rfl (nmR y) (fun w' h => range_is (cs := nmR y) h.1) Try.underlying27 name_info hHeld ?_
  try simp only [Act.put, List.setIfInBounds_toArray, List.set_cons_zero, List.set_cons_succ]
  refine held_load 16 47 rfl 27 (.tmp 6) rfl (w.heap.size + 1) 0 rfl (nmR x) (fun w' h => range_is (cs := nmR x) h.2.1) Try.underlying27 name_info hHeld ?_
  try simp only [Act.put, List.setIfInBounds_toArray, List.set_cons_zero, List.set_cons_succ]
  refine held_pure 17 48 (.int .i64 i) rfl (fun W => by rfl) hHeld ?_
  try simp only [Act.put, List.setIfInBounds_toArray, List.set_cons_zero, List.set_cons_succ]
  refine held_pure 18 49 (.int .i64 n) rfl (fun W => by rfl) hHeld ?_
  try simp only [Act.put, List.setIfInBounds_toArray, List.set_cons_zero, List.set_cons_succ]
  refine held_pure 19 50 (v) rfl (fun W => by rfl) hHeld ?_
  try simp only [Act.put, List.setIfInBounds_toArray, List.set_cons_zero, List.set_cons_succ]
  refine held_one (i := 14) (by kernel_rfl) rfl (by rfl) (fun K hK => ?_)
  go_wp2_with fail
  refine (merkleM.verify _ y x i n v p V (hv.next hHeld.2.2.2.2.1) hp hi hn HV).mono ?_
  rintro e w5 ⟨rfl, hb⟩
  go_wp2_with fail
  refine hK.out _ _ ⟨hHeld.1.next hb, hHeld.2.1.next hb, hHeld.2.2.1.next hb, hHeld.2.2.2.1.next hb, hHeld.2.2.2.2.next hb⟩ (fun hHeld1 => ?_)
  clear hK K
  try simp only [Act.put, List.setIfInBounds_toArray, List.set_cons_zero, List.set_cons_succ]
  refine held_one (i := 20) (by kernel_rfl) rfl (by rfl) (fun K hK => ?_)
  go_wp2_with fail
  refine (refM.verify _ y x i n v p V (hv.next hHeld1.2.2.2.2.1) hp hi hn HV).mono ?_
  rintro e w6 ⟨rfl, hb⟩
  go_wp2_with fail
  refine hK.out _ _ ⟨hHeld1.1.next hb, hHeld1.2.1.next hb, hHeld1.2.2.1.next hb, hHeld1.2.2.2.1.next hb, hHeld1.2.2.2.2.next hb⟩ (fun hHeld2 => ?_)
  clear hK K
  try simp only [Act.put, List.setIfInBounds_toArray, List.set_cons_zero, List.set_cons_succ]
  refine held_pure 21 52 (.bool true) rfl (fun W => by go_simp) hHeld2 ?_
  try simp only [Act.put, List.setIfInBounds_toArray, List.set_cons_zero, List.set_cons_succ]
  refine held_pure 22 53 (.bool true) rfl (fun W => by rfl) hHeld2 ?_
  try simp only [Act.put, List.setIfInBounds_toArray, List.set_cons_zero, List.set_cons_succ]
  refine held_pure 23 54 (.bool true) rfl (fun W => by rfl) hHeld2 ?_
  try simp only [Act.put, List.setIfInBounds_toArray, List.set_cons_zero, List.set_cons_succ]
  refine held_load 24 55 rfl 27 (.tmp 13) rfl w3.heap.size 0 rfl (nmR z) (fun w' h => range_is (cs := nmR z) h.2.2.2.1) Try.underlying27 name_info hHeld2 ?_
  try simp only [Act.put, List.setIfInBounds_toArray, List.set_cons_zero, List.set_cons_succ]
  refine held_load 25 56 rfl 27 (.tmp 6) rfl (w.heap.size + 1) 0 rfl (nmR x) (fun w' h => range_is (cs := nmR x) h.2.1) Try.underlying27 name_info hHeld2 ?_
  try simp only [Act.put, List.setIfInBounds_toArray, List.set_cons_zero, List.set_cons_succ]
  refine held_pure 26 57 (.int .i64 i) rfl (fun W => by rfl) hHeld2 ?_
  try simp only [Act.put, List.setIfInBounds_toArray, List.set_cons_zero, List.set_cons_succ]
  refine held_pure 27 58 (.int .i64 n) rfl (fun W => by rfl) hHeld2 ?_
  try simp only [Act.put, List.setIfInBounds_toArray, List.set_cons_zero, List.set_cons_succ]
  refine held_pure 28 59 (v) rfl (fun W => by rfl) hHeld2 ?_
  try simp only [Act.put, List.setIfInBounds_toArray, List.set_cons_zero, List.set_cons_succ]
  refine held_pure 30 61 (.bool b) rfl (fun W => by rfl) hHeld2 ?_
  try simp only [Act.put, List.setIfInBounds_toArray, List.set_cons_zero, List.set_cons_succ]
  refine held_one (i := 29) (by kernel_rfl) rfl (by rfl) (fun K hK => ?_)
  go_wp2_with fail
  refine (merkleM.verify _ z x i n v p b (hv.next hHeld2.2.2.2.2.1) hp hi hn HV2).mono ?_
  rintro e w7 ⟨rfl, hb⟩
  go_wp2_with fail
  refine hK.out _ _ ⟨hHeld2.1.next hb, hHeld2.2.1.next hb, hHeld2.2.2.1.next hb, hHeld2.2.2.2.1.next hb, hHeld2.2.2.2.2.next hb⟩ (fun hHeld3 => ?_)
  clear hK K
  try simp only [Act.put, List.setIfInBounds_toArray, List.set_cons_zero, List.set_cons_succ]
  refine held_pure 31 62 (.bool true) rfl (fun W => by go_simp) hHeld3 ?_
  try simp only [Act.put, List.setIfInBounds_toArray, List.set_cons_zero, List.set_cons_succ]
  refine held_pure 32 63 (.bool true) rfl (fun W => by rfl) hHeld3 ?_
  try simp only [Act.put, List.setIfInBounds_toArray, List.set_cons_zero, List.set_cons_succ]
  refine held_pure 33 64 (.bool true) rfl (fun W => by rfl) hHeld3 ?_
  try simp only [Act.put, List.setIfInBounds_toArray, List.set_cons_zero, List.set_cons_succ]
  refine held_one (i := 34) (by kernel_rfl) rfl (by rfl) (fun K hK => ?_)
  go_wp2_with fail
  refine (awake_any _).mono ?_
  rintro e w8 ⟨rfl, hb⟩
  go_wp2_with fail
  refine hK.out _ _ ⟨hHeld3.1.next hb, hHeld3.2.1.next hb, hHeld3.2.2.1.next hb, hHeld3.2.2.2.1.next hb, hHeld3.2.2.2.2.next hb⟩ (fun hHeld4 => ?_)
  clear hK K
  try simp only [Act.put, List.setIfInBounds_toArray, List.set_cons_zero, List.set_cons_succ]
  refine held_pure 35 66 (.bool true) rfl (fun W => by rfl) hHeld4 ?_
  try simp only [Act.put, List.setIfInBounds_toArray, List.set_cons_zero, List.set_cons_succ]
  refine held_pure 36 10 (.bool true) rfl (fun W => by rfl) hHeld4 ?_
  try simp only [Act.put, List.setIfInBounds_toArray, List.set_cons_zero, List.set_cons_succ]
  refine wpAnyH_done (by kernel_rfl) ?_ _
  try simp only [Act.put, List.setIfInBounds_toArray, List.set_cons_zero, List.set_cons_succ]
  go_wp2_with fail
  go_ret
  exact ⟨rfl, hHeld4.2.2.2.2.1⟩

set_option maxRecDepth 100000 in
/-- The law's step, at every reading. -/
theorem lifted (os : Os) (started : os.Started) (H : Type) (enc : TypeId × Value → H) :
    ReturnsInHanded {} Try.checked os 5 .any (Rows.merkleFollowsSpec.pre6 enc Try.prog Try.f5 Rows.merkleFollowsRow.domain false) (Rows.merkleFollowsSpec.post enc Try.prog Try.f5 false true false false) := by
  refine law_lifted (C := Try.checked) (n := 5) (tb := 4) own started (by kernel_rfl) Try.func5 rfl (by kernel_rfl)
    (of_decide_eq_true (by kernel_rfl)) (by kernel_rfl) (by kernel_rfl) Try.underlying4
    (fun ds hd => by match ds, hd with | [_, _, _, _, _], _ => rfl)
    (ChangeSpec.witness6 (enc := enc) (C := Try.checked) false ⟨#[], #[.agg #[.int .u8 0, .int .u8 0, .int .u8 0, .int .u8 0, .int .u8 0, .int .u8 0, .int .u8 0, .int .u8 0], .agg #[.int .u8 0, .int .u8 0, .int .u8 0, .int .u8 0, .int .u8 0, .int .u8 0, .int .u8 0, .int .u8 0], .int .i64 0, .int .i64 0, .slice none 0 0], []⟩ 8 (by kernel_rfl) (by kernel_rfl) (by kernel_rfl) (by kernel_rfl)) ?_
  intro W base args ds ps hval hA hlt hsz
  rw [Try.params5] at hA hval
  obtain ⟨v0, vs0, d0, ds0, p0, q0, hargs, rfl, rfl, h0, r0⟩ := trodAll_cons hA
  obtain ⟨v1, vs1, d1, ds1, p1, q1, rfl, rfl, rfl, h1, r1⟩ := trodAll_cons r0
  obtain ⟨v2, vs2, d2, ds2, p2, q2, rfl, rfl, rfl, h2, r2⟩ := trodAll_cons r1
  obtain ⟨v3, vs3, d3, ds3, p3, q3, rfl, rfl, rfl, h3, r3⟩ := trodAll_cons r2
  obtain ⟨v4, vs4, d4, ds4, p4, q4, rfl, rfl, rfl, h4, r4⟩ := trodAll_cons r3
  obtain ⟨rfl, rfl, rfl⟩ := trodAll_nil r4
  obtain rfl : args = #[v0, v1, v2, v3, v4] := by cases args; simp_all
  obtain ⟨x0, rfl, rfl⟩ := open_name Try.underlying27 Try.underlying5 cells1 cells8 (hval 0 _ v0 rfl rfl) h0
  obtain ⟨x1, rfl, rfl⟩ := open_name Try.underlying27 Try.underlying5 cells1 cells8 (hval 1 _ v1 rfl rfl) h1
  obtain ⟨x2, rfl, rfl, rfl, wn2⟩ := open_int Try.underlying3 (hval 2 _ v2 rfl rfl) h2
  obtain ⟨x3, rfl, rfl, rfl, wn3⟩ := open_int Try.underlying3 (hval 3 _ v3 rfl rfl) h3
  obtain ⟨A4, l4, c4, rfl, hc4, hm4, hr4⟩ := open_names Try.underlying22 Try.underlying27 Try.underlying5 cells1 cells8 bytes8 (hval 4 _ v4 rfl rfl) h4 (fun x hx => hlt x (by simp [hx])) hsz (j := 4) (by rw [Try.params5]; rfl) rfl
  exact walk W x0 x1 x2 x3 _ l4 (bounds_i64 wn2) (bounds_i64 wn3) (VN.mk hr4 hc4 hm4) (by omega)

theorem proved : Rows.MerkleFollowsSaid :=
  OpenClaim.holds_of_wide 5 Try.f5 rfl rfl rfl rfl rfl rfl rfl ⟨rfl, rfl, rfl, rfl, rfl⟩ rfl rfl rfl rfl rfl (by kernel_rfl) Try.func5 (by kernel_rfl)
    (of_decide_eq_true (by kernel_rfl)) (by unfold Func.isWrapper; first | (rw [if_pos (by decide +kernel)]; kernel_rfl) | (rw [if_neg (by decide +kernel)]; exact ⟨rfl, rfl⟩))
    (fun os started H enc _ => lifted os started H enc)
#print axioms proved
end Go.Proofs.Ytllciohpphngiaa.merkleFollows
