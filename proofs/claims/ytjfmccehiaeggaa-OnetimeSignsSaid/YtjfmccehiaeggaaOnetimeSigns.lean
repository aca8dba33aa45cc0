/-
  The statement OnetimeSigns, proved for every pair of names, with no condition: Public and Sign are as documented.
-/
import Derived.Test.YtjfmccehiaeggaaLaw4A
namespace Go.Proofs.Ytjfmccehiaeggaa.onetimeSigns
open Go.ChangeShapes Go.WideShapes Go.ChangeAt Go.RowKit Go.Fl

attribute [local go_sem] equal_nm eqGuard_nm

set_option maxHeartbeats 600000 in
theorem walk (w : World) (s m : BitVec 64) :
    Calls Try.prog 4 #[nm s, nm m] w fun e w' => e = .returned (.bool true) ∧ Below w.heap.size w w' := by
  obtain ⟨hs, hm, hF⟩ := signW_facts w s m
  obtain ⟨y, hy⟩ : ∃ y, publicF s = y := ⟨_, rfl⟩
  obtain ⟨L, hL⟩ : ∃ L, valsF s (digF m) = L := ⟨_, rfl⟩
  have hLL := vals_len s (digF m)
  rw [hL] at hLL
  have HY := Lib.hid hy
  have HL := Lib.hid hL
  have HLL := Lib.hid hLL
  have hyy := nmEq_self y
  clear hy hL hLL
  go_enter Try.func4, Try.ntmps4
  go_wp2
  change Code.wp _ _ _ _ (signW w s m)
  generalize signW w s m = W at *
  refine wp_region_held_drew (S := fun w' => Is w' w.heap.size 23 (nmC s) ∧ Is w' (w.heap.size + 1) 23 (nmC m) ∧ Fr w 2 w') (by kernel_rfl) ⟨hs.drew, hm.drew, hF.drew⟩ (fun hHeld => ?_)
  refine held_load 0 5 rfl 23 (.tmp 2) rfl w.heap.size 0 rfl (nmR s) (fun w' h => range_is (cs := nmR s) h.1) Try.underlying23 name_info hHeld ?_
  try simp only [Act.put, List.setIfInBounds_toArray, List.set_cons_zero, List.set_cons_succ]
  refine held_load 2 7 rfl 23 (.tmp 2) rfl w.heap.size 0 rfl (nmR s) (fun w' h => range_is (cs := nmR s) h.1) Try.underlying23 name_info hHeld ?_
  try simp only [Act.put, List.setIfInBounds_toArray, List.set_cons_zero, List.set_cons_succ]
  refine held_one (i := 1) (by kernel_rfl) rfl (by rfl) (fun KK hK => ?_)
  go_wp2_with fail
  refine (oneO.pub _ s y HY).mono ?_
  rintro e w1 ⟨rfl, hb⟩
  go_wp2_with fail
  refine hK.out _ _ ⟨hHeld.1.next hb, hHeld.2.1.next hb, hHeld.2.2.next hb⟩ (fun hHeld1 => ?_)
  clear hK KK
  try simp only [Act.put, List.setIfInBounds_toArray, List.set_cons_zero, List.set_cons_succ]
  refine held_one (i := 3) (by kernel_rfl) rfl (by rfl) (fun KK hK => ?_)
  go_wp2_with fail
  refine (refO.pub _ s y HY).mono ?_
  rintro e w2 ⟨rfl, hb⟩
  go_wp2_with fail
  refine hK.out _ _ ⟨hHeld1.1.next hb, hHeld1.2.1.next hb, hHeld1.2.2.next hb⟩ (fun hHeld2 => ?_)
  clear hK KK
  try simp only [Act.put, List.setIfInBounds_toArray, List.set_cons_zero, List.set_cons_succ]
  refine held_pure 4 9 (.bool true) rfl (fun W => by go_simp) hHeld2 ?_
  try simp only [Act.put, List.setIfInBounds_toArray, List.set_cons_zero, List.set_cons_succ]
  refine held_pure 5 10 (.bool true) rfl (fun W => by rfl) hHeld2 ?_
  try simp only [Act.put, List.setIfInBounds_toArray, List.set_cons_zero, List.set_cons_succ]
  refine held_load 6 11 rfl 23 (.tmp 2) rfl w.heap.size 0 rfl (nmR s) (fun w' h => range_is (cs := nmR s) h.1) Try.underlying23 name_info hHeld2 ?_
  try simp only [Act.put, List.setIfInBounds_toArray, List.set_cons_zero, List.set_cons_succ]
  refine held_load 7 12 rfl 23 (.tmp 3) rfl (w.heap.size + 1) 0 rfl (nmR m) (fun w' h => range_is (cs := nmR m) h.2.1) Try.underlying23 name_info hHeld2 ?_
  try simp only [Act.put, List.setIfInBounds_toArray, List.set_cons_zero, List.set_cons_succ]
  refine held_load 9 14 rfl 23 (.tmp 2) rfl w.heap.size 0 rfl (nmR s) (fun w' h => range_is (cs := nmR s) h.1) Try.underlying23 name_info hHeld2 ?_
  try simp only [Act.put, List.setIfInBounds_toArray, List.set_cons_zero, List.set_cons_succ]
  refine held_load 10 15 rfl 23 (.tmp 3) rfl (w.heap.size + 1) 0 rfl (nmR m) (fun w' h => range_is (cs := nmR m) h.2.1) Try.underlying23 name_info hHeld2 ?_
  try simp only [Act.put, List.setIfInBounds_toArray, List.set_cons_zero, List.set_cons_succ]
  refine held_one (i := 8) (by kernel_rfl) rfl (by rfl) (fun KK hK => ?_)
  go_wp2_with fail
  refine (oneO.sign _ s m).mono ?_
  rintro e w3 ⟨v3, rfl, ho3, hb⟩
  rw [HL.out] at ho3
  have hv3 := ho3.vn
  go_wp2_with fail
  refine hK.out _ _ ⟨hHeld2.1.next hb, hHeld2.2.1.next hb, hHeld2.2.2.next hb⟩ (fun hHeld3 => ?_)
  clear hK KK
  try simp only [Act.put, List.setIfInBounds_toArray, List.set_cons_zero, List.set_cons_succ]
  refine held_one (i := 11) (by kernel_rfl) rfl (by rfl) (fun KK hK => ?_)
  go_wp2_with fail
  refine (refO.sign _ s m).mono ?_
  rintro e w4 ⟨v4, rfl, ho4, hb⟩
  rw [HL.out] at ho4
  have hv4 := ho4.vn
  have hv3 := hv3.next hb
  go_wp2_with fail
  refine hK.out _ _ ⟨hHeld3.1.next hb, hHeld3.2.1.next hb, hHeld3.2.2.next hb⟩ (fun hHeld4 => ?_)
  clear hK KK
  try simp only [Act.put, List.setIfInBounds_toArray, List.set_cons_zero, List.set_cons_succ]
  refine held_one (i := 12) (by kernel_rfl) rfl (by rfl) (fun KK hK => ?_)
  go_wp2_with fail
  refine (same_any _ v3 v4 L L hv3 hv4 (by have := HLL.out; omega) (by have := HLL.out; omega)).mono ?_
  rintro e w5 ⟨rfl, hb⟩
  rw [nsEq_self]
  go_wp2_with fail
  refine hK.out _ _ ⟨hHeld4.1.next hb, hHeld4.2.1.next hb, hHeld4.2.2.next hb⟩ (fun hHeld5 => ?_)
  clear hK KK
  try simp only [Act.put, List.setIfInBounds_toArray, List.set_cons_zero, List.set_cons_succ]
  refine held_pure 13 18 (.bool true) rfl (fun W => by rfl) hHeld5 ?_
  try simp only [Act.put, List.setIfInBounds_toArray, List.set_cons_zero, List.set_cons_succ]
  refine held_pure 14 19 (.bool true) rfl (fun W => by rfl) hHeld5 ?_
  try simp only [Act.put, List.setIfInBounds_toArray, List.set_cons_zero, List.set_cons_succ]
  refine held_one (i := 15) (by kernel_rfl) rfl (by rfl) (fun KK hK => ?_)
  go_wp2_with fail
  refine (awake_any _).mono ?_
  rintro e w6 ⟨rfl, hb⟩
  go_wp2_with fail
  refine hK.out _ _ ⟨hHeld5.1.next hb, hHeld5.2.1.next hb, hHeld5.2.2.next hb⟩ (fun hHeld6 => ?_)
  clear hK KK
  try simp only [Act.put, List.setIfInBounds_toArray, List.set_cons_zero, List.set_cons_succ]
  refine held_pure 16 21 (.bool true) rfl (fun W => by rfl) hHeld6 ?_
  try simp only [Act.put, List.setIfInBounds_toArray, List.set_cons_zero, List.set_cons_succ]
  refine held_pure 17 4 (.bool true) rfl (fun W => by rfl) hHeld6 ?_
  try simp only [Act.put, List.setIfInBounds_toArray, List.set_cons_zero, List.set_cons_succ]
  refine wpAnyH_done (by kernel_rfl) ?_ _
  try simp only [Act.put, List.setIfInBounds_toArray, List.set_cons_zero, List.set_cons_succ]
  go_wp2_with fail
  go_ret
  exact ⟨rfl, hHeld6.2.2.1⟩

set_option maxRecDepth 100000 in
/-- The law's step, at every reading. -/
theorem lifted (os : Os) (started : os.Started) (H : Type) (enc : TypeId × Value → H) :
    ReturnsInHanded {} Try.checked os 4 .any (Rows.onetimeSignsSpec.pre6 enc Try.prog Try.f4 Rows.onetimeSignsRow.domain false) (Rows.onetimeSignsSpec.post enc Try.prog Try.f4 false true false false) := by
  refine law_lifted (C := Try.checked) (n := 2) (tb := 4) own started (by kernel_rfl) Try.func4 rfl (by kernel_rfl)
    (of_decide_eq_true (by kernel_rfl)) (by kernel_rfl) (by kernel_rfl) Try.underlying4
    (fun ds hd => by match ds, hd with | [_, _], _ => rfl)
    (ChangeSpec.witness6 (enc := enc) (C := Try.checked) false ⟨#[], #[.agg #[.int .u8 0, .int .u8 0, .int .u8 0, .int .u8 0, .int .u8 0, .int .u8 0, .int .u8 0, .int .u8 0], .agg #[.int .u8 0, .int .u8 0, .int .u8 0, .int .u8 0, .int .u8 0, .int .u8 0, .int .u8 0, .int .u8 0]], []⟩ 8 (by kernel_rfl) (by kernel_rfl) (by kernel_rfl) (by kernel_rfl)) ?_
  intro W base args ds ps hval hA hlt hsz
  rw [Try.params4] at hA hval
  obtain ⟨v0, vs0, d0, ds0, p0, q0, hargs, rfl, rfl, h0, r0⟩ := trodAll_cons hA
  obtain ⟨v1, vs1, d1, ds1, p1, q1, rfl, rfl, rfl, h1, r1⟩ := trodAll_cons r0
  obtain ⟨rfl, rfl, rfl⟩ := trodAll_nil r1
  obtain rfl : args = #[v0, v1] := by cases args; simp_all
  obtain ⟨x0, rfl, rfl⟩ := open_name Try.underlying23 Try.underlying5 cells1 cells8 (hval 0 _ v0 rfl rfl) h0
  obtain ⟨x1, rfl, rfl⟩ := open_name Try.underlying23 Try.underlying5 cells1 cells8 (hval 1 _ v1 rfl rfl) h1
  exact walk W x0 x1

theorem proved : Rows.OnetimeSignsSaid :=
  OpenClaim.holds_of_wide 4 Try.f4 rfl rfl rfl rfl rfl rfl rfl ⟨rfl, rfl, rfl, rfl, rfl⟩ rfl rfl rfl rfl rfl (by kernel_rfl) Try.func4 (by kernel_rfl)
    (of_decide_eq_true (by kernel_rfl)) (by unfold Func.isWrapper; first | (rw [if_pos (by decide +kernel)]; kernel_rfl) | (rw [if_neg (by decide +kernel)]; exact ⟨rfl, rfl⟩))
    (fun os started H enc _ => lifted os started H enc)
#print axioms proved
end Go.Proofs.Ytjfmccehiaeggaa.onetimeSigns
