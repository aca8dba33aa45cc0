/-
  The statement MerkleIncludes, proved for every slice of names and every number, with no condition: every path that Path returns is accepted with the root of the list, and has the length Depth.
-/
import Derived.Test.YtllciohpphngiaaLaw3A
namespace Go.Proofs.Ytllciohpphngiaa.merkleIncludes
open Go.ChangeShapes Go.WideShapes Go.ChangeAt Go.RowKit Go.Fl

attribute [local go_sem] equal_nm eqGuard_nm

theorem walk_nil (w : World) (v : Value) (l : List (BitVec 64)) (i : Int) (hv : VN w v l) (hl : l.length ≤ 17592186044160) (hi : I64 i) (h0 : l.length = 0) :
    Calls Try.prog 6 #[v, .int .i64 i] w fun e w' => e = .returned (.bool true) ∧ Below w.heap.size w w' := by
  obtain rfl : l = [] := List.eq_nil_of_length_eq_zero h0
  go_enter Try.func6, Try.ntmps6
  go_wp2_with fail
  refine (vn_cut hv hl).mono ?_
  rintro e w1 ⟨u, rfl, hu, rfl⟩
  have hP : pathP [] i = ([], false) := by unfold pathP; rw [if_neg (by simp)]
  have HP := Lib.hid hP
  have hu' : VN w u [] := hu
  obtain ⟨A, c, rfl, h1, h2, hr⟩ := hu
  have hu2 : VN w (.slice A 0 c) [] := hu'
  clear hP
  go_wp2_with (first
    | (go_at_call 11; refine (merkleM.path _ _ [] i ([], false) hu2 (by simp) hi HP).mono ?_; rintro e w1 ⟨v1, rfl, ho1, hb1⟩; have hF1 := (Fr.refl w).next hb1)
    | (go_at_call 16; refine (awake_any _).mono ?_; rintro e w6 ⟨rfl, hb6⟩; have hF6 := hF1.next hb6)
    | fail)
  go_ret
  exact ⟨rfl, hF6.1⟩

set_option maxHeartbeats 1000000 in
theorem walk_some (w : World) (v : Value) (l : List (BitVec 64)) (t : Int) (hv : VN w v l) (hl : l.length ≤ 17592186044160) (h0 : 0 < l.length) :
    Calls Try.prog 6 #[v, .int .i64 t] w fun e w' => e = .returned (.bool true) ∧ Below w.heap.size w w' := by
  go_enter Try.func6, Try.ntmps6
  go_wp2_with fail
  refine (vn_cut hv hl).mono ?_
  rintro e w1 ⟨u, rfl, hu, rfl⟩
  have hm : (l.take 300).length ≤ 300 := by rw [List.length_take]; omega
  have hm0 : 0 < (l.take 300).length := by rw [List.length_take]; omega
  generalize l.take 300 = m at hu hm hm0
  obtain ⟨j, hj, hje⟩ := index_mod t m.length hm0 (by omega)
  have hvp := verify_path m j hj
  have hpp := pathP_nat m j hj
  have hpl := pathF_len m.length m j rfl hj
  have hd := depthI_nat j m.length hj
  obtain ⟨y, hy⟩ : ∃ y, m[j]? = some y := ⟨_, List.getElem?_eq_getElem hj⟩
  have hgy : m.getD j 0 = y := by rw [List.getD_eq_getElem?_getD, hy]; rfl
  have hu' := hu
  obtain ⟨A, c, rfl, h1, h2, hr⟩ := hu
  obtain ⟨g, off, rfl, hg, -⟩ := hr.at_ hy
  have hrg := rn_range hr rfl hy
  obtain ⟨x, hx⟩ : ∃ x, rootF m = x := ⟨_, rfl⟩
  obtain ⟨r, hrr⟩ : ∃ r, pathF m j = r := ⟨_, rfl⟩
  rw [hgy, hx, hrr] at hvp
  rw [hrr] at hpp hpl
  rw [← hpl] at hd
  obtain ⟨n, hn⟩ : ∃ n, m.length = n := ⟨_, rfl⟩
  rw [hn] at hvp hd hje hm hm0 hj h1
  have HV := Lib.hid hvp
  have HP := Lib.hid hpp
  have HD := Lib.hid hd
  have HX := Lib.hid hx
  have HN := Lib.hid hn
  have HRG := Lib.hid hrg
  have HU := Lib.hid hu'
  rw [hn] at HU ⊢
  have hrl := pathP_len m j (by omega)
  rw [hpp] at hrl
  have hrl : r.length ≤ 63 := hrl
  have b0 : ((n : Int) == 0) = false := by rw [beq_eq_false_iff_ne]; omega
  have n1 : (n : Int) ≤ 300 := by omega
  have n0 : (0 : Int) < (n : Int) := by omega
  have j0 : (0 : Int) ≤ (j : Int) := by omega
  have j1 : (j : Int) < (n : Int) := by omega
  clear hvp hpp hpl hd hy hgy hu' hr hrg hx hrr hn hv
  go_wp2_with fail
  refine (merkleM.path w _ m (j : Int) (r, true) HU.out (by have := HN.out; omega) ⟨by omega, by omega⟩ HP).mono ?_
  rintro e w2 ⟨v1, rfl, ho1, hb1⟩
  have hF1 := (Fr.refl w).next hb1
  have hp1 : VN w2 v1 r := ho1.vn
  have hp1' := hp1
  obtain ⟨A1, c1, rfl, k1, k2, hr1⟩ := hp1
  have HP1 := Lib.hid hp1'
  clear hr1 hp1' ho1
  go_wp2_with fail
  refine wp_region_held_drew (S := fun w' => w'.rangeAt g (off + j * 8) (nmR y) ∧ Fr w 0 w' ∧ Below w2.heap.size w2 w') (by kernel_rfl) ⟨range_keep HRG.out hF1.drew.1 hg, hF1.drew, (Below.refl _ _).drew⟩ (fun hHeld => ?_)
  refine held_pure 0 38 (.bool true) rfl (fun W => by rfl) hHeld ?_
  try simp only [Act.put, List.setIfInBounds_toArray, List.set_cons_zero, List.set_cons_succ]
  refine held_pure 1 39 (.bool true) rfl (fun W => by rfl) hHeld ?_
  try simp only [Act.put, List.setIfInBounds_toArray, List.set_cons_zero, List.set_cons_succ]
  refine held_pure 2 40 (.slice A1 r.length c1) rfl (fun W => by rfl) hHeld ?_
  try simp only [Act.put, List.setIfInBounds_toArray, List.set_cons_zero, List.set_cons_succ]
  refine held_pure 3 41 (.int .i64 (r.length : Int)) rfl (fun W => by go_simp) hHeld ?_
  try simp only [Act.put, List.setIfInBounds_toArray, List.set_cons_zero, List.set_cons_succ]
  refine held_pure 4 42 (.int .i64 (j : Int)) rfl (fun W => by rfl) hHeld ?_
  try simp only [Act.put, List.setIfInBounds_toArray, List.set_cons_zero, List.set_cons_succ]
  refine held_pure 5 43 (.slice (some ⟨g, off, none⟩) n c) rfl (fun W => by rfl) hHeld ?_
  try simp only [Act.put, List.setIfInBounds_toArray, List.set_cons_zero, List.set_cons_succ]
  refine held_pure 6 44 (.int .i64 (n : Int)) rfl (fun W => by go_simp) hHeld ?_
  try simp only [Act.put, List.setIfInBounds_toArray, List.set_cons_zero, List.set_cons_succ]
  refine held_one (i := 7) (by kernel_rfl) rfl (by rfl) (fun KK hK => ?_)
  go_wp2_with fail
  refine (merkleM.depth _ (j : Int) (n : Int) ⟨by omega, by omega⟩ ⟨by omega, by omega⟩).mono ?_
  rintro e w3 ⟨rfl, hb⟩
  rw [HD.out]
  go_wp2_with fail
  refine hK.out _ _ ⟨range_keep hHeld.1 hb (by have := hHeld.2.1.2; omega), hHeld.2.1.next hb, hHeld.2.2.trans (hb.mono hHeld.2.2.size)⟩ (fun hHeld1 => ?_)
  clear hK KK
  try simp only [Act.put, List.setIfInBounds_toArray, List.set_cons_zero, List.set_cons_succ]
  refine held_pure 8 46 (.bool true) rfl (fun W => by go_simp) hHeld1 ?_
  try simp only [Act.put, List.setIfInBounds_toArray, List.set_cons_zero, List.set_cons_succ]
  refine held_pure 9 47 (.bool true) rfl (fun W => by rfl) hHeld1 ?_
  try simp only [Act.put, List.setIfInBounds_toArray, List.set_cons_zero, List.set_cons_succ]
  refine held_pure 10 48 (.bool true) rfl (fun W => by rfl) hHeld1 ?_
  try simp only [Act.put, List.setIfInBounds_toArray, List.set_cons_zero, List.set_cons_succ]
  refine held_pure 11 49 (.slice (some ⟨g, off, none⟩) n c) rfl (fun W => by rfl) hHeld1 ?_
  try simp only [Act.put, List.setIfInBounds_toArray, List.set_cons_zero, List.set_cons_succ]
  refine held_pure 13 51 (.slice (some ⟨g, off, none⟩) n c) rfl (fun W => by rfl) hHeld1 ?_
  try simp only [Act.put, List.setIfInBounds_toArray, List.set_cons_zero, List.set_cons_succ]
  refine held_pure 14 52 (.int .i64 (j : Int)) rfl (fun W => by rfl) hHeld1 ?_
  try simp only [Act.put, List.setIfInBounds_toArray, List.set_cons_zero, List.set_cons_succ]
  refine held_pure 15 53 (.pointer (some ⟨g, off + j * 8, none⟩)) rfl (fun W => by go_simp) hHeld1 ?_
  try simp only [Act.put, List.setIfInBounds_toArray, List.set_cons_zero, List.set_cons_succ]
  refine held_load 16 54 rfl 27 (.tmp 53) rfl g (off + j * 8) rfl (nmR y) (fun w' h => h.1) Try.underlying27 name_info hHeld1 ?_
  try simp only [Act.put, List.setIfInBounds_toArray, List.set_cons_zero, List.set_cons_succ]
  refine held_pure 17 55 (.int .i64 (j : Int)) rfl (fun W => by rfl) hHeld1 ?_
  try simp only [Act.put, List.setIfInBounds_toArray, List.set_cons_zero, List.set_cons_succ]
  refine held_pure 18 56 (.slice (some ⟨g, off, none⟩) n c) rfl (fun W => by rfl) hHeld1 ?_
  try simp only [Act.put, List.setIfInBounds_toArray, List.set_cons_zero, List.set_cons_succ]
  refine held_pure 19 57 (.int .i64 (n : Int)) rfl (fun W => by go_simp) hHeld1 ?_
  try simp only [Act.put, List.setIfInBounds_toArray, List.set_cons_zero, List.set_cons_succ]
  refine held_pure 20 58 (.slice A1 r.length c1) rfl (fun W => by rfl) hHeld1 ?_
  try simp only [Act.put, List.setIfInBounds_toArray, List.set_cons_zero, List.set_cons_succ]
  refine held_one (i := 12) (by kernel_rfl) rfl (by rfl) (fun KK hK => ?_)
  go_wp2_with fail
  refine (merkleM.root _ _ m x (HU.out.next hHeld1.2.1.1) (by have := HN.out; omega) HX).mono ?_
  rintro e w4 ⟨rfl, hb⟩
  go_wp2_with fail
  refine hK.out _ _ ⟨range_keep hHeld1.1 hb (by have := hHeld1.2.1.2; omega), hHeld1.2.1.next hb, hHeld1.2.2.trans (hb.mono hHeld1.2.2.size)⟩ (fun hHeld2 => ?_)
  clear hK KK
  try simp only [Act.put, List.setIfInBounds_toArray, List.set_cons_zero, List.set_cons_succ]
  refine held_one (i := 21) (by kernel_rfl) rfl (by rfl) (fun KK hK => ?_)
  go_wp2_with fail
  refine (merkleM.verify _ x y (j : Int) (n : Int) _ r true (HP1.out.next hHeld2.2.2) (by omega) ⟨by omega, by omega⟩ ⟨by omega, by omega⟩ HV).mono ?_
  rintro e w5 ⟨rfl, hb⟩
  go_wp2_with fail
  refine hK.out _ _ ⟨range_keep hHeld2.1 hb (by have := hHeld2.2.1.2; omega), hHeld2.2.1.next hb, hHeld2.2.2.trans (hb.mono hHeld2.2.2.size)⟩ (fun hHeld3 => ?_)
  clear hK KK
  try simp only [Act.put, List.setIfInBounds_toArray, List.set_cons_zero, List.set_cons_succ]
  refine held_pure 22 60 (.bool true) rfl (fun W => by rfl) hHeld3 ?_
  try simp only [Act.put, List.setIfInBounds_toArray, List.set_cons_zero, List.set_cons_succ]
  refine held_pure 23 61 (.bool true) rfl (fun W => by rfl) hHeld3 ?_
  try simp only [Act.put, List.setIfInBounds_toArray, List.set_cons_zero, List.set_cons_succ]
  refine held_one (i := 24) (by kernel_rfl) rfl (by rfl) (fun KK hK => ?_)
  go_wp2_with fail
  refine (awake_any _).mono ?_
  rintro e w6 ⟨rfl, hb⟩
  go_wp2_with fail
  refine hK.out _ _ ⟨range_keep hHeld3.1 hb (by have := hHeld3.2.1.2; omega), hHeld3.2.1.next hb, hHeld3.2.2.trans (hb.mono hHeld3.2.2.size)⟩ (fun hHeld4 => ?_)
  clear hK KK
  try simp only [Act.put, List.setIfInBounds_toArray, List.set_cons_zero, List.set_cons_succ]
  refine held_pure 25 63 (.bool true) rfl (fun W => by rfl) hHeld4 ?_
  try simp only [Act.put, List.setIfInBounds_toArray, List.set_cons_zero, List.set_cons_succ]
  refine held_pure 26 4 (.bool true) rfl (fun W => by rfl) hHeld4 ?_
  try simp only [Act.put, List.setIfInBounds_toArray, List.set_cons_zero, List.set_cons_succ]
  refine wpAnyH_done (by kernel_rfl) ?_ _
  try simp only [Act.put, List.setIfInBounds_toArray, List.set_cons_zero, List.set_cons_succ]
  go_wp2_with fail
  go_ret
  exact ⟨rfl, hHeld4.2.1.1⟩

theorem walk (w : World) (v : Value) (l : List (BitVec 64)) (i : Int) (hv : VN w v l) (hl : l.length ≤ 17592186044160) (hi : I64 i) :
    Calls Try.prog 6 #[v, .int .i64 i] w fun e w' => e = .returned (.bool true) ∧ Below w.heap.size w w' := by
  by_cases h0 : l.length = 0
  · exact walk_nil w v l i hv hl hi h0
  · exact walk_some w v l i hv hl (by omega)

set_option maxRecDepth 100000 in
/-- The law's step, at every reading. -/
theorem lifted (os : Os) (started : os.Started) (H : Type) (enc : TypeId × Value → H) :
    ReturnsInHanded {} Try.checked os 6 .any (Rows.merkleIncludesSpec.pre6 enc Try.prog Try.f6 Rows.merkleIncludesRow.domain false) (Rows.merkleIncludesSpec.post enc Try.prog Try.f6 false true false false) := by
  refine law_lifted (C := Try.checked) (n := 2) (tb := 4) own started (by kernel_rfl) Try.func6 rfl (by kernel_rfl)
    (of_decide_eq_true (by kernel_rfl)) (by kernel_rfl) (by kernel_rfl) Try.underlying4
    (fun ds hd => by match ds, hd with | [_, _], _ => rfl)
    (ChangeSpec.witness6 (enc := enc) (C := Try.checked) false ⟨#[], #[.slice none 0 0, .int .i64 0], []⟩ 8 (by kernel_rfl) (by kernel_rfl) (by kernel_rfl) (by kernel_rfl)) ?_
  intro W base args ds ps hval hA hlt hsz
  rw [Try.params6] at hA hval
  obtain ⟨v0, vs0, d0, ds0, p0, q0, hargs, rfl, rfl, h0, r0⟩ := trodAll_cons hA
  obtain ⟨v1, vs1, d1, ds1, p1, q1, rfl, rfl, rfl, h1, r1⟩ := trodAll_cons r0
  obtain ⟨rfl, rfl, rfl⟩ := trodAll_nil r1
  obtain rfl : args = #[v0, v1] := by cases args; simp_all
  obtain ⟨A0, l0, c0, rfl, hc0, hm0, hr0⟩ := open_names Try.underlying22 Try.underlying27 Try.underlying5 cells1 cells8 bytes8 (hval 0 _ v0 rfl rfl) h0 (fun x hx => hlt x (by simp [hx])) hsz (j := 0) (by rw [Try.params6]; rfl) rfl
  obtain ⟨x1, rfl, rfl, rfl, wn1⟩ := open_int Try.underlying3 (hval 1 _ v1 rfl rfl) h1
  exact walk W _ l0 x1 (VN.mk hr0 hc0 hm0) (by omega) (bounds_i64 wn1)

theorem proved : Rows.MerkleIncludesSaid :=
  OpenClaim.holds_of_wide 6 Try.f6 rfl rfl rfl rfl rfl rfl rfl ⟨rfl, rfl, rfl, rfl, rfl⟩ rfl rfl rfl rfl rfl (by kernel_rfl) Try.func6 (by kernel_rfl)
    (of_decide_eq_true (by kernel_rfl)) (by unfold Func.isWrapper; first | (rw [if_pos (by decide +kernel)]; kernel_rfl) | (rw [if_neg (by decide +kernel)]; exact ⟨rfl, rfl⟩))
    (fun os started H enc _ => lifted os started H enc)
#print axioms proved
end Go.Proofs.Ytllciohpphngiaa.merkleIncludes
