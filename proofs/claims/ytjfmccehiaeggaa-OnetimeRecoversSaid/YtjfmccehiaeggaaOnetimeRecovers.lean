/-
  The statement OnetimeRecovers, proved for every name and every slice of names, with no condition: Recover is as documented.
-/
import Derived.Test.YtjfmccehiaeggaaLaw4A
namespace Go.Proofs.Ytjfmccehiaeggaa.onetimeRecovers
open Go.ChangeShapes Go.WideShapes Go.ChangeAt Go.RowKit Go.Fl

attribute [local go_sem] equal_nm eqGuard_nm

set_option maxHeartbeats 600000 in
theorem walk_cut (w : World) (m : BitVec 64) (v : Value) (sig : List (BitVec 64)) (hv : VN w v sig) (hl : sig.length ≤ 17592186044160) (hs : 40 < sig.length) :
    Calls Try.prog 5 #[nm m, v] w fun e w' => e = .returned (.bool true) ∧ Below w.heap.size w w' := by
  obtain ⟨A, c, rfl, h1, h2, hr⟩ := hv
  obtain ⟨y0, hy0⟩ : ∃ y0, sig[0]? = some y0 := ⟨_, List.getElem?_eq_getElem (by omega)⟩
  obtain ⟨g, off, rfl, hg, -⟩ := hr.at_ hy0
  obtain ⟨i8, hi8, _, hz8, _⟩ := info_parts info_name
  have hs1 := fun (W : World) => run_names_to (P := Try.prog) Try.underlying30 hi8 hz8 g off sig.length c 40 (X := 40) (Lib.hid rfl) (by omega) (by omega) W
  have hvn : VN w (.slice (some ⟨g, off, none⟩) 40 c) (sig.take 40) := VN.take hr (by omega) h1 h2
  have hql : (sig.take 40).length = 40 := by rw [List.length_take]; omega
  have s1 : (40 : Int) < (sig.length : Int) := by omega
  have s2 : (sig.length : Int) ≤ 17592186044160 := by omega
  generalize sig.take 40 = q at hvn hql
  have h18 : ¬ q.length = 18 := by omega
  obtain ⟨⟨z, b⟩, hq⟩ : ∃ r, recP m q = r := ⟨_, rfl⟩
  have hb0 : b = false := by unfold recP at hq; rw [if_neg h18] at hq; cases hq; rfl
  subst hb0
  have HQ := Lib.hid hq
  have HV := Lib.hid hvn
  clear hy0 hi8 hz8 hr hvn hq
  have hzz := nmEq_self z
  have hm0 := Is.new w 23 (nmC m)
  have hF := (Fr.refl w).alloc (.cells (nmC m) 23)
  have hz : ∀ w1 : World, Is (w1.alloc (.cells #[B 0, B 0, B 0, B 0, B 0, B 0, B 0, B 0] 23)) w1.heap.size 23 #[B 0, B 0, B 0, B 0, B 0, B 0, B 0, B 0] := fun w1 => Is.new _ _ _
  go_enter Try.func5, Try.ntmps5
  go_wp2_with fail
  refine (oneO.recover (w.alloc (.cells (nmC m) 23)) m _ q (z, false) (HV.out.next hF.1) (by omega) HQ).mono ?_
  rintro e w1 ⟨rfl, hb1⟩
  generalize w.alloc (.cells (nmC m) 23) = W at *
  have hF1 := (hF.next hb1).alloc (.cells #[B 0, B 0, B 0, B 0, B 0, B 0, B 0, B 0] 23)
  have hm1 := (hm0.next hb1).old (.cells #[B 0, B 0, B 0, B 0, B 0, B 0, B 0, B 0] 23)
  have hl1 := (hm0.next hb1).lt
  go_wp2_with (refine wpList_store_is rfl 23 (.tmp 5) (.tmp 18) rfl w1.heap.size 23 _ (nmC z) rfl rfl (hz w1) (nmC_size _) name_info (nmC_one _) ?_; intro w2 hz2 hb2; have hF2 := hF1.step hb2 (by (have := hF.2; have := hb1.size; omega)); have hm2 := hm1.keep hb2 hl1; have cm := hm2.cell)
  refine (refO.recover w2 m _ q (z, false) (HV.out.next hF2.1) (by omega) HQ).mono ?_
  rintro e w3 ⟨rfl, hb3⟩
  have hF3 := (hF2.next hb3).alloc (.cells #[B 0, B 0, B 0, B 0, B 0, B 0, B 0, B 0] 23)
  have hz3 := (hz2.next hb3).old (.cells #[B 0, B 0, B 0, B 0, B 0, B 0, B 0, B 0] 23)
  have hl3 := (hz2.next hb3).lt
  clear cm hF1 hm1 hb1 hb2 hm2
  go_wp2_with (first
    | (refine wpList_store_is rfl 23 (.tmp 7) (.tmp 24) rfl w3.heap.size 23 _ (nmC z) rfl rfl (hz w3) (nmC_size _) name_info (nmC_one _) ?_; intro w4 hz4 hb4; have hF4 := hF3.step hb4 (by (have := hF2.2; have := hb3.size; omega)); have ca := (hz3.keep hb4 hl3).cell; have cb := hz4.cell)
    | (go_at_call 11; refine (awake_any _).mono ?_; rintro e w5 ⟨rfl, hb5⟩))
  go_ret
  exact ⟨rfl, (hF4.next hb5).1⟩

set_option maxHeartbeats 600000 in
theorem walk_all (w : World) (m : BitVec 64) (v : Value) (sig : List (BitVec 64)) (hv : VN w v sig) (hl : sig.length ≤ 17592186044160) (hs : sig.length ≤ 40) :
    Calls Try.prog 5 #[nm m, v] w fun e w' => e = .returned (.bool true) ∧ Below w.heap.size w w' := by
  obtain ⟨A, c, rfl, h1, h2, hr⟩ := hv
  have hvn : VN w (.slice A sig.length c) sig := ⟨A, c, rfl, h1, h2, hr⟩
  have hql : sig.length ≤ 40 := hs
  have s1 : ¬ (40 : Int) < (sig.length : Int) := by omega
  have s2 : (sig.length : Int) ≤ 40 := by omega
  obtain ⟨⟨z, b⟩, hq⟩ : ∃ r, recP m sig = r := ⟨_, rfl⟩
  have hb0 : b = ((sig.length : Int) == 18) := by
    unfold recP at hq
    by_cases h18 : sig.length = 18
    · rw [if_pos h18] at hq
      cases hq
      rw [h18]
      rfl
    · rw [if_neg h18] at hq
      cases hq
      rw [eq_comm, beq_eq_false_iff_ne]
      omega
  have HQ := Lib.hid hq
  have HV := Lib.hid hvn
  clear hr hvn hq
  have hzz := nmEq_self z
  have hm0 := Is.new w 23 (nmC m)
  have hF := (Fr.refl w).alloc (.cells (nmC m) 23)
  have hz : ∀ w1 : World, Is (w1.alloc (.cells #[B 0, B 0, B 0, B 0, B 0, B 0, B 0, B 0] 23)) w1.heap.size 23 #[B 0, B 0, B 0, B 0, B 0, B 0, B 0, B 0] := fun w1 => Is.new _ _ _
  go_enter Try.func5, Try.ntmps5
  go_wp2_with fail
  refine (oneO.recover (w.alloc (.cells (nmC m) 23)) m _ sig (z, b) (HV.out.next hF.1) (by omega) HQ).mono ?_
  rintro e w1 ⟨rfl, hb1⟩
  generalize w.alloc (.cells (nmC m) 23) = W at *
  have hF1 := (hF.next hb1).alloc (.cells #[B 0, B 0, B 0, B 0, B 0, B 0, B 0, B 0] 23)
  have hm1 := (hm0.next hb1).old (.cells #[B 0, B 0, B 0, B 0, B 0, B 0, B 0, B 0] 23)
  have hl1 := (hm0.next hb1).lt
  go_wp2_with (refine wpList_store_is rfl 23 (.tmp 5) (.tmp 18) rfl w1.heap.size 23 _ (nmC z) rfl rfl (hz w1) (nmC_size _) name_info (nmC_one _) ?_; intro w2 hz2 hb2; have hF2 := hF1.step hb2 (by (have := hF.2; have := hb1.size; omega)); have hm2 := hm1.keep hb2 hl1; have cm := hm2.cell)
  refine (refO.recover w2 m _ sig (z, b) (HV.out.next hF2.1) (by omega) HQ).mono ?_
  rintro e w3 ⟨rfl, hb3⟩
  have hF3 := (hF2.next hb3).alloc (.cells #[B 0, B 0, B 0, B 0, B 0, B 0, B 0, B 0] 23)
  have hz3 := (hz2.next hb3).old (.cells #[B 0, B 0, B 0, B 0, B 0, B 0, B 0, B 0] 23)
  have hl3 := (hz2.next hb3).lt
  clear cm hF1 hm1 hb1 hb2 hm2
  go_wp2_with (first
    | (refine wpList_store_is rfl 23 (.tmp 7) (.tmp 24) rfl w3.heap.size 23 _ (nmC z) rfl rfl (hz w3) (nmC_size _) name_info (nmC_one _) ?_; intro w4 hz4 hb4; have hF4 := hF3.step hb4 (by (have := hF2.2; have := hb3.size; omega)); have ca := (hz3.keep hb4 hl3).cell; have cb := hz4.cell)
    | (go_at_call 11; refine (awake_any _).mono ?_; rintro e w5 ⟨rfl, hb5⟩))
  go_ret
  exact ⟨rfl, (hF4.next hb5).1⟩

theorem walk (w : World) (m : BitVec 64) (v : Value) (sig : List (BitVec 64)) (hv : VN w v sig) (hl : sig.length ≤ 17592186044160) :
    Calls Try.prog 5 #[nm m, v] w fun e w' => e = .returned (.bool true) ∧ Below w.heap.size w w' := by
  by_cases h : 40 < sig.length
  · exact walk_cut w m v sig hv hl h
  · exact walk_all w m v sig hv hl (by omega)

set_option maxRecDepth 100000 in
/-- The law's step, at every reading. -/
theorem lifted (os : Os) (started : os.Started) (H : Type) (enc : TypeId × Value → H) :
    ReturnsInHanded {} Try.checked os 5 .any (Rows.onetimeRecoversSpec.pre6 enc Try.prog Try.f5 Rows.onetimeRecoversRow.domain false) (Rows.onetimeRecoversSpec.post enc Try.prog Try.f5 false true false false) := by
  refine law_lifted (C := Try.checked) (n := 2) (tb := 4) own started (by kernel_rfl) Try.func5 rfl (by kernel_rfl)
    (of_decide_eq_true (by kernel_rfl)) (by kernel_rfl) (by kernel_rfl) Try.underlying4
    (fun ds hd => by match ds, hd with | [_, _], _ => rfl)
    (ChangeSpec.witness6 (enc := enc) (C := Try.checked) false ⟨#[], #[.agg #[.int .u8 0, .int .u8 0, .int .u8 0, .int .u8 0, .int .u8 0, .int .u8 0, .int .u8 0, .int .u8 0], .slice none 0 0], []⟩ 8 (by kernel_rfl) (by kernel_rfl) (by kernel_rfl) (by kernel_rfl)) ?_
  intro W base args ds ps hval hA hlt hsz
  rw [Try.params5] at hA hval
  obtain ⟨v0, vs0, d0, ds0, p0, q0, hargs, rfl, rfl, h0, r0⟩ := trodAll_cons hA
  obtain ⟨v1, vs1, d1, ds1, p1, q1, rfl, rfl, rfl, h1, r1⟩ := trodAll_cons r0
  obtain ⟨rfl, rfl, rfl⟩ := trodAll_nil r1
  obtain rfl : args = #[v0, v1] := by cases args; simp_all
  obtain ⟨x0, rfl, rfl⟩ := open_name Try.underlying23 Try.underlying5 cells1 cells8 (hval 0 _ v0 rfl rfl) h0
  obtain ⟨A1, l1, c1, rfl, hc1, hm1, hr1⟩ := open_names Try.underlying30 Try.underlying23 Try.underlying5 cells1 cells8 bytes8 (hval 1 _ v1 rfl rfl) h1 (fun x hx => hlt x (by simp [hx])) hsz (j := 1) (by rw [Try.params5]; rfl) rfl
  exact walk W x0 _ l1 (VN.mk hr1 hc1 hm1) (by omega)

theorem proved : Rows.OnetimeRecoversSaid :=
  OpenClaim.holds_of_wide 5 Try.f5 rfl rfl rfl rfl rfl rfl rfl ⟨rfl, rfl, rfl, rfl, rfl⟩ rfl rfl rfl rfl rfl (by kernel_rfl) Try.func5 (by kernel_rfl)
    (of_decide_eq_true (by kernel_rfl)) (by unfold Func.isWrapper; first | (rw [if_pos (by decide +kernel)]; kernel_rfl) | (rw [if_neg (by decide +kernel)]; exact ⟨rfl, rfl⟩))
    (fun os started H enc _ => lifted os started H enc)
#print axioms proved
end Go.Proofs.Ytjfmccehiaeggaa.onetimeRecovers
