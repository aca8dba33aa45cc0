/-
  The statement OnetimeGuards, proved for every pair of names, with no condition: of two unlike names some digit of the first is less than that of the second, and some other digit is greater.
-/
import Derived.Test.YtjfmccehiaeggaaLaw4A
import Derived.Test.YtjfmccehiaeggaaGuard
namespace Go.Proofs.Ytjfmccehiaeggaa.onetimeGuards
open Go.ChangeShapes Go.WideShapes Go.ChangeAt Go.RowKit Go.Fl

attribute [local go_sem] equal_nm eqGuard_nm

def lessF (a b : BitVec 64) (k : Nat) : Bool := decide (∃ i, i < k ∧ (digF a).getD i 0 < (digF b).getD i 0)
theorem lessF_zero (a b : BitVec 64) : lessF a b 0 = false := by simp [lessF]
theorem lessF_step {a b : BitVec 64} {k d e : Nat} (hd : (digF a)[k]? = some d) (he : (digF b)[k]? = some e) : lessF a b (k + 1) = (lessF a b k || decide (d < e)) := by
  have h1 : (digF a).getD k 0 = d := by rw [List.getD_eq_getElem?_getD, hd]; rfl
  have h2 : (digF b).getD k 0 = e := by rw [List.getD_eq_getElem?_getD, he]; rfl
  rw [Bool.eq_iff_iff]
  simp only [lessF, Bool.or_eq_true, decide_eq_true_eq]
  constructor
  · rintro ⟨i, hi, h⟩
    by_cases hk : i < k
    · exact Or.inl ⟨i, hk, h⟩
    · obtain rfl : i = k := by omega
      rw [h1, h2] at h
      exact Or.inr h
  · rintro (⟨i, hi, h⟩ | h)
    · exact ⟨i, by omega, h⟩
    · exact ⟨k, by omega, by rw [h1, h2]; exact h⟩
theorem lessF_all (a b : BitVec 64) : lessF a b 18 = !nmEq a b := by
  by_cases h : a = b
  · subst h
    rw [nmEq_self, lessF]
    simp
  · rw [nmEq_ne h, lessF]
    obtain ⟨i, hi, hlt⟩ := guards h
    simp only [Bool.not_false, decide_eq_true_eq]
    exact ⟨i, hi, hlt⟩

set_option maxHeartbeats 1000000 in
theorem walk (w : World) (a b : BitVec 64) :
    Calls Try.prog 7 #[nm a, nm b] w fun e w' => e = .returned (.bool true) ∧ Below w.heap.size w w' := by
  obtain ⟨ha0, hb0, hF⟩ := signW_facts w a b
  go_enter Try.func7, Try.ntmps7
  go_wp2
  change Code.wp _ _ _ _ (signW w a b)
  generalize signW w a b = W at *
  refine wp_region_held_drew (S := fun w' => Is w' w.heap.size 23 (nmC a) ∧ Is w' (w.heap.size + 1) 23 (nmC b) ∧ Fr w 2 w') (by kernel_rfl) ⟨ha0.drew, hb0.drew, hF.drew⟩ (fun hHeld => ?_)
  refine held_load 0 10 rfl 23 (.tmp 2) rfl w.heap.size 0 rfl (nmR a) (fun w' h => range_is (cs := nmR a) h.1) Try.underlying23 name_info hHeld ?_
  try simp only [Act.put, List.setIfInBounds_toArray, List.set_cons_zero, List.set_cons_succ]
  refine held_load 2 12 rfl 23 (.tmp 3) rfl (w.heap.size + 1) 0 rfl (nmR b) (fun w' h => range_is (cs := nmR b) h.2.1) Try.underlying23 name_info hHeld ?_
  try simp only [Act.put, List.setIfInBounds_toArray, List.set_cons_zero, List.set_cons_succ]
  refine held_one (i := 1) (by kernel_rfl) rfl (by rfl) (fun KK hK => ?_)
  go_wp2_with fail
  refine (oneO.digits _ a).mono ?_
  rintro e w1 ⟨v1, rfl, ho1, hb⟩
  obtain ⟨A1, n1, c1, rfl, hn1, hc1, hm1, hri1⟩ := ho1.form_n
  have hn1 := hn1.out
  rw [digF_len] at hn1 hc1
  subst hn1
  obtain ⟨g1, off1, rfl, hg1, hdc1⟩ := hri1.out (by rw [digF_len]; omega)
  have HD1 := Lib.hid hdc1
  clear ho1 hri1 hdc1
  go_wp2_with fail
  refine hK.out _ _ ⟨hHeld.1.next hb, hHeld.2.1.next hb, hHeld.2.2.next hb⟩ (fun hHeld1 => ?_)
  clear hK KK
  try simp only [Act.put, List.setIfInBounds_toArray, List.set_cons_zero, List.set_cons_succ]
  refine held_one (i := 3) (by kernel_rfl) rfl (by rfl) (fun KK hK => ?_)
  go_wp2_with fail
  refine (oneO.digits _ b).mono ?_
  rintro e w2 ⟨v2, rfl, ho2, hbb⟩
  obtain ⟨A2, n2, c2, rfl, hn2, hc2, hm2, hri2⟩ := ho2.form_n
  have hn2 := hn2.out
  rw [digF_len] at hn2 hc2
  subst hn2
  obtain ⟨g2, off2, rfl, hg2, hdc2⟩ := hri2.out (by rw [digF_len]; omega)
  have HD2 := Lib.hid hdc2
  clear ho2 hri2 hdc2
  go_wp2_with fail
  refine hK.out _ _ ⟨hHeld1.1.next hbb, hHeld1.2.1.next hbb, hHeld1.2.2.next hbb⟩ (fun hHeld2 => ?_)
  clear hK KK
  try simp only [Act.put, List.setIfInBounds_toArray, List.set_cons_zero, List.set_cons_succ]
  refine held_pure 4 5 (.slice (some ⟨g1, off1, none⟩) 18 c1) rfl (fun W => by rfl) hHeld2 ?_
  try simp only [Act.put, List.setIfInBounds_toArray, List.set_cons_zero, List.set_cons_succ]
  refine held_pure 5 6 (.slice (some ⟨g2, off2, none⟩) 18 c2) rfl (fun W => by rfl) hHeld2 ?_
  try simp only [Act.put, List.setIfInBounds_toArray, List.set_cons_zero, List.set_cons_succ]
  refine wpAnyH_done (by kernel_rfl) ?_ _
  try simp only [Act.put, List.setIfInBounds_toArray, List.set_cons_zero, List.set_cons_succ]
  have hF2 := hHeld2.2.2
  have ia := hHeld2.1
  have ib := hHeld2.2.1
  have hbs := hbb.size
  go_wp2_with fail
  go_loopw [7, 8, 9] (fun l m i wr => ∃ (k : Nat) (lb mb : Bool), k ≤ 18 ∧ i = .int .i64 (k : Int) ∧ l = .bool lb ∧ m = .bool mb ∧ Hid (lb = lessF a b k) ∧ Hid (mb = lessF b a k) ∧ Below w2.heap.size w2 wr) (fun _ _ i _ => 18 - (intOf i).toNat)
  case atStart => exact ⟨0, false, false, by omega, rfl, rfl, rfl, Lib.hid (lessF_zero a b).symm, Lib.hid (lessF_zero b a).symm, Below.refl _ _⟩
  case round =>
    obtain ⟨k, lb, mb, hk, rfl, rfl, rfl, hlb, hmb, hBr⟩ := hrel
    have g1r : g1 < w2.heap.size := by omega
    by_cases hlt : k < 18
    · obtain ⟨d, hd⟩ : ∃ d, (digF a)[k]? = some d := ⟨_, List.getElem?_eq_getElem (by rw [digF_len]; exact hlt)⟩
      obtain ⟨e, he⟩ : ∃ e, (digF b)[k]? = some e := ⟨_, List.getElem?_eq_getElem (by rw [digF_len]; exact hlt)⟩
      have c1' : wr.cell? ⟨g1, off1 + k, none⟩ = some (.int .i64 (d : Int)) := (hBr.cell g1r).trans ((hbb.cell hg1).trans (HD1.out k d hd))
      have c2' : wr.cell? ⟨g2, off2 + k, none⟩ = some (.int .i64 (e : Int)) := (hBr.cell hg2).trans (HD2.out k e he)
      have s1 : (k : Int) < 18 := by omega
      have s0 : (0 : Int) ≤ (k : Int) := by omega
      have st1 := lessF_step hd he
      have st2 := lessF_step he hd
      rw [← hlb.out] at st1
      rw [← hmb.out] at st2
      have ST1 := Lib.hid st1
      have ST2 := Lib.hid st2
      have e1 : decide ((d : Int) < (e : Int)) = decide (d < e) := by rw [Bool.eq_iff_iff]; simp
      have e2 : decide ((e : Int) < (d : Int)) = decide (e < d) := by rw [Bool.eq_iff_iff]; simp
      clear hd he st1 st2 hlb hmb
      cases lb <;> cases mb
      all_goals go_wp2
      all_goals go_quiet (fail)
      all_goals go_wp2
      all_goals go_roundw
      all_goals first
        | exact ⟨k + 1, _, _, by omega, by go_num, rfl, rfl, Lib.hid (by rw [ST1.out]; rfl), Lib.hid (by rw [ST2.out]; rfl), hBr.trans (fl_drewN _ _ _)⟩
        | (simp [intOf]; omega)
    · obtain rfl : k = 18 := by omega
      have h1 := hlb.out
      have h2 := hmb.out
      rw [lessF_all] at h1 h2
      have ca := (ia.next hBr).cell
      have cb := (ib.next hBr).cell
      by_cases hab : a = b
      · subst hab
        rw [nmEq_self] at h1 h2
        subst h1 h2
        have hs := nmEq_self a
        clear hlb hmb
        go_wp2_with (go_at_call 11; refine (awake_any _).mono ?_; rintro e w5 ⟨rfl, hb5⟩)
        go_ret
        exact ⟨rfl, hF2.1.trans ((hBr.trans (hb5.mono hBr.size)).mono (by have := hF2.2; omega))⟩
      · have hba : b ≠ a := fun h => hab h.symm
        rw [nmEq_ne hab] at h1
        rw [nmEq_ne hba] at h2
        subst h1 h2
        have hs := nmEq_ne hab
        clear hlb hmb
        go_wp2_with (go_at_call 11; refine (awake_any _).mono ?_; rintro e w5 ⟨rfl, hb5⟩)
        go_ret
        exact ⟨rfl, hF2.1.trans ((hBr.trans (hb5.mono hBr.size)).mono (by have := hF2.2; omega))⟩

set_option maxRecDepth 100000 in
/-- The law's step, at every reading. -/
theorem lifted (os : Os) (started : os.Started) (H : Type) (enc : TypeId × Value → H) :
    ReturnsInHanded {} Try.checked os 7 .any (Rows.onetimeGuardsSpec.pre6 enc Try.prog Try.f7 Rows.onetimeGuardsRow.domain false) (Rows.onetimeGuardsSpec.post enc Try.prog Try.f7 false true false false) := by
  refine law_lifted (C := Try.checked) (n := 2) (tb := 4) own started (by kernel_rfl) Try.func7 rfl (by kernel_rfl)
    (of_decide_eq_true (by kernel_rfl)) (by kernel_rfl) (by kernel_rfl) Try.underlying4
    (fun ds hd => by match ds, hd with | [_, _], _ => rfl)
    (ChangeSpec.witness6 (enc := enc) (C := Try.checked) false ⟨#[], #[.agg #[.int .u8 0, .int .u8 0, .int .u8 0, .int .u8 0, .int .u8 0, .int .u8 0, .int .u8 0, .int .u8 0], .agg #[.int .u8 0, .int .u8 0, .int .u8 0, .int .u8 0, .int .u8 0, .int .u8 0, .int .u8 0, .int .u8 0]], []⟩ 8 (by kernel_rfl) (by kernel_rfl) (by kernel_rfl) (by kernel_rfl)) ?_
  intro W base args ds ps hval hA hlt hsz
  rw [Try.params7] at hA hval
  obtain ⟨v0, vs0, d0, ds0, p0, q0, hargs, rfl, rfl, h0, r0⟩ := trodAll_cons hA
  obtain ⟨v1, vs1, d1, ds1, p1, q1, rfl, rfl, rfl, h1, r1⟩ := trodAll_cons r0
  obtain ⟨rfl, rfl, rfl⟩ := trodAll_nil r1
  obtain rfl : args = #[v0, v1] := by cases args; simp_all
  obtain ⟨x0, rfl, rfl⟩ := open_name Try.underlying23 Try.underlying5 cells1 cells8 (hval 0 _ v0 rfl rfl) h0
  obtain ⟨x1, rfl, rfl⟩ := open_name Try.underlying23 Try.underlying5 cells1 cells8 (hval 1 _ v1 rfl rfl) h1
  exact walk W x0 x1

theorem proved : Rows.OnetimeGuardsSaid :=
  OpenClaim.holds_of_wide 7 Try.f7 rfl rfl rfl rfl rfl rfl rfl ⟨rfl, rfl, rfl, rfl, rfl⟩ rfl rfl rfl rfl rfl (by kernel_rfl) Try.func7 (by kernel_rfl)
    (of_decide_eq_true (by kernel_rfl)) (by unfold Func.isWrapper; first | (rw [if_pos (by decide +kernel)]; kernel_rfl) | (rw [if_neg (by decide +kernel)]; exact ⟨rfl, rfl⟩))
    (fun os started H enc _ => lifted os started H enc)
#print axioms proved
end Go.Proofs.Ytjfmccehiaeggaa.onetimeGuards
