/-
  Votes: what the laws of layer 7 say of the plain functions: conflict, the order, the bytes.
-/
import Derived.Test.YtpnmmfacnflngaaVoteS
namespace Go.Fl
open Go.ChangeShapes Go.WideShapes Go.ChangeAt Go.RowKit

theorem sameF_self (a : VoteV) : sameF a a = true := by simp [sameF]
theorem sameF_symm (a b : VoteV) : sameF a b = sameF b a := by
  unfold sameF
  rw [Bool.eq_iff_iff, decide_eq_true_iff, decide_eq_true_iff]
  constructor <;> rintro ⟨h1, h2, h3, h4, h5⟩ <;> exact ⟨h1.symm, h2.symm, h3.symm, h4.symm, h5.symm⟩
theorem conflictF_symm (a b : VoteV) : conflictF a b = conflictF b a := by
  unfold conflictF
  rw [sameF_symm a b, Bool.and_comm (validF a), show decide (a = b) = decide (b = a) by rw [Bool.eq_iff_iff, decide_eq_true_iff, decide_eq_true_iff]; exact ⟨Eq.symm, Eq.symm⟩]
theorem conflictF_self (a : VoteV) : conflictF a a = false := by simp [conflictF]
theorem conflictF_yes {a b : VoteV} (h : conflictF a b = true) : a.signer = b.signer ∧ a ≠ b := by
  simp only [conflictF, sameF, Bool.and_eq_true, decide_eq_true_eq, Bool.not_eq_true', decide_eq_false_iff_not] at h
  exact ⟨h.1.2.2.2.2.2, h.2⟩

/-! ### The order -/
def votK (v : VoteV) : List Int := [iu v.parent, v.slot, v.round, v.kind, v.signer, v.choice, iu v.value, v.sup]
theorem lexI_cons (x y : Int) (X Y : List Int) : lexI (x :: X) (y :: Y) = if x = y then lexI X Y else some (decide (x < y)) := rfl
theorem lexI_app (X Y X2 Y2 : List Int) (h : X.length = Y.length) : lexI (X ++ X2) (Y ++ Y2) = match lexI X Y with | some r => some r | none => lexI X2 Y2 := by
  induction X generalizing Y with
  | nil =>
    cases Y with
    | nil => rfl
    | cons y Y => simp at h
  | cons x X ih =>
    cases Y with
    | nil => simp at h
    | cons y Y =>
      rw [List.cons_append, List.cons_append, lexI_cons, lexI_cons]
      by_cases e : x = y
      · rw [if_pos e, if_pos e]
        exact ih Y (by simpa using h)
      · rw [if_neg e, if_neg e]
theorem lexI_eq : ∀ (X Y : List Int), X.length = Y.length → lexI X Y = none → X = Y := by
  intro X
  induction X with
  | nil =>
    intro Y h _
    cases Y with
    | nil => rfl
    | cons y Y => simp at h
  | cons x X ih =>
    intro Y h hn
    cases Y with
    | nil => simp at h
    | cons y Y =>
      rw [lexI_cons] at hn
      by_cases e : x = y
      · rw [if_pos e] at hn
        rw [e, ih Y (by simpa using h) hn]
      · rw [if_neg e] at hn
        cases hn
theorem lexI_flip : ∀ (X Y : List Int) (r : Bool), lexI X Y = some r → lexI Y X = some (!r) := by
  intro X
  induction X with
  | nil => intro Y r h; cases Y <;> cases h
  | cons x X ih =>
    intro Y r h
    cases Y with
    | nil => cases h
    | cons y Y =>
      rw [lexI_cons] at h ⊢
      by_cases e : x = y
      · rw [if_pos e] at h
        rw [if_pos e.symm]
        exact ih Y r h
      · rw [if_neg e] at h
        rw [if_neg (fun h => e h.symm)]
        injection h with h
        subst h
        congr 1
        by_cases h2 : x < y
        · rw [decide_eq_true h2, decide_eq_false (by omega)]
          rfl
        · rw [decide_eq_false h2, decide_eq_true (by omega)]
          rfl
theorem lexI_trans : ∀ (X Y Z : List Int), lexI X Y = some true → lexI Y Z = some true → lexI X Z = some true := by
  intro X
  induction X with
  | nil => intro Y Z h; cases Y <;> cases h
  | cons x X ih =>
    intro Y Z h1 h2
    cases Y with
    | nil => cases h1
    | cons y Y =>
      cases Z with
      | nil => cases h2
      | cons z Z =>
        rw [lexI_cons] at h1 h2 ⊢
        by_cases e1 : x = y
        · rw [if_pos e1] at h1
          subst e1
          by_cases e2 : x = z
          · rw [if_pos e2] at h2 ⊢
            exact ih Y Z h1 h2
          · rw [if_neg e2] at h2 ⊢
            exact h2
        · rw [if_neg e1] at h1
          injection h1 with h1
          have h1 := of_decide_eq_true h1
          by_cases e2 : y = z
          · subst e2
            rw [if_neg e1, decide_eq_true h1]
          · rw [if_neg e2] at h2
            injection h2 with h2
            have h2 := of_decide_eq_true h2
            rw [if_neg (by omega), decide_eq_true (by omega)]
/-- What lies between two lists of one beginning begins so. -/
theorem lexI_mid : ∀ (k : Nat) (X Y Z : List Int), lexI X Y = some true → lexI Y Z = some true → X.take k = Z.take k → Y.take k = X.take k := by
  intro k
  induction k with
  | zero => intro X Y Z _ _ _; simp
  | succ k ih =>
    intro X Y Z h1 h2 h
    cases X with
    | nil => cases Y <;> cases h1
    | cons x X =>
      cases Y with
      | nil => cases h1
      | cons y Y =>
        cases Z with
        | nil => cases h2
        | cons z Z =>
          simp only [List.take_succ_cons, List.cons.injEq] at h
          rw [lexI_cons] at h1 h2
          by_cases e1 : x = y
          · subst e1
            rw [if_pos rfl] at h1
            rw [if_pos h.1] at h2
            simp only [List.take_succ_cons, List.cons.injEq]
            exact ⟨trivial, ih X Y Z h1 h2 h.2⟩
          · rw [if_neg e1] at h1
            injection h1 with h1
            have h1 := of_decide_eq_true h1
            by_cases e2 : y = z
            · omega
            · rw [if_neg e2] at h2
              injection h2 with h2
              have h2 := of_decide_eq_true h2
              omega
theorem lexI_iu (x y : BitVec 64) (X Y : List Int) : lexI (iu x :: X) (iu y :: Y) = if x = y then lexI X Y else some (ltB x y) := by
  rw [lexI_cons]
  by_cases e : x = y
  · subst e
    rw [if_pos rfl, if_pos rfl]
  · rw [if_neg (fun h => e (iu_inj h)), if_neg e]
    rfl
theorem lessF_lex (a b : VoteV) : lessF a b = decide (lexI (votK a) (votK b) = some true) := by
  have e : ∀ v : VoteV, votK v = [iu v.parent] ++ (fiveF v ++ [iu v.value, v.sup]) := fun v => rfl
  rw [e, e, lexI_app [iu a.parent] [iu b.parent] _ _ rfl, lexI_iu]
  unfold lessF
  by_cases h1 : a.parent = b.parent
  · rw [if_pos h1, if_pos h1]
    show _ = decide (lexI (fiveF a ++ _) (fiveF b ++ _) = some true)
    rw [lexI_app (fiveF a) (fiveF b) _ _ rfl]
    cases h2 : lexI (fiveF a) (fiveF b) with
    | some r => cases r <;> rfl
    | none =>
      show _ = decide (lexI [iu a.value, a.sup] [iu b.value, b.sup] = some true)
      rw [lexI_iu, lexI_cons]
      by_cases h3 : a.value = b.value
      · rw [if_pos h3, if_pos h3]
        by_cases h4 : a.sup = b.sup
        · rw [if_pos h4]
          show decide (a.sup < b.sup) = false
          rw [decide_eq_false (by omega)]
        · rw [if_neg h4]
          by_cases h5 : a.sup < b.sup <;> simp [h5]
      · rw [if_neg h3, if_neg h3]
        unfold ltB
        by_cases h5 : iu a.value < iu b.value <;> simp [h5]
  · rw [if_neg h1, if_neg h1]
    unfold ltB
    by_cases h5 : iu a.parent < iu b.parent <;> simp [h5]
theorem votK_inj {a b : VoteV} (h : votK a = votK b) : a = b := by
  simp only [votK, List.cons.injEq] at h
  obtain ⟨h1, h2, h3, h4, h5, h6, h7, h8, -⟩ := h
  have e1 := iu_inj h1
  have e7 := iu_inj h7
  cases a
  cases b
  simp_all
theorem lessF_self (a : VoteV) : lessF a a = false := by
  rw [lessF_lex, lexI_self]
  rfl
theorem lessF_asym {a b : VoteV} (h : lessF a b = true) : lessF b a = false := by
  rw [lessF_lex] at h ⊢
  rw [lexI_flip _ _ _ (of_decide_eq_true h)]
  rfl
theorem lessF_total {a b : VoteV} (hne : a ≠ b) (h : lessF a b = false) : lessF b a = true := by
  rw [lessF_lex] at h ⊢
  cases e : lexI (votK a) (votK b) with
  | none => exact absurd (votK_inj (lexI_eq (votK a) (votK b) rfl e)) hne
  | some r =>
    cases r with
    | true => rw [e] at h; cases h
    | false => rw [lexI_flip _ _ _ e]; rfl
theorem lessF_trans {a b c : VoteV} (h1 : lessF a b = true) (h2 : lessF b c = true) : lessF a c = true := by
  rw [lessF_lex] at h1 h2 ⊢
  exact decide_eq_true (lexI_trans _ _ _ (of_decide_eq_true h1) (of_decide_eq_true h2))
theorem sameF_take (a b : VoteV) : sameF a b = true ↔ (votK a).take 5 = (votK b).take 5 := by
  simp only [sameF, votK, List.take_succ_cons, List.take_zero, List.cons.injEq, decide_eq_true_eq, and_true]
  constructor
  · rintro ⟨h1, h2, h3, h4, h5⟩
    exact ⟨by rw [h2], h3, h4, h1, h5⟩
  · rintro ⟨h2, h3, h4, h1, h5⟩
    exact ⟨h1, iu_inj h2, h3, h4, h5⟩
theorem same_mid {a b c : VoteV} (h1 : lessF a b = true) (h2 : lessF b c = true) (h : sameF a c = true) : sameF a b = true ∧ sameF b c = true := by
  rw [lessF_lex] at h1 h2
  rw [sameF_take] at h
  have hm := lexI_mid 5 _ _ _ (of_decide_eq_true h1) (of_decide_eq_true h2) h
  exact ⟨(sameF_take a b).2 hm.symm, (sameF_take b c).2 (hm.trans h)⟩

/-! ### The bytes -/
theorem wordOf_nm (x : BitVec 64) (r : List UInt8) : wordOf (nmL x ++ r) = x := by
  refine nm_inj fun i hi => ?_
  rw [nb_wordOf _ i hi, List.getD_eq_getElem?_getD, List.getElem?_append_left (by simpa [nmL] using hi)]
  have : i = 0 ∨ i = 1 ∨ i = 2 ∨ i = 3 ∨ i = 4 ∨ i = 5 ∨ i = 6 ∨ i = 7 := by omega
  rcases this with rfl | rfl | rfl | rfl | rfl | rfl | rfl | rfl <;> rfl
theorem voteOf_enc {v : VoteV} (h : validF v = true) : voteOf (encF v) = v := by
  have hr := valid_ranges h
  have hs : 0 ≤ v.sup ∧ v.sup < 1024 := (of_decide_eq_true (p := ValidP v) h).2.2.1
  have e1 : (encF v).drop 7 = nmL v.parent ++ nmL v.value := rfl
  have e2 : (encF v).drop 15 = nmL v.value ++ [] := rfl
  unfold voteOf
  rw [e1, e2, wordOf_nm, wordOf_nm]
  have g0 : (encF v).getD 0 0 = by_ v.kind := rfl
  have g1 : (encF v).getD 1 0 = by_ v.slot := rfl
  have g2 : (encF v).getD 2 0 = by_ v.round := rfl
  have g3 : (encF v).getD 3 0 = by_ v.choice := rfl
  have g4 : (encF v).getD 4 0 = by_ v.signer := rfl
  have g5 : (encF v).getD 5 0 = by_ (v.sup / 256) := rfl
  have g6 : (encF v).getD 6 0 = by_ (v.sup % 256) := rfl
  rw [g0, g1, g2, g3, g4, g5, g6, ub_by (by omega) (by omega), ub_by (by omega) (by omega), ub_by (by omega) (by omega), ub_by (by omega) (by omega), ub_by (by omega) (by omega), ub_by (by omega) (by omega), ub_by (by omega) (by omega)]
  rw [show v.sup / 256 * 256 + v.sup % 256 = v.sup by omega]
theorem by_ub (b : UInt8) : by_ (ub b) = b := by
  unfold by_ ub
  simp
theorem enc_voteOf {l : List UInt8} (h : l.length = 23) : encF (voteOf l) = l := by
  obtain ⟨b0, b1, b2, b3, b4, b5, b6, b7, b8, b9, b10, b11, b12, b13, b14, b15, b16, b17, b18, b19, b20, b21, b22, rfl⟩ := list_23 l h
  have h5 := ub_lo b5
  have h6 := ub_lo b6
  have h7 := ub_hi b6
  have e1 : nmL (wordOf [b7, b8, b9, b10, b11, b12, b13, b14, b15, b16, b17, b18, b19, b20, b21, b22]) = [b7, b8, b9, b10, b11, b12, b13, b14] := nmL_wordOf _
  have e2 : nmL (wordOf [b15, b16, b17, b18, b19, b20, b21, b22]) = [b15, b16, b17, b18, b19, b20, b21, b22] := nmL_wordOf _
  show [by_ (ub b0), by_ (ub b1), by_ (ub b2), by_ (ub b3), by_ (ub b4), by_ ((ub b5 * 256 + ub b6) / 256), by_ ((ub b5 * 256 + ub b6) % 256)] ++ nmL (wordOf [b7, b8, b9, b10, b11, b12, b13, b14, b15, b16, b17, b18, b19, b20, b21, b22]) ++ nmL (wordOf [b15, b16, b17, b18, b19, b20, b21, b22]) = _
  rw [e1, e2, show (ub b5 * 256 + ub b6) / 256 = ub b5 by omega, show (ub b5 * 256 + ub b6) % 256 = ub b6 by omega]
  simp only [by_ub]
  rfl
theorem decF_enc {v : VoteV} (h : validF v = true) : decF (encF v) = (v, 0) := by
  unfold decF
  rw [encF_len, if_neg (by omega), if_neg (by omega), voteOf_enc h, if_pos h]
theorem decF_ok {l : List UInt8} (h : (decF l).2 = 0) : validF (decF l).1 = true ∧ encF (decF l).1 = l := by
  unfold decF at h ⊢
  split at h
  · cases h
  · rename_i h1
    split at h
    · cases h
    · rename_i h2
      split at h
      · rename_i h3
        rw [if_neg h1, if_neg h2, if_pos h3]
        exact ⟨h3, enc_voteOf (by omega)⟩
      · cases h
theorem encF_inj {a b : VoteV} (ha : validF a = true) (hb : validF b = true) (h : encF a = encF b) : a = b := by
  rw [← voteOf_enc ha, ← voteOf_enc hb, h]
theorem decF_I (l : List UInt8) : (decF l).1.I := by
  have h0 : VoteV.I ⟨0, 0, 0, 0, 0, 0, 0, 0⟩ := ⟨⟨by decide, by decide⟩, ⟨by decide, by decide⟩, ⟨by decide, by decide⟩, ⟨by decide, by decide⟩, ⟨by decide, by decide⟩, ⟨by decide, by decide⟩⟩
  unfold decF
  split
  · exact h0
  · split
    · exact h0
    · split
      · exact voteOf_I l
      · exact h0
end Go.Fl
