/-
  forkledgerref6: Less.
-/
import Derived.Test.YtpnmmfacnflngaaR7Conf
import Derived.Test.YtpnmmfacnflngaaR1Less
namespace Go.Proofs.Ytpnmmfacnflngaa
open Go.ChangeShapes Go.WideShapes Go.ChangeAt Go.RowKit Go.Fl

attribute [local go_sem] equal_nm eqGuard_nm

theorem rless_h (x y : BitVec 64) (r : Bool) (h : Hid (ltB x y = r)) (w : World) : Calls Try.prog 40 #[nm x, nm y] w fun e w' => e = .returned (.bool r) ∧ Below w.heap.size w w' := by
  rw [← h.out]
  exact rless_any x y w
theorem arr_info : (Try.prog.info? 53).map (·.size) = some 5 := by kernel_rfl
theorem five_cell {w : World} {g : Nat} {t : TypeId} {v : VoteV} (h : Is w g t #[.int .i64 v.slot, .int .i64 v.round, .int .i64 v.kind, .int .i64 v.signer, .int .i64 v.choice]) {k : Nat} {x : Int} (hx : (fiveF v)[k]? = some x) : w.cell? ⟨g, k, none⟩ = some (.int .i64 x) := by
  have e : #[.int .i64 v.slot, .int .i64 v.round, .int .i64 v.kind, .int .i64 v.signer, .int .i64 v.choice] = ((fiveF v).map (Value.int .i64)).toArray := rfl
  rw [h.cell k, e]
  simp [hx]

set_option maxRecDepth 10000 in
set_option maxHeartbeats 1000000 in
theorem rlessP (a b : VoteV) (w : World) (r : Bool) (hne : nmEq a.parent b.parent = false) (hr : Hid (ltB a.parent b.parent = r)) :
    Calls Try.prog 25 #[vV a, vV b] w fun e w' => e = .returned (.bool r) ∧ Below w.heap.size w w' := by
  obtain ⟨-, -, hF⟩ := twoW_facts w a b
  go_enter Try.func25, Try.ntmps25
  go_wp2_with fail
  refine (rless_h a.parent b.parent r hr (twoW w a b)).mono ?_
  rintro e w1 ⟨rfl, hb1⟩
  have hF1 := hF.next hb1
  go_wp2_with fail
  go_ret
  exact ⟨rfl, hF1.1⟩

set_option maxRecDepth 10000 in
set_option maxHeartbeats 2000000 in
theorem rlessX (a b : VoteV) (w : World) (heq : nmEq a.parent b.parent = true) (R : Bool) (z : Bool) (hz : nmEq a.value b.value = z) (l : Bool) (hl : Hid (ltB a.value b.value = l))
    (hR : Hid ((match lexI (fiveF a) (fiveF b) with | some q => q | none => if z then decide (a.sup < b.sup) else l) = R)) :
    Calls Try.prog 25 #[vV a, vV b] w fun e w' => e = .returned (.bool R) ∧ Below w.heap.size w w' := by
  obtain ⟨hA, hB, hF⟩ := twoW_facts w a b
  have hsz : (twoW w a b).heap.size = w.heap.size + 2 := by simp [twoW]
  have n5 : Is ((twoW w a b).alloc (.cells #[.int .i64 0, .int .i64 0, .int .i64 0, .int .i64 0, .int .i64 0] 53)) (w.heap.size + 2) 53 #[.int .i64 0, .int .i64 0, .int .i64 0, .int .i64 0, .int .i64 0] := Is.newAt _ _ _ hsz.symm
  have hA0 := hA.old (.cells #[.int .i64 0, .int .i64 0, .int .i64 0, .int .i64 0, .int .i64 0] 53)
  have hB0 := hB.old (.cells #[.int .i64 0, .int .i64 0, .int .i64 0, .int .i64 0, .int .i64 0] 53)
  have hF0 := hF.alloc (.cells #[.int .i64 0, .int .i64 0, .int .i64 0, .int .i64 0, .int .i64 0] 53)
  clear hA hB hF hsz
  go_enter Try.func25, Try.ntmps25
  go_wp2_with (first
    | (refine wpList_store_is rfl 53 (.tmp 5) (.tmp 28) rfl (w.heap.size + 2) 53 _ #[.int .i64 a.slot, .int .i64 a.round, .int .i64 a.kind, .int .i64 a.signer, .int .i64 a.choice] rfl rfl n5 rfl arr_info (by simp [Value.oneCell']) ?_; intro w1 hx1 hb1; have hA1 := hA0.keep hb1 (by omega); have hB1 := hB0.keep hb1 (by omega); have hF1 := hF0.step hb1 (by omega); have n6 := Is.new w1 53 #[.int .i64 0, .int .i64 0, .int .i64 0, .int .i64 0, .int .i64 0]; have kA1 := hA1.cell; have kB1 := hB1.cell; have hF1b := hF1.2; clear hA0 hB0 hF0 n5 hb1)
    | (refine wpList_store_is rfl 53 (.tmp 6) (.tmp 39) rfl w1.heap.size 53 _ #[.int .i64 b.slot, .int .i64 b.round, .int .i64 b.kind, .int .i64 b.signer, .int .i64 b.choice] rfl rfl n6 rfl arr_info (by simp [Value.oneCell']) ?_; intro w2 hy2 hb2; have hbb := ((Below.refl w1.heap.size w1).alloc (Nat.le_refl _) (.cells #[.int .i64 0, .int .i64 0, .int .i64 0, .int .i64 0, .int .i64 0] 53)).trans hb2; have hA2 := hA1.next hbb; have hB2 := hB1.next hbb; have hx2 := hx1.next hbb; have hF2 := hF1.next hbb; have hg2 : w1.heap.size < w2.heap.size := hy2.lt; have hg1 : w.heap.size + 2 < w2.heap.size := hx2.lt; clear kA1 kB1 hA1 hB1 hx1 hF1 n6 hb2 hbb))
  obtain ⟨W, hW⟩ : ∃ W, W = w2 := ⟨_, rfl⟩
  subst hW
  go_loopw [7] (fun i wr => ∃ k : Nat, k ≤ 5 ∧ i = .int .i64 (k : Int) ∧ Hid (∀ j, j < k → (fiveF a)[j]? = (fiveF b)[j]?) ∧ Below W.heap.size W wr) (fun i _ => 5 - (intOf i).toNat)
  case atStart => exact ⟨0, by omega, rfl, Lib.hid (fun j hj => by omega), Below.refl _ _⟩
  case round =>
    obtain ⟨k, hk, rfl, hsame, hBr⟩ := hrel
    by_cases hlt : k < 5
    · have s1 : (k : Int) < 5 := by omega
      have s0 : (0 : Int) ≤ (k : Int) := by omega
      obtain ⟨x, hx⟩ : ∃ x, (fiveF a)[k]? = some x := ⟨_, List.getElem?_eq_getElem (by simp [fiveF]; omega)⟩
      obtain ⟨y, hy⟩ : ∃ y, (fiveF b)[k]? = some y := ⟨_, List.getElem?_eq_getElem (by simp [fiveF]; omega)⟩
      have HX := Lib.hid (five_cell hx2 hx)
      have HY := Lib.hid (five_cell hy2 hy)
      by_cases hxy : x = y
      · have hsame2 : ∀ j, j < k + 1 → (fiveF a)[j]? = (fiveF b)[j]? := fun j hj => by
          by_cases e : j = k
          · subst e; rw [hx, hy, hxy]
          · exact hsame.out j (by omega)
        have HS := Lib.hid hsame2
        subst hxy
        clear hx hy hsame hsame2
        go_wp2_with fail
        refine wp_region_held_drew (S := fun w' => Below W.heap.size W w') (by kernel_rfl) (hBr.trans (Below.refl _ _).drew) (fun hHeld => ?_)
        refine held_pure 0 44 (.int .i64 (k : Int)) rfl (fun W => by rfl) hHeld ?_
        try simp only [Act.put, List.setIfInBounds_toArray, List.set_cons_zero, List.set_cons_succ]
        refine held_pure 1 45 (.pointer (some ⟨w.heap.size + 2, k, none⟩)) rfl (fun W => by go_simp) hHeld ?_
        try simp only [Act.put, List.setIfInBounds_toArray, List.set_cons_zero, List.set_cons_succ]
        refine held_if 2 46 (.int .i64 x) rfl (fun w' h => by (have hc := (h.cell (p := ⟨w.heap.size + 2, k, none⟩) hg1).trans HX.out; go_simp)) hHeld ?_
        try simp only [Act.put, List.setIfInBounds_toArray, List.set_cons_zero, List.set_cons_succ]
        refine held_pure 3 47 (.int .i64 (k : Int)) rfl (fun W => by rfl) hHeld ?_
        try simp only [Act.put, List.setIfInBounds_toArray, List.set_cons_zero, List.set_cons_succ]
        refine held_pure 4 48 (.pointer (some ⟨w1.heap.size, k, none⟩)) rfl (fun W => by go_simp) hHeld ?_
        try simp only [Act.put, List.setIfInBounds_toArray, List.set_cons_zero, List.set_cons_succ]
        refine held_if 5 49 (.int .i64 x) rfl (fun w' h => by (have hc := (h.cell (p := ⟨w1.heap.size, k, none⟩) hg2).trans HY.out; go_simp)) hHeld ?_
        try simp only [Act.put, List.setIfInBounds_toArray, List.set_cons_zero, List.set_cons_succ]
        refine held_pure 6 50 (.bool false) rfl (fun W => by go_simp) hHeld ?_
        try simp only [Act.put, List.setIfInBounds_toArray, List.set_cons_zero, List.set_cons_succ]
        refine wpAnyH_done (by kernel_rfl) ?_ _
        try simp only [Act.put, List.setIfInBounds_toArray, List.set_cons_zero, List.set_cons_succ]
        go_wp2_with fail
        go_roundw
        case rel => exact ⟨k + 1, by omega, by go_num, HS, hHeld⟩
        case measure => simp [intOf]; omega
      · have hlex := lexI_at k _ _ x y hsame.out hx hy hxy
        have hRr : decide (x < y) = R := by have h := hR.out; rw [hlex] at h; exact h
        have hne := beq_eq_false_iff_ne.2 hxy
        clear hx hy hsame hlex
        go_wp2_with fail
        refine wp_region_held_drew (S := fun w' => Below W.heap.size W w') (by kernel_rfl) (hBr.trans (Below.refl _ _).drew) (fun hHeld => ?_)
        refine held_pure 0 44 (.int .i64 (k : Int)) rfl (fun W => by rfl) hHeld ?_
        try simp only [Act.put, List.setIfInBounds_toArray, List.set_cons_zero, List.set_cons_succ]
        refine held_pure 1 45 (.pointer (some ⟨w.heap.size + 2, k, none⟩)) rfl (fun W => by go_simp) hHeld ?_
        try simp only [Act.put, List.setIfInBounds_toArray, List.set_cons_zero, List.set_cons_succ]
        refine held_if 2 46 (.int .i64 x) rfl (fun w' h => by (have hc := (h.cell (p := ⟨w.heap.size + 2, k, none⟩) hg1).trans HX.out; go_simp)) hHeld ?_
        try simp only [Act.put, List.setIfInBounds_toArray, List.set_cons_zero, List.set_cons_succ]
        refine held_pure 3 47 (.int .i64 (k : Int)) rfl (fun W => by rfl) hHeld ?_
        try simp only [Act.put, List.setIfInBounds_toArray, List.set_cons_zero, List.set_cons_succ]
        refine held_pure 4 48 (.pointer (some ⟨w1.heap.size, k, none⟩)) rfl (fun W => by go_simp) hHeld ?_
        try simp only [Act.put, List.setIfInBounds_toArray, List.set_cons_zero, List.set_cons_succ]
        refine held_if 5 49 (.int .i64 y) rfl (fun w' h => by (have hc := (h.cell (p := ⟨w1.heap.size, k, none⟩) hg2).trans HY.out; go_simp)) hHeld ?_
        try simp only [Act.put, List.setIfInBounds_toArray, List.set_cons_zero, List.set_cons_succ]
        refine held_pure 6 50 (.bool true) rfl (fun W => by go_simp) hHeld ?_
        try simp only [Act.put, List.setIfInBounds_toArray, List.set_cons_zero, List.set_cons_succ]
        refine wpAnyH_done (by kernel_rfl) ?_ _
        try simp only [Act.put, List.setIfInBounds_toArray, List.set_cons_zero, List.set_cons_succ]
        go_wp2_with fail
        refine wp_region_held_drew (S := fun w' => Below W.heap.size W w') (by kernel_rfl) (hHeld.trans (Below.refl _ _).drew) (fun hG => ?_)
        refine held_pure 0 51 (.int .i64 (k : Int)) rfl (fun W => by rfl) hG ?_
        try simp only [Act.put, List.setIfInBounds_toArray, List.set_cons_zero, List.set_cons_succ]
        refine held_pure 1 52 (.pointer (some ⟨w.heap.size + 2, k, none⟩)) rfl (fun W => by go_simp) hG ?_
        try simp only [Act.put, List.setIfInBounds_toArray, List.set_cons_zero, List.set_cons_succ]
        refine held_if 2 53 (.int .i64 x) rfl (fun w' h => by (have hc := (h.cell (p := ⟨w.heap.size + 2, k, none⟩) hg1).trans HX.out; go_simp)) hG ?_
        try simp only [Act.put, List.setIfInBounds_toArray, List.set_cons_zero, List.set_cons_succ]
        refine held_pure 3 54 (.int .i64 (k : Int)) rfl (fun W => by rfl) hG ?_
        try simp only [Act.put, List.setIfInBounds_toArray, List.set_cons_zero, List.set_cons_succ]
        refine held_pure 4 55 (.pointer (some ⟨w1.heap.size, k, none⟩)) rfl (fun W => by go_simp) hG ?_
        try simp only [Act.put, List.setIfInBounds_toArray, List.set_cons_zero, List.set_cons_succ]
        refine held_if 5 56 (.int .i64 y) rfl (fun w' h => by (have hc := (h.cell (p := ⟨w1.heap.size, k, none⟩) hg2).trans HY.out; go_simp)) hG ?_
        try simp only [Act.put, List.setIfInBounds_toArray, List.set_cons_zero, List.set_cons_succ]
        refine held_pure 6 57 (.bool (decide (x < y))) rfl (fun W => by go_simp) hG ?_
        try simp only [Act.put, List.setIfInBounds_toArray, List.set_cons_zero, List.set_cons_succ]
        refine held_pure 7 4 (.bool (decide (x < y))) rfl (fun W => by rfl) hG ?_
        try simp only [Act.put, List.setIfInBounds_toArray, List.set_cons_zero, List.set_cons_succ]
        refine wpAnyH_done (by kernel_rfl) ?_ _
        try simp only [Act.put, List.setIfInBounds_toArray, List.set_cons_zero, List.set_cons_succ]
        go_wp2_with fail
        go_ret
        exact ⟨by rw [← hRr]; rfl, hF2.1.trans (hG.mono (by have := hF2.2; omega))⟩
    · obtain rfl : k = 5 := by omega
      have hlex : lexI (fiveF a) (fiveF b) = none := by
        have e : fiveF a = fiveF b := List.ext_getElem? fun j => by
          by_cases hj : j < 5
          · exact hsame.out j hj
          · rw [List.getElem?_eq_none (by simp [fiveF]; omega), List.getElem?_eq_none (by simp [fiveF]; omega)]
        rw [e]
        exact lexI_self _
      have hRr : (if z then decide (a.sup < b.sup) else l) = R := by have h := hR.out; rw [hlex] at h; exact h
      have kA := (hA2.next hBr).cell
      have kB := (hB2.next hBr).cell
      clear hsame hlex
      cases z with
      | true =>
        have hRr2 : decide (a.sup < b.sup) = R := hRr
        clear hRr
        go_wp2_with fail
        go_ret
        exact ⟨by rw [← hRr2]; rfl, hF2.1.trans (hBr.mono (by have := hF2.2; omega))⟩
      | false =>
        have hRr2 : l = R := hRr
        clear hRr
        subst hRr2
        go_wp2_with fail
        refine (rless_h a.value b.value l hl _).mono ?_
        rintro e w3 ⟨rfl, hb3⟩
        go_wp2_with fail
        go_ret
        exact ⟨rfl, hF2.1.trans ((hBr.trans (hb3.mono hBr.size)).mono (by have := hF2.2; omega))⟩

theorem rless7_any (a b : VoteV) (w : World) : Calls Try.prog 25 #[vV a, vV b] w fun e w' => e = .returned (.bool (lessF a b)) ∧ Below w.heap.size w w' := by
  unfold lessF
  by_cases hp : a.parent = b.parent
  · rw [if_pos hp]
    refine rlessX a b w (by rw [hp]; exact nmEq_self _) _ (nmEq a.value b.value) rfl _ rfl ?_
    refine Lib.hid ?_
    cases lexI (fiveF a) (fiveF b) with
    | some q => rfl
    | none =>
      by_cases hv : a.value = b.value
      · rw [if_pos hv, show nmEq a.value b.value = true by rw [hv]; exact nmEq_self _]; rfl
      · rw [if_neg hv, nmEq_ne hv]; rfl
  · rw [if_neg hp]
    exact rlessP a b w _ (nmEq_ne hp) rfl
end Go.Proofs.Ytpnmmfacnflngaa
