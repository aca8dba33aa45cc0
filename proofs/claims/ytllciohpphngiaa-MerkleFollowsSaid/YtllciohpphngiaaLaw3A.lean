/-
  The small functions beside the laws of layer 3: same, cut, awake.
-/
import Derived.Test.YtllciohpphngiaaMerkle
import Derived.BigQuiet
namespace Go.Fl
open Go.ChangeShapes Go.WideShapes Go.ChangeAt Go.RowKit
theorem split_5 : splitN 5 = 4 := by decide
theorem split_4 : splitN 4 = 2 := by decide
theorem split_2 : splitN 2 = 1 := by decide
theorem depth_05 : depthI 0 5 = 3 := by
  have h : depthF 0 5 = 3 := by
    rw [depthF_left (by omega) (by rw [split_5]; omega), split_5, depthF_left (by omega) (by rw [split_4]; omega), split_4, depthF_left (by omega) (by rw [split_2]; omega), split_2, depthF_one (by omega)]
  unfold depthI
  rw [if_pos (by omega)]
  exact congrArg Int.ofNat h
theorem depth_45 : depthI 4 5 = 1 := by
  have h : depthF 4 5 = 1 := by
    rw [depthF_right (by omega) (by rw [split_5]; omega), split_5, depthF_one (by omega)]
  unfold depthI
  rw [if_pos (by omega)]
  exact congrArg Int.ofNat h
theorem depth_55 : depthI 5 5 = -1 := by unfold depthI; rw [if_neg (by omega)]
theorem verify_zero (x : BitVec 64) (h : rootF [0] = x) : verifyP x 0 0 1 [] = true := by
  have hd : depthI 0 1 = 0 := by
    unfold depthI
    rw [if_pos (by omega)]
    exact congrArg Int.ofNat (depthF_one (i := 0) (n := 1) (by omega))
  have hf : followP 0 0 1 [] = (x, true) := by
    unfold followP
    rw [hd, if_pos ⟨by omega, by simp⟩]
    have : followF 0 (Int.toNat 0) (Int.toNat 1) [] = x := by rw [followF_one (by decide), ← h, rootF_one]
    rw [this]
  unfold verifyP
  rw [hf]
  simp [nmEq_self]
end Go.Fl
namespace Go.Proofs.Ytllciohpphngiaa
open Go.ChangeShapes Go.WideShapes Go.ChangeAt Go.RowKit Go.Fl

attribute [local go_sem] equal_nm eqGuard_nm

theorem cells1 : Try.prog.cellsOf 5 = 1 := by kernel_rfl
theorem cells8 : Try.prog.cellsOf 27 = 8 := by kernel_rfl
theorem bytes8 : Try.prog.bytesOf 27 = 8 := by kernel_rfl
theorem own : ownKnob Try.prog.godebug = none := by kernel_rfl

set_option maxHeartbeats 600000 in
theorem awake_any (w : World) : Calls Try.prog 16 #[] w fun e w' => e = .returned (.bool true) ∧ Below w.heap.size w w' := by
  have hz : Is (w.alloc (.cells #[B 0, B 0, B 0, B 0, B 0, B 0, B 0, B 0] 27)) w.heap.size 27 #[B 0, B 0, B 0, B 0, B 0, B 0, B 0, B 0] := Is.new _ _ _
  have hF := (Fr.refl w).alloc (.cells #[B 0, B 0, B 0, B 0, B 0, B 0, B 0, B 0] 27)
  obtain ⟨x, hx⟩ : ∃ x, rootF [0] = x := ⟨_, rfl⟩
  have HX := Lib.hid hx
  have HV := Lib.hid (verify_zero x hx)
  clear hx
  go_enter Try.func16, Try.ntmps16
  go_wp2
  change Code.wp _ _ _ _ (w.alloc (.cells #[B 0, B 0, B 0, B 0, B 0, B 0, B 0, B 0] 27))
  generalize w.alloc (.cells #[B 0, B 0, B 0, B 0, B 0, B 0, B 0, B 0] 27) = W at *
  refine wp_region_held_drew (S := fun w' => Is w' w.heap.size 27 #[B 0, B 0, B 0, B 0, B 0, B 0, B 0, B 0] ∧ Fr w 1 w') (by kernel_rfl) ⟨hz.drew, hF.drew⟩ (fun hHeld => ?_)
  refine held_one (i := 0) (by kernel_rfl) rfl (by rfl) (fun K hK => ?_)
  go_wp2_with fail
  refine (merkleM.depth _ 0 5 ⟨by omega, by omega⟩ ⟨by omega, by omega⟩).mono ?_
  rintro e w1 ⟨rfl, hb⟩
  rw [depth_05]
  go_wp2_with fail
  refine hK.out _ _ ⟨hHeld.1.next hb, hHeld.2.next hb⟩ (fun hHeld1 => ?_)
  clear hK K
  try simp only [Act.put, List.setIfInBounds_toArray, List.set_cons_zero, List.set_cons_succ]
  refine held_pure 1 3 (.bool true) rfl (fun W => by rfl) hHeld1 ?_
  try simp only [Act.put, List.setIfInBounds_toArray, List.set_cons_zero, List.set_cons_succ]
  refine held_pure 2 4 (.bool true) rfl (fun W => by rfl) hHeld1 ?_
  try simp only [Act.put, List.setIfInBounds_toArray, List.set_cons_zero, List.set_cons_succ]
  refine held_one (i := 3) (by kernel_rfl) rfl (by rfl) (fun K hK => ?_)
  go_wp2_with fail
  refine (merkleM.depth _ 4 5 ⟨by omega, by omega⟩ ⟨by omega, by omega⟩).mono ?_
  rintro e w1 ⟨rfl, hb⟩
  rw [depth_45]
  go_wp2_with fail
  refine hK.out _ _ ⟨hHeld1.1.next hb, hHeld1.2.next hb⟩ (fun hHeld2 => ?_)
  clear hK K
  try simp only [Act.put, List.setIfInBounds_toArray, List.set_cons_zero, List.set_cons_succ]
  refine held_pure 4 6 (.bool true) rfl (fun W => by rfl) hHeld2 ?_
  try simp only [Act.put, List.setIfInBounds_toArray, List.set_cons_zero, List.set_cons_succ]
  refine held_pure 5 7 (.bool true) rfl (fun W => by rfl) hHeld2 ?_
  try simp only [Act.put, List.setIfInBounds_toArray, List.set_cons_zero, List.set_cons_succ]
  refine held_pure 6 8 (.bool true) rfl (fun W => by rfl) hHeld2 ?_
  try simp only [Act.put, List.setIfInBounds_toArray, List.set_cons_zero, List.set_cons_succ]
  refine held_one (i := 7) (by kernel_rfl) rfl (by rfl) (fun K hK => ?_)
  go_wp2_with fail
  refine (merkleM.depth _ 5 5 ⟨by omega, by omega⟩ ⟨by omega, by omega⟩).mono ?_
  rintro e w1 ⟨rfl, hb⟩
  rw [depth_55]
  go_wp2_with fail
  refine hK.out _ _ ⟨hHeld2.1.next hb, hHeld2.2.next hb⟩ (fun hHeld3 => ?_)
  clear hK K
  try simp only [Act.put, List.setIfInBounds_toArray, List.set_cons_zero, List.set_cons_succ]
  refine held_pure 8 10 (.bool true) rfl (fun W => by rfl) hHeld3 ?_
  try simp only [Act.put, List.setIfInBounds_toArray, List.set_cons_zero, List.set_cons_succ]
  refine held_pure 9 11 (.bool true) rfl (fun W => by rfl) hHeld3 ?_
  try simp only [Act.put, List.setIfInBounds_toArray, List.set_cons_zero, List.set_cons_succ]
  refine held_pure 10 12 (.bool true) rfl (fun W => by rfl) hHeld3 ?_
  try simp only [Act.put, List.setIfInBounds_toArray, List.set_cons_zero, List.set_cons_succ]
  refine held_load 11 13 rfl 27 (.tmp 1) rfl w.heap.size 0 rfl [B 0, B 0, B 0, B 0, B 0, B 0, B 0, B 0] (fun w' h => range_is (cs := [B 0, B 0, B 0, B 0, B 0, B 0, B 0, B 0]) h.1) Try.underlying27 name_info hHeld3 ?_
  try simp only [Act.put, List.setIfInBounds_toArray, List.set_cons_zero, List.set_cons_succ]
  refine held_load 14 16 rfl 27 (.tmp 1) rfl w.heap.size 0 rfl [B 0, B 0, B 0, B 0, B 0, B 0, B 0, B 0] (fun w' h => range_is (cs := [B 0, B 0, B 0, B 0, B 0, B 0, B 0, B 0]) h.1) Try.underlying27 name_info hHeld3 ?_
  try simp only [Act.put, List.setIfInBounds_toArray, List.set_cons_zero, List.set_cons_succ]
  refine held_one (i := 12) (by kernel_rfl) rfl (by rfl) (fun K hK => ?_)
  go_wp2_with fail
  go_goals
  refine hK.out _ _ ⟨hHeld3.1.old _, hHeld3.2.alloc _ |>.le (Nat.le_succ 1)⟩ (fun hHeld4 => ?_)
  clear hK K
  try simp only [Act.put, List.setIfInBounds_toArray, List.set_cons_zero, List.set_cons_succ]
  refine held_one (i := 13) (by kernel_rfl) rfl (by rfl) (fun K hK => ?_)
  go_wp2_with fail
  refine (merkleM.root _ _ [0] x ⟨_, 1, rfl, by simp, by omega, rn_build _ _ 0⟩ (by simp) HX).mono ?_
  rintro e w2 ⟨rfl, hb⟩
  go_wp2_with fail
  refine hK.out _ _ ⟨hHeld4.1.next hb, hHeld4.2.next hb⟩ (fun hHeld5 => ?_)
  clear hK K
  try simp only [Act.put, List.setIfInBounds_toArray, List.set_cons_zero, List.set_cons_succ]
  refine held_one (i := 15) (by kernel_rfl) rfl (by rfl) (fun K hK => ?_)
  go_wp2_with fail
  refine (merkleM.verify _ x 0 0 1 (.slice none 0 0) [] true (VN.nil _) (by simp) ⟨by omega, by omega⟩ ⟨by omega, by omega⟩ HV).mono ?_
  rintro e w3 ⟨rfl, hb⟩
  go_wp2_with fail
  refine hK.out _ _ ⟨hHeld5.1.next hb, hHeld5.2.next hb⟩ (fun hHeld6 => ?_)
  clear hK K
  try simp only [Act.put, List.setIfInBounds_toArray, List.set_cons_zero, List.set_cons_succ]
  refine held_pure 16 18 (.bool true) rfl (fun W => by rfl) hHeld6 ?_
  try simp only [Act.put, List.setIfInBounds_toArray, List.set_cons_zero, List.set_cons_succ]
  refine held_pure 17 0 (.bool true) rfl (fun W => by rfl) hHeld6 ?_
  try simp only [Act.put, List.setIfInBounds_toArray, List.set_cons_zero]
  refine wpAnyH_done (by kernel_rfl) ?_ _
  try simp only [Act.put, List.setIfInBounds_toArray, List.set_cons_zero, List.set_cons_succ]
  go_wp2_with fail
  go_ret
  exact ⟨rfl, hHeld6.2.1⟩

theorem vn_cut {w : World} {v : Value} {l : List (BitVec 64)} (h : VN w v l) (hl : l.length ≤ 17592186044160) :
    Calls Try.prog 10 #[v] w fun e w' => ∃ u, e = .returned u ∧ VN w u (l.take 300) ∧ w = w' := by
  obtain ⟨A, c, rfl, h1, h2, hr⟩ := h
  by_cases h3 : 300 < l.length
  · obtain ⟨y, hy⟩ : ∃ y, l[0]? = some y := ⟨_, List.getElem?_eq_getElem (by omega)⟩
    obtain ⟨g, off, rfl, hg, -⟩ := hr.at_ hy
    obtain ⟨i8, hi8, _, hz8, _⟩ := info_parts info_name
    have hs1 := fun (W : World) => run_names_to (P := Try.prog) Try.underlying22 hi8 hz8 g off l.length c 300 (X := 300) (Lib.hid rfl) (by omega) (by omega) W
    have s1 : (300 : Int) < (l.length : Int) := by omega
    have s2 : (l.length : Int) ≤ 17592186044160 := by omega
    clear hi8 hz8 hy
    go_enter Try.func10, Try.ntmps10
    go_wp2
    go_ret
    exact ⟨_, rfl, VN.take hr (by omega) h1 h2, rfl⟩
  · have s1 : ¬ (300 : Int) < (l.length : Int) := by omega
    have s2 : (l.length : Int) ≤ 300 := by omega
    go_enter Try.func10, Try.ntmps10
    go_wp2
    go_ret
    exact ⟨_, rfl, by rw [List.take_of_length_le (by omega)]; exact ⟨A, c, rfl, h1, h2, hr⟩, rfl⟩

set_option maxHeartbeats 600000 in
theorem same_any (w : World) (v u : Value) (l m : List (BitVec 64)) (h : VN w v l) (h2 : VN w u m) (hl : l.length ≤ 281474976710656) (hm : m.length ≤ 281474976710656) :
    Calls Try.prog 15 #[v, u] w fun e w' => e = .returned (.bool (nsEq l m)) ∧ Below w.heap.size w w' := by
  obtain ⟨A, c, rfl, h1, h3, hr⟩ := h
  obtain ⟨A2, c2, rfl, h4, h5, hr2⟩ := h2
  have HR := Lib.hid hr
  have HR2 := Lib.hid hr2
  clear hr hr2
  by_cases hne : l.length = m.length
  · have e1 : (l.length : Int) = (m.length : Int) := by omega
    go_enter Try.func15, Try.ntmps15
    go_wp2
    go_loopw [5] (fun i wr => ∃ k : Nat, k ≤ l.length ∧ i = .int .i64 k ∧ l.take k = m.take k ∧ Fr w 0 wr) (fun i _ => l.length - (intOf i).toNat)
    case atStart => exact ⟨0, by omega, rfl, rfl, Fr.refl w⟩
    case round =>
      obtain ⟨k, hk, rfl, hp, hF⟩ := hrel
      by_cases hlt : k < l.length
      · obtain ⟨y, hy⟩ : ∃ y, l[k]? = some y := ⟨_, List.getElem?_eq_getElem hlt⟩
        obtain ⟨z, hz⟩ : ∃ z, m[k]? = some z := ⟨_, List.getElem?_eq_getElem (by omega)⟩
        have HRa := HR.out.keep hF.1
        have HRb := HR2.out.keep hF.1
        obtain ⟨g, off, rfl, hg, hcell⟩ := HRa.at_ hy
        obtain ⟨g2, off2, rfl, hg2, hcell2⟩ := HRb.at_ hz
        have s1 : (k : Int) < (l.length : Int) := by omega
        have s2 : (k : Int) < (m.length : Int) := by omega
        have a0 : wr.cell? ⟨g, off + k * 8, none⟩ = some (B (nb y 0)) := hcell 0 (by omega)
        have a1 : wr.cell? ⟨g, off + k * 8 + 1, none⟩ = some (B (nb y 1)) := hcell 1 (by omega)
        have a2 : wr.cell? ⟨g, off + k * 8 + 2, none⟩ = some (B (nb y 2)) := hcell 2 (by omega)
        have a3 : wr.cell? ⟨g, off + k * 8 + 3, none⟩ = some (B (nb y 3)) := hcell 3 (by omega)
        have a4 : wr.cell? ⟨g, off + k * 8 + 4, none⟩ = some (B (nb y 4)) := hcell 4 (by omega)
        have a5 : wr.cell? ⟨g, off + k * 8 + 5, none⟩ = some (B (nb y 5)) := hcell 5 (by omega)
        have a6 : wr.cell? ⟨g, off + k * 8 + 6, none⟩ = some (B (nb y 6)) := hcell 6 (by omega)
        have a7 : wr.cell? ⟨g, off + k * 8 + 7, none⟩ = some (B (nb y 7)) := hcell 7 (by omega)
        have b0 : wr.cell? ⟨g2, off2 + k * 8, none⟩ = some (B (nb z 0)) := hcell2 0 (by omega)
        have b1 : wr.cell? ⟨g2, off2 + k * 8 + 1, none⟩ = some (B (nb z 1)) := hcell2 1 (by omega)
        have b2 : wr.cell? ⟨g2, off2 + k * 8 + 2, none⟩ = some (B (nb z 2)) := hcell2 2 (by omega)
        have b3 : wr.cell? ⟨g2, off2 + k * 8 + 3, none⟩ = some (B (nb z 3)) := hcell2 3 (by omega)
        have b4 : wr.cell? ⟨g2, off2 + k * 8 + 4, none⟩ = some (B (nb z 4)) := hcell2 4 (by omega)
        have b5 : wr.cell? ⟨g2, off2 + k * 8 + 5, none⟩ = some (B (nb z 5)) := hcell2 5 (by omega)
        have b6 : wr.cell? ⟨g2, off2 + k * 8 + 6, none⟩ = some (B (nb z 6)) := hcell2 6 (by omega)
        have b7 : wr.cell? ⟨g2, off2 + k * 8 + 7, none⟩ = some (B (nb z 7)) := hcell2 7 (by omega)
        clear hcell hcell2
        by_cases hyz : y = z
        · subst hyz
          have e3 := nmEq_self y
          have hstep : l.take (k + 1) = m.take (k + 1) := by rw [← take_snoc l k y hy, ← take_snoc m k y hz, hp]
          go_wp2
          go_quiet (fail)
          go_wp2
          go_roundw
          case rel => exact ⟨k + 1, by omega, by go_num, hstep, hF.drewN _⟩
          case measure => simp [intOf]; omega
        · have e3 := nmEq_ne hyz
          have e4 : nsEq l m = false := by
            unfold nsEq
            rw [decide_eq_false_iff_not]
            intro h
            subst h
            rw [hy] at hz
            exact hyz (Option.some.inj hz)
          go_wp2
          go_quiet (fail)
          go_wp2
          go_ret
          exact ⟨by rw [e4]; rfl, (hF.drewN _).1⟩
      · obtain rfl : k = l.length := by omega
        go_wp2
        go_ret
        refine ⟨?_, hF.1⟩
        rw [List.take_length, hne, List.take_length] at hp
        subst hp
        rw [nsEq_self]
        rfl
  · have e1 : (l.length : Int) ≠ (m.length : Int) := by omega
    have e2 : nsEq l m = false := by
      unfold nsEq
      rw [decide_eq_false_iff_not]
      intro h
      exact hne (by rw [h])
    go_enter Try.func15, Try.ntmps15
    go_wp2
    go_ret
    exact ⟨by rw [e2]; rfl, Below.refl _ _⟩

end Go.Proofs.Ytllciohpphngiaa
