/-
  The statement ManytimeKeys, proved for every seed, number, list of numbers and name, with no condition: a key object returns the same public name and the same signatures as the functions.
-/
import Derived.Test.YtjghengkpbokaaaG20
namespace Go.Proofs.Ytjghengkpbokaaa.manytimeKeys
open Go.ChangeShapes Go.WideShapes Go.ChangeAt Go.RowKit Go.Fl

attribute [local go_sem] equal_nm eqGuard_nm

theorem cellsI : Try.prog.cellsOf 3 = 1 := by kernel_rfl
def rInt : Rep Try.prog 3 Int := repInt Try.underlying3 cellsI

set_option maxRecDepth 10000 in
set_option maxHeartbeats 1000000 in
theorem walk1 (w : World) (s : BitVec 64) (v : Value) (l : List Int) (m : BitVec 64) (hlv : I64 1) (hv : VS rInt w v l) (hi : ∀ x ∈ l, I64 x) :
    Calls Try.prog 8 #[nm s, .int .i64 1, v, nm m] w fun e w' => e = .returned (.bool true) ∧ Below w.heap.size w w' := by
  obtain ⟨hs0, hm0, hF⟩ := signW_facts w s m
  obtain ⟨y, hy⟩ : ∃ y, mpubF s 1 = y := ⟨_, rfl⟩
  have HY := Lib.hid hy
  have hyy := nmEq_self y
  have hvW := hv.next hF.1
  obtain ⟨n, hn⟩ : ∃ n, l.length = n := ⟨_, rfl⟩
  have HN := Lib.hid hn
  have HV := Lib.hid hv
  obtain ⟨A, c, e0, -⟩ := hv.form
  rw [hn] at e0
  subst e0
  clear hy hvW hn hv
  go_enter Try.func8, Try.ntmps8
  go_wp2_with fail
  refine (keyK.new (signW w s m) s 1 hlv).mono ?_
  rintro e w1 ⟨pv, rfl, hpv, hki1, hB1⟩
  generalize signW w s m = W at *
  rw [if_pos (by omega)] at hpv
  obtain ⟨ad, rfl⟩ := hpv
  go_wp2_with fail
  refine wp_region_held_drew (S := fun w' => KI w' W.heap.size (.pointer (some ad)) s 1 ∧ Below W.heap.size W w') (by kernel_rfl) ⟨keyK.keep hki1 (Below.refl _ _).drew, hB1.trans (Below.refl _ _).drew⟩ (fun hHeld => ?_)
  refine held_pure 0 18 ((.pointer (some ad))) rfl (fun W => by rfl) hHeld ?_
  try simp only [Act.put, List.setIfInBounds_toArray, List.set_cons_zero, List.set_cons_succ]
  refine held_pure 1 19 (.bool true) rfl (fun W => by go_simp) hHeld ?_
  try simp only [Act.put, List.setIfInBounds_toArray, List.set_cons_zero, List.set_cons_succ]
  refine held_pure 2 20 (.int .i64 1) rfl (fun W => by rfl) hHeld ?_
  try simp only [Act.put, List.setIfInBounds_toArray, List.set_cons_zero, List.set_cons_succ]
  refine held_pure 3 21 (.bool true) rfl (fun W => by go_simp) hHeld ?_
  try simp only [Act.put, List.setIfInBounds_toArray, List.set_cons_zero, List.set_cons_succ]
  refine held_pure 4 22 (.bool true) rfl (fun W => by rfl) hHeld ?_
  try simp only [Act.put, List.setIfInBounds_toArray, List.set_cons_zero, List.set_cons_succ]
  refine held_skip 5 23 rfl (by rfl) hHeld ?_
  try simp only [Act.put, List.setIfInBounds_toArray, List.set_cons_zero, List.set_cons_succ]
  refine held_skip 6 24 rfl (by rfl) hHeld ?_
  try simp only [Act.put, List.setIfInBounds_toArray, List.set_cons_zero, List.set_cons_succ]
  refine held_pure 7 25 (.bool true) rfl (fun W => by rfl) hHeld ?_
  try simp only [Act.put, List.setIfInBounds_toArray, List.set_cons_zero, List.set_cons_succ]
  refine held_pure 8 26 (.bool false) rfl (fun W => by go_simp) hHeld ?_
  try simp only [Act.put, List.setIfInBounds_toArray, List.set_cons_zero, List.set_cons_succ]
  refine held_pure 9 27 (.bool false) rfl (fun W => by rfl) hHeld ?_
  try simp only [Act.put, List.setIfInBounds_toArray, List.set_cons_zero, List.set_cons_succ]
  refine held_pure 10 28 ((.pointer (some ad))) rfl (fun W => by rfl) hHeld ?_
  try simp only [Act.put, List.setIfInBounds_toArray, List.set_cons_zero, List.set_cons_succ]
  refine held_load 12 30 rfl 30 (.tmp 4) rfl w.heap.size 0 rfl (nmR s) (fun w' h => range_is (cs := nmR s) (hs0.next h.2)) Try.underlying30 name_info hHeld ?_
  try simp only [Act.put, List.setIfInBounds_toArray, List.set_cons_zero, List.set_cons_succ]
  refine held_pure 13 31 (.int .i64 1) rfl (fun W => by rfl) hHeld ?_
  try simp only [Act.put, List.setIfInBounds_toArray, List.set_cons_zero, List.set_cons_succ]
  refine held_one (i := 11) (by kernel_rfl) rfl (by rfl) (fun KK hK => ?_)
  go_wp2_with fail
  refine (keyK.pub _ _ _ s 1 y hHeld.2.size hHeld.1 HY).mono ?_
  rintro e x1 ⟨rfl, hki2, hb⟩
  go_wp2_with fail
  refine hK.out _ _ ⟨hki2, hHeld.2.trans hb⟩ (fun hHeld1 => ?_)
  clear hK KK
  try simp only [Act.put, List.setIfInBounds_toArray, List.set_cons_zero, List.set_cons_succ]
  refine held_one (i := 14) (by kernel_rfl) rfl (by rfl) (fun KK hK => ?_)
  go_wp2_with fail
  refine (manN.pub _ s 1 y hlv HY).mono ?_
  rintro e x2 ⟨rfl, hb⟩
  go_wp2_with fail
  refine hK.out _ _ ⟨keyK.keep hHeld1.1 hb, hHeld1.2.trans (hb.mono hHeld1.2.size)⟩ (fun hHeld2 => ?_)
  clear hK KK
  try simp only [Act.put, List.setIfInBounds_toArray, List.set_cons_zero, List.set_cons_succ]
  refine held_pure 15 33 (.bool false) rfl (fun W => by go_simp) hHeld2 ?_
  try simp only [Act.put, List.setIfInBounds_toArray, List.set_cons_zero, List.set_cons_succ]
  refine held_pure 16 34 (.bool false) rfl (fun W => by rfl) hHeld2 ?_
  try simp only [Act.put, List.setIfInBounds_toArray, List.set_cons_zero, List.set_cons_succ]
  refine wpAnyH_done (by kernel_rfl) ?_ _
  try simp only [Act.put, List.setIfInBounds_toArray, List.set_cons_zero, List.set_cons_succ]
  go_wp2_with fail
  have hki3 := hHeld2.1
  have hB3 := hHeld2.2
  clear hHeld2
  go_loopw [10] (fun i wr => ∃ k : Nat, k ≤ 4 ∧ k ≤ n ∧ i = .int .i64 (k : Int) ∧ KI wr W.heap.size (.pointer (some ad)) s 1 ∧ Below W.heap.size W wr) (fun i _ => 4 - (intOf i).toNat)
  case atStart => exact ⟨0, Nat.zero_le _, Nat.zero_le _, rfl, hki3, hB3⟩
  case round =>
    clear hki3 hB3
    obtain ⟨k, hk4, hkn, rfl, hkr, hBr⟩ := hrel
    by_cases hlt : k < n ∧ k < 4
    · obtain ⟨hlt1, hlt2⟩ := hlt
      have s1 : (k : Int) < (n : Int) := by omega
      have s2 : (k : Int) < 4 := by omega
      have k0 : (0 : Int) ≤ (k : Int) := by omega
      obtain ⟨x, hx⟩ : ∃ x, l[k]? = some x := ⟨_, List.getElem?_eq_getElem (by have := HN.out; omega)⟩
      have HI := Lib.hid (hi x (List.mem_of_getElem? hx))
      obtain ⟨g, off, c', e1, hg, cs, rfl, hcell⟩ := HV.out.at_ hx
      injection e1 with e1 e2 e3
      subst e1 e3
      clear e2
      have HX : Hid (W.cell? ⟨g, off + k, none⟩ = some (.int .i64 x)) := Lib.hid (by
        have := hcell 0 (by rw [cellsI]; omega)
        rw [cellsI, Nat.mul_one, Nat.add_zero] at this
        exact (hF.1.cell (p := ⟨g, off + k, none⟩) hg).trans this)
      have HG : Hid (g < W.heap.size) := Lib.hid (by have := hF.2; omega)
      obtain ⟨⟨bs, ok⟩, hR⟩ : ∃ r, signP s 1 x m = r := ⟨_, rfl⟩
      have HR := Lib.hid hR
      obtain ⟨ln, hln⟩ : ∃ ln, bs.length = ln := ⟨_, rfl⟩
      have HLN := Lib.hid hln
      clear hR hln hx hcell hg
      go_wp2_with fail
      refine wp_region_held_drew (S := fun w' => KI w' W.heap.size (.pointer (some ad)) s 1 ∧ Below W.heap.size W w') (by kernel_rfl) ⟨keyK.keep hkr (Below.refl _ _).drew, hBr.trans (Below.refl _ _).drew⟩ (fun hHeld => ?_)
      refine held_pure 0 46 ((.pointer (some ad))) rfl (fun W => by rfl) hHeld ?_
      try simp only [Act.put, List.setIfInBounds_toArray, List.set_cons_zero, List.set_cons_succ]
      refine held_pure 1 47 (.slice (some ⟨g, off, none⟩) n c) rfl (fun W => by rfl) hHeld ?_
      try simp only [Act.put, List.setIfInBounds_toArray, List.set_cons_zero, List.set_cons_succ]
      refine held_pure 2 48 (.int .i64 (k : Int)) rfl (fun W => by rfl) hHeld ?_
      try simp only [Act.put, List.setIfInBounds_toArray, List.set_cons_zero, List.set_cons_succ]
      refine held_pure 3 49 (.pointer (some ⟨g, off + k, none⟩)) rfl (fun W => by go_simp) hHeld ?_
      try simp only [Act.put, List.setIfInBounds_toArray, List.set_cons_zero, List.set_cons_succ]
      refine held_if 4 50 (.int .i64 x) rfl (fun w' h => by (have hc := (h.2.cell (p := ⟨g, off + k, none⟩) HG.out).trans HX.out; go_simp)) hHeld ?_
      try simp only [Act.put, List.setIfInBounds_toArray, List.set_cons_zero, List.set_cons_succ]
      refine held_load 5 51 rfl 30 (.tmp 7) rfl (w.heap.size + 1) 0 rfl (nmR m) (fun w' h => range_is (cs := nmR m) (hm0.next h.2)) Try.underlying30 name_info hHeld ?_
      try simp only [Act.put, List.setIfInBounds_toArray, List.set_cons_zero, List.set_cons_succ]
      refine held_one (i := 6) (by kernel_rfl) rfl (by rfl) (fun KK hK => ?_)
      go_wp2_with fail
      refine (keyK.sign _ _ _ s 1 x m (bs, ok) hHeld.2.size hHeld.1 HI.out HR).mono ?_
      rintro e x1 ⟨u1, rfl, hu1, hki2, hb⟩
      obtain ⟨A1, c1, e1, -, -, hr1⟩ := hu1
      rw [HLN.out] at e1
      subst e1
      go_wp2_with fail
      refine hK.out _ _ ⟨hki2, hHeld.2.trans hb⟩ (fun hHeld1 => ?_)
      clear hK KK
      try simp only [Act.put, List.setIfInBounds_toArray, List.set_cons_zero, List.set_cons_succ]
      refine held_pure 7 45 (.tuple #[.slice A1 ln c1, .bool ok]) rfl (fun W => by rfl) hHeld1 ?_
      try simp only [Act.put, List.setIfInBounds_toArray, List.set_cons_zero, List.set_cons_succ]
      refine held_pure 8 53 (.slice A1 ln c1) rfl (fun W => by rfl) hHeld1 ?_
      try simp only [Act.put, List.setIfInBounds_toArray, List.set_cons_zero, List.set_cons_succ]
      refine held_pure 9 54 (.bool ok) rfl (fun W => by rfl) hHeld1 ?_
      try simp only [Act.put, List.setIfInBounds_toArray, List.set_cons_zero, List.set_cons_succ]
      refine held_pure 10 11 (.slice A1 ln c1) rfl (fun W => by rfl) hHeld1 ?_
      try simp only [Act.put, List.setIfInBounds_toArray, List.set_cons_zero, List.set_cons_succ]
      refine held_pure 11 12 (.bool ok) rfl (fun W => by rfl) hHeld1 ?_
      try simp only [Act.put, List.setIfInBounds_toArray, List.set_cons_zero, List.set_cons_succ]
      refine wpAnyH_done (by kernel_rfl) ?_ _
      try simp only [Act.put, List.setIfInBounds_toArray, List.set_cons_zero, List.set_cons_succ]
      go_wp2_with fail
      refine wp_region_held_drew (S := fun w' => (KI w' W.heap.size (.pointer (some ad)) s 1 ∧ Below W.heap.size W w') ∧ RB w' w'.heap.size A1 bs) (by kernel_rfl) ⟨⟨keyK.keep hHeld1.1 (Below.refl _ _).drew, hHeld1.2.trans (Below.refl _ _).drew⟩, hr1⟩ (fun hG => ?_)
      refine held_load 0 56 rfl 30 (.tmp 4) rfl w.heap.size 0 rfl (nmR s) (fun w' h => range_is (cs := nmR s) (hs0.next h.1.2)) Try.underlying30 name_info hG ?_
      try simp only [Act.put, List.setIfInBounds_toArray, List.set_cons_zero, List.set_cons_succ]
      refine held_pure 1 57 (.int .i64 1) rfl (fun W => by rfl) hG ?_
      try simp only [Act.put, List.setIfInBounds_toArray, List.set_cons_zero, List.set_cons_succ]
      refine held_pure 2 58 (.slice (some ⟨g, off, none⟩) n c) rfl (fun W => by rfl) hG ?_
      try simp only [Act.put, List.setIfInBounds_toArray, List.set_cons_zero, List.set_cons_succ]
      refine held_pure 3 59 (.int .i64 (k : Int)) rfl (fun W => by rfl) hG ?_
      try simp only [Act.put, List.setIfInBounds_toArray, List.set_cons_zero, List.set_cons_succ]
      refine held_pure 4 60 (.pointer (some ⟨g, off + k, none⟩)) rfl (fun W => by go_simp) hG ?_
      try simp only [Act.put, List.setIfInBounds_toArray, List.set_cons_zero, List.set_cons_succ]
      refine held_if 5 61 (.int .i64 x) rfl (fun w' h => by (have hc := (h.1.2.cell (p := ⟨g, off + k, none⟩) HG.out).trans HX.out; go_simp)) hG ?_
      try simp only [Act.put, List.setIfInBounds_toArray, List.set_cons_zero, List.set_cons_succ]
      refine held_load 6 62 rfl 30 (.tmp 7) rfl (w.heap.size + 1) 0 rfl (nmR m) (fun w' h => range_is (cs := nmR m) (hm0.next h.1.2)) Try.underlying30 name_info hG ?_
      try simp only [Act.put, List.setIfInBounds_toArray, List.set_cons_zero, List.set_cons_succ]
      refine held_one (i := 7) (by kernel_rfl) rfl (by rfl) (fun KK hK => ?_)
      go_wp2_with fail
      refine (manN.sign _ s 1 x m (bs, ok) hlv HI.out HR).mono ?_
      rintro e x2 ⟨u2, rfl, ho2, hb⟩
      obtain ⟨A2, c2, e2, -, -, hr2⟩ := ho2.vb
      rw [HLN.out] at e2
      subst e2
      go_wp2_with fail
      refine hK.out _ _ ⟨⟨keyK.keep hG.1.1 hb, hG.1.2.trans (hb.mono hG.1.2.size)⟩, (hG.2.keep hb).mono hb.size⟩ (fun hG1 => ?_)
      clear hK KK
      try simp only [Act.put, List.setIfInBounds_toArray, List.set_cons_zero, List.set_cons_succ]
      refine held_pure 8 55 (.tuple #[.slice A2 ln c2, .bool ok]) rfl (fun W => by rfl) hG1 ?_
      try simp only [Act.put, List.setIfInBounds_toArray, List.set_cons_zero, List.set_cons_succ]
      refine held_pure 9 64 (.slice A2 ln c2) rfl (fun W => by rfl) hG1 ?_
      try simp only [Act.put, List.setIfInBounds_toArray, List.set_cons_zero, List.set_cons_succ]
      refine held_pure 10 65 (.bool ok) rfl (fun W => by rfl) hG1 ?_
      try simp only [Act.put, List.setIfInBounds_toArray, List.set_cons_zero, List.set_cons_succ]
      refine held_pure 11 13 (.slice A2 ln c2) rfl (fun W => by rfl) hG1 ?_
      try simp only [Act.put, List.setIfInBounds_toArray, List.set_cons_zero, List.set_cons_succ]
      refine held_pure 12 14 (.bool ok) rfl (fun W => by rfl) hG1 ?_
      try simp only [Act.put, List.setIfInBounds_toArray, List.set_cons_zero, List.set_cons_succ]
      refine wpAnyH_done (by kernel_rfl) ?_ _
      try simp only [Act.put, List.setIfInBounds_toArray, List.set_cons_zero, List.set_cons_succ]
      have hcv1 := run_convert_rb ln c1 HLN.out.symm _ hG1.2
      have hcv2 := run_convert_rb ln c2 HLN.out.symm _ hr2
      go_wp2_with fail
      go_roundw
      case rel => exact ⟨k + 1, by omega, by omega, by go_num, hG1.1.1, hG1.1.2⟩
      case measure => simp [intOf]; omega
    · have hB := hBr
      by_cases hlt1 : k < n
      · have s1 : (k : Int) < (n : Int) := by omega
        obtain rfl : k = 4 := by omega
        go_wp2_with (go_at_call 14; refine (awake_any _).mono ?_; rintro e x3 ⟨rfl, hb3⟩; have hB := hB.trans (hb3.mono hB.size))
        go_ret
        exact ⟨rfl, hF.1.trans (hB.mono (by have := hF.2; omega))⟩
      · obtain rfl : k = n := by omega
        go_wp2_with (go_at_call 14; refine (awake_any _).mono ?_; rintro e x3 ⟨rfl, hb3⟩; have hB := hB.trans (hb3.mono hB.size))
        go_ret
        exact ⟨rfl, hF.1.trans (hB.mono (by have := hF.2; omega))⟩

set_option maxRecDepth 10000 in
set_option maxHeartbeats 1000000 in
theorem walk2 (w : World) (s : BitVec 64) (v : Value) (l : List Int) (m : BitVec 64) (hlv : I64 2) (hv : VS rInt w v l) (hi : ∀ x ∈ l, I64 x) :
    Calls Try.prog 8 #[nm s, .int .i64 2, v, nm m] w fun e w' => e = .returned (.bool true) ∧ Below w.heap.size w w' := by
  obtain ⟨hs0, hm0, hF⟩ := signW_facts w s m
  obtain ⟨y, hy⟩ : ∃ y, mpubF s 2 = y := ⟨_, rfl⟩
  have HY := Lib.hid hy
  have hyy := nmEq_self y
  have hvW := hv.next hF.1
  obtain ⟨n, hn⟩ : ∃ n, l.length = n := ⟨_, rfl⟩
  have HN := Lib.hid hn
  have HV := Lib.hid hv
  obtain ⟨A, c, e0, -⟩ := hv.form
  rw [hn] at e0
  subst e0
  clear hy hvW hn hv
  go_enter Try.func8, Try.ntmps8
  go_wp2_with fail
  refine (keyK.new (signW w s m) s 2 hlv).mono ?_
  rintro e w1 ⟨pv, rfl, hpv, hki1, hB1⟩
  generalize signW w s m = W at *
  rw [if_pos (by omega)] at hpv
  obtain ⟨ad, rfl⟩ := hpv
  go_wp2_with fail
  refine wp_region_held_drew (S := fun w' => KI w' W.heap.size (.pointer (some ad)) s 2 ∧ Below W.heap.size W w') (by kernel_rfl) ⟨keyK.keep hki1 (Below.refl _ _).drew, hB1.trans (Below.refl _ _).drew⟩ (fun hHeld => ?_)
  refine held_pure 0 18 ((.pointer (some ad))) rfl (fun W => by rfl) hHeld ?_
  try simp only [Act.put, List.setIfInBounds_toArray, List.set_cons_zero, List.set_cons_succ]
  refine held_pure 1 19 (.bool true) rfl (fun W => by go_simp) hHeld ?_
  try simp only [Act.put, List.setIfInBounds_toArray, List.set_cons_zero, List.set_cons_succ]
  refine held_pure 2 20 (.int .i64 2) rfl (fun W => by rfl) hHeld ?_
  try simp only [Act.put, List.setIfInBounds_toArray, List.set_cons_zero, List.set_cons_succ]
  refine held_pure 3 21 (.bool false) rfl (fun W => by go_simp) hHeld ?_
  try simp only [Act.put, List.setIfInBounds_toArray, List.set_cons_zero, List.set_cons_succ]
  refine held_pure 4 22 (.bool false) rfl (fun W => by rfl) hHeld ?_
  try simp only [Act.put, List.setIfInBounds_toArray, List.set_cons_zero, List.set_cons_succ]
  refine held_pure 5 23 (.int .i64 2) rfl (fun W => by rfl) hHeld ?_
  try simp only [Act.put, List.setIfInBounds_toArray, List.set_cons_zero, List.set_cons_succ]
  refine held_pure 6 24 (.bool true) rfl (fun W => by go_simp) hHeld ?_
  try simp only [Act.put, List.setIfInBounds_toArray, List.set_cons_zero, List.set_cons_succ]
  refine held_pure 7 25 (.bool true) rfl (fun W => by rfl) hHeld ?_
  try simp only [Act.put, List.setIfInBounds_toArray, List.set_cons_zero, List.set_cons_succ]
  refine held_pure 8 26 (.bool false) rfl (fun W => by go_simp) hHeld ?_
  try simp only [Act.put, List.setIfInBounds_toArray, List.set_cons_zero, List.set_cons_succ]
  refine held_pure 9 27 (.bool false) rfl (fun W => by rfl) hHeld ?_
  try simp only [Act.put, List.setIfInBounds_toArray, List.set_cons_zero, List.set_cons_succ]
  refine held_pure 10 28 ((.pointer (some ad))) rfl (fun W => by rfl) hHeld ?_
  try simp only [Act.put, List.setIfInBounds_toArray, List.set_cons_zero, List.set_cons_succ]
  refine held_load 12 30 rfl 30 (.tmp 4) rfl w.heap.size 0 rfl (nmR s) (fun w' h => range_is (cs := nmR s) (hs0.next h.2)) Try.underlying30 name_info hHeld ?_
  try simp only [Act.put, List.setIfInBounds_toArray, List.set_cons_zero, List.set_cons_succ]
  refine held_pure 13 31 (.int .i64 2) rfl (fun W => by rfl) hHeld ?_
  try simp only [Act.put, List.setIfInBounds_toArray, List.set_cons_zero, List.set_cons_succ]
  refine held_one (i := 11) (by kernel_rfl) rfl (by rfl) (fun KK hK => ?_)
  go_wp2_with fail
  refine (keyK.pub _ _ _ s 2 y hHeld.2.size hHeld.1 HY).mono ?_
  rintro e x1 ⟨rfl, hki2, hb⟩
  go_wp2_with fail
  refine hK.out _ _ ⟨hki2, hHeld.2.trans hb⟩ (fun hHeld1 => ?_)
  clear hK KK
  try simp only [Act.put, List.setIfInBounds_toArray, List.set_cons_zero, List.set_cons_succ]
  refine held_one (i := 14) (by kernel_rfl) rfl (by rfl) (fun KK hK => ?_)
  go_wp2_with fail
  refine (manN.pub _ s 2 y hlv HY).mono ?_
  rintro e x2 ⟨rfl, hb⟩
  go_wp2_with fail
  refine hK.out _ _ ⟨keyK.keep hHeld1.1 hb, hHeld1.2.trans (hb.mono hHeld1.2.size)⟩ (fun hHeld2 => ?_)
  clear hK KK
  try simp only [Act.put, List.setIfInBounds_toArray, List.set_cons_zero, List.set_cons_succ]
  refine held_pure 15 33 (.bool false) rfl (fun W => by go_simp) hHeld2 ?_
  try simp only [Act.put, List.setIfInBounds_toArray, List.set_cons_zero, List.set_cons_succ]
  refine held_pure 16 34 (.bool false) rfl (fun W => by rfl) hHeld2 ?_
  try simp only [Act.put, List.setIfInBounds_toArray, List.set_cons_zero, List.set_cons_succ]
  refine wpAnyH_done (by kernel_rfl) ?_ _
  try simp only [Act.put, List.setIfInBounds_toArray, List.set_cons_zero, List.set_cons_succ]
  go_wp2_with fail
  have hki3 := hHeld2.1
  have hB3 := hHeld2.2
  clear hHeld2
  go_loopw [10] (fun i wr => ∃ k : Nat, k ≤ 4 ∧ k ≤ n ∧ i = .int .i64 (k : Int) ∧ KI wr W.heap.size (.pointer (some ad)) s 2 ∧ Below W.heap.size W wr) (fun i _ => 4 - (intOf i).toNat)
  case atStart => exact ⟨0, Nat.zero_le _, Nat.zero_le _, rfl, hki3, hB3⟩
  case round =>
    clear hki3 hB3
    obtain ⟨k, hk4, hkn, rfl, hkr, hBr⟩ := hrel
    by_cases hlt : k < n ∧ k < 4
    · obtain ⟨hlt1, hlt2⟩ := hlt
      have s1 : (k : Int) < (n : Int) := by omega
      have s2 : (k : Int) < 4 := by omega
      have k0 : (0 : Int) ≤ (k : Int) := by omega
      obtain ⟨x, hx⟩ : ∃ x, l[k]? = some x := ⟨_, List.getElem?_eq_getElem (by have := HN.out; omega)⟩
      have HI := Lib.hid (hi x (List.mem_of_getElem? hx))
      obtain ⟨g, off, c', e1, hg, cs, rfl, hcell⟩ := HV.out.at_ hx
      injection e1 with e1 e2 e3
      subst e1 e3
      clear e2
      have HX : Hid (W.cell? ⟨g, off + k, none⟩ = some (.int .i64 x)) := Lib.hid (by
        have := hcell 0 (by rw [cellsI]; omega)
        rw [cellsI, Nat.mul_one, Nat.add_zero] at this
        exact (hF.1.cell (p := ⟨g, off + k, none⟩) hg).trans this)
      have HG : Hid (g < W.heap.size) := Lib.hid (by have := hF.2; omega)
      obtain ⟨⟨bs, ok⟩, hR⟩ : ∃ r, signP s 2 x m = r := ⟨_, rfl⟩
      have HR := Lib.hid hR
      obtain ⟨ln, hln⟩ : ∃ ln, bs.length = ln := ⟨_, rfl⟩
      have HLN := Lib.hid hln
      clear hR hln hx hcell hg
      go_wp2_with fail
      refine wp_region_held_drew (S := fun w' => KI w' W.heap.size (.pointer (some ad)) s 2 ∧ Below W.heap.size W w') (by kernel_rfl) ⟨keyK.keep hkr (Below.refl _ _).drew, hBr.trans (Below.refl _ _).drew⟩ (fun hHeld => ?_)
      refine held_pure 0 46 ((.pointer (some ad))) rfl (fun W => by rfl) hHeld ?_
      try simp only [Act.put, List.setIfInBounds_toArray, List.set_cons_zero, List.set_cons_succ]
      refine held_pure 1 47 (.slice (some ⟨g, off, none⟩) n c) rfl (fun W => by rfl) hHeld ?_
      try simp only [Act.put, List.setIfInBounds_toArray, List.set_cons_zero, List.set_cons_succ]
      refine held_pure 2 48 (.int .i64 (k : Int)) rfl (fun W => by rfl) hHeld ?_
      try simp only [Act.put, List.setIfInBounds_toArray, List.set_cons_zero, List.set_cons_succ]
      refine held_pure 3 49 (.pointer (some ⟨g, off + k, none⟩)) rfl (fun W => by go_simp) hHeld ?_
      try simp only [Act.put, List.setIfInBounds_toArray, List.set_cons_zero, List.set_cons_succ]
      refine held_if 4 50 (.int .i64 x) rfl (fun w' h => by (have hc := (h.2.cell (p := ⟨g, off + k, none⟩) HG.out).trans HX.out; go_simp)) hHeld ?_
      try simp only [Act.put, List.setIfInBounds_toArray, List.set_cons_zero, List.set_cons_succ]
      refine held_load 5 51 rfl 30 (.tmp 7) rfl (w.heap.size + 1) 0 rfl (nmR m) (fun w' h => range_is (cs := nmR m) (hm0.next h.2)) Try.underlying30 name_info hHeld ?_
      try simp only [Act.put, List.setIfInBounds_toArray, List.set_cons_zero, List.set_cons_succ]
      refine held_one (i := 6) (by kernel_rfl) rfl (by rfl) (fun KK hK => ?_)
      go_wp2_with fail
      refine (keyK.sign _ _ _ s 2 x m (bs, ok) hHeld.2.size hHeld.1 HI.out HR).mono ?_
      rintro e x1 ⟨u1, rfl, hu1, hki2, hb⟩
      obtain ⟨A1, c1, e1, -, -, hr1⟩ := hu1
      rw [HLN.out] at e1
      subst e1
      go_wp2_with fail
      refine hK.out _ _ ⟨hki2, hHeld.2.trans hb⟩ (fun hHeld1 => ?_)
      clear hK KK
      try simp only [Act.put, List.setIfInBounds_toArray, List.set_cons_zero, List.set_cons_succ]
      refine held_pure 7 45 (.tuple #[.slice A1 ln c1, .bool ok]) rfl (fun W => by rfl) hHeld1 ?_
      try simp only [Act.put, List.setIfInBounds_toArray, List.set_cons_zero, List.set_cons_succ]
      refine held_pure 8 53 (.slice A1 ln c1) rfl (fun W => by rfl) hHeld1 ?_
      try simp only [Act.put, List.setIfInBounds_toArray, List.set_cons_zero, List.set_cons_succ]
      refine held_pure 9 54 (.bool ok) rfl (fun W => by rfl) hHeld1 ?_
      try simp only [Act.put, List.setIfInBounds_toArray, List.set_cons_zero, List.set_cons_succ]
      refine held_pure 10 11 (.slice A1 ln c1) rfl (fun W => by rfl) hHeld1 ?_
      try simp only [Act.put, List.setIfInBounds_toArray, List.set_cons_zero, List.set_cons_succ]
      refine held_pure 11 12 (.bool ok) rfl (fun W => by rfl) hHeld1 ?_
      try simp only [Act.put, List.setIfInBounds_toArray, List.set_cons_zero, List.set_cons_succ]
      refine wpAnyH_done (by kernel_rfl) ?_ _
      try simp only [Act.put, List.setIfInBounds_toArray, List.set_cons_zero, List.set_cons_succ]
      go_wp2_with fail
      refine wp_region_held_drew (S := fun w' => (KI w' W.heap.size (.pointer (some ad)) s 2 ∧ Below W.heap.size W w') ∧ RB w' w'.heap.size A1 bs) (by kernel_rfl) ⟨⟨keyK.keep hHeld1.1 (Below.refl _ _).drew, hHeld1.2.trans (Below.refl _ _).drew⟩, hr1⟩ (fun hG => ?_)
      refine held_load 0 56 rfl 30 (.tmp 4) rfl w.heap.size 0 rfl (nmR s) (fun w' h => range_is (cs := nmR s) (hs0.next h.1.2)) Try.underlying30 name_info hG ?_
      try simp only [Act.put, List.setIfInBounds_toArray, List.set_cons_zero, List.set_cons_succ]
      refine held_pure 1 57 (.int .i64 2) rfl (fun W => by rfl) hG ?_
      try simp only [Act.put, List.setIfInBounds_toArray, List.set_cons_zero, List.set_cons_succ]
      refine held_pure 2 58 (.slice (some ⟨g, off, none⟩) n c) rfl (fun W => by rfl) hG ?_
      try simp only [Act.put, List.setIfInBounds_toArray, List.set_cons_zero, List.set_cons_succ]
      refine held_pure 3 59 (.int .i64 (k : Int)) rfl (fun W => by rfl) hG ?_
      try simp only [Act.put, List.setIfInBounds_toArray, List.set_cons_zero, List.set_cons_succ]
      refine held_pure 4 60 (.pointer (some ⟨g, off + k, none⟩)) rfl (fun W => by go_simp) hG ?_
      try simp only [Act.put, List.setIfInBounds_toArray, List.set_cons_zero, List.set_cons_succ]
      refine held_if 5 61 (.int .i64 x) rfl (fun w' h => by (have hc := (h.1.2.cell (p := ⟨g, off + k, none⟩) HG.out).trans HX.out; go_simp)) hG ?_
      try simp only [Act.put, List.setIfInBounds_toArray, List.set_cons_zero, List.set_cons_succ]
      refine held_load 6 62 rfl 30 (.tmp 7) rfl (w.heap.size + 1) 0 rfl (nmR m) (fun w' h => range_is (cs := nmR m) (hm0.next h.1.2)) Try.underlying30 name_info hG ?_
      try simp only [Act.put, List.setIfInBounds_toArray, List.set_cons_zero, List.set_cons_succ]
      refine held_one (i := 7) (by kernel_rfl) rfl (by rfl) (fun KK hK => ?_)
      go_wp2_with fail
      refine (manN.sign _ s 2 x m (bs, ok) hlv HI.out HR).mono ?_
      rintro e x2 ⟨u2, rfl, ho2, hb⟩
      obtain ⟨A2, c2, e2, -, -, hr2⟩ := ho2.vb
      rw [HLN.out] at e2
      subst e2
      go_wp2_with fail
      refine hK.out _ _ ⟨⟨keyK.keep hG.1.1 hb, hG.1.2.trans (hb.mono hG.1.2.size)⟩, (hG.2.keep hb).mono hb.size⟩ (fun hG1 => ?_)
      clear hK KK
      try simp only [Act.put, List.setIfInBounds_toArray, List.set_cons_zero, List.set_cons_succ]
      refine held_pure 8 55 (.tuple #[.slice A2 ln c2, .bool ok]) rfl (fun W => by rfl) hG1 ?_
      try simp only [Act.put, List.setIfInBounds_toArray, List.set_cons_zero, List.set_cons_succ]
      refine held_pure 9 64 (.slice A2 ln c2) rfl (fun W => by rfl) hG1 ?_
      try simp only [Act.put, List.setIfInBounds_toArray, List.set_cons_zero, List.set_cons_succ]
      refine held_pure 10 65 (.bool ok) rfl (fun W => by rfl) hG1 ?_
      try simp only [Act.put, List.setIfInBounds_toArray, List.set_cons_zero, List.set_cons_succ]
      refine held_pure 11 13 (.slice A2 ln c2) rfl (fun W => by rfl) hG1 ?_
      try simp only [Act.put, List.setIfInBounds_toArray, List.set_cons_zero, List.set_cons_succ]
      refine held_pure 12 14 (.bool ok) rfl (fun W => by rfl) hG1 ?_
      try simp only [Act.put, List.setIfInBounds_toArray, List.set_cons_zero, List.set_cons_succ]
      refine wpAnyH_done (by kernel_rfl) ?_ _
      try simp only [Act.put, List.setIfInBounds_toArray, List.set_cons_zero, List.set_cons_succ]
      have hcv1 := run_convert_rb ln c1 HLN.out.symm _ hG1.2
      have hcv2 := run_convert_rb ln c2 HLN.out.symm _ hr2
      go_wp2_with fail
      go_roundw
      case rel => exact ⟨k + 1, by omega, by omega, by go_num, hG1.1.1, hG1.1.2⟩
      case measure => simp [intOf]; omega
    · have hB := hBr
      by_cases hlt1 : k < n
      · have s1 : (k : Int) < (n : Int) := by omega
        obtain rfl : k = 4 := by omega
        go_wp2_with (go_at_call 14; refine (awake_any _).mono ?_; rintro e x3 ⟨rfl, hb3⟩; have hB := hB.trans (hb3.mono hB.size))
        go_ret
        exact ⟨rfl, hF.1.trans (hB.mono (by have := hF.2; omega))⟩
      · obtain rfl : k = n := by omega
        go_wp2_with (go_at_call 14; refine (awake_any _).mono ?_; rintro e x3 ⟨rfl, hb3⟩; have hB := hB.trans (hb3.mono hB.size))
        go_ret
        exact ⟨rfl, hF.1.trans (hB.mono (by have := hF.2; omega))⟩

set_option maxRecDepth 10000 in
set_option maxHeartbeats 1000000 in
theorem walk3 (w : World) (s : BitVec 64) (lv : Int) (h1 : lv ≠ 1) (h2 : lv ≠ 2) (v : Value) (l : List Int) (m : BitVec 64) (hlv : I64 lv) (hv : VS rInt w v l) (hi : ∀ x ∈ l, I64 x) :
    Calls Try.prog 8 #[nm s, .int .i64 lv, v, nm m] w fun e w' => e = .returned (.bool true) ∧ Below w.heap.size w w' := by
  obtain ⟨hs0, hm0, hF⟩ := signW_facts w s m
  obtain ⟨y, hy⟩ : ∃ y, mpubF s lv = y := ⟨_, rfl⟩
  have HY := Lib.hid hy
  have hyy := nmEq_self y
  have b1 : (lv == 1) = false := by rw [beq_eq_false_iff_ne]; exact h1
  have b2 : (lv == 2) = false := by rw [beq_eq_false_iff_ne]; exact h2
  have hvW := hv.next hF.1
  obtain ⟨n, hn⟩ : ∃ n, l.length = n := ⟨_, rfl⟩
  have HN := Lib.hid hn
  have HV := Lib.hid hv
  obtain ⟨A, c, e0, -⟩ := hv.form
  rw [hn] at e0
  subst e0
  clear hy hvW hn hv
  go_enter Try.func8, Try.ntmps8
  go_wp2_with fail
  refine (keyK.new (signW w s m) s lv hlv).mono ?_
  rintro e w1 ⟨pv, rfl, hpv, hki1, hB1⟩
  generalize signW w s m = W at *
  rw [if_neg (by omega)] at hpv
  subst hpv
  go_wp2_with fail
  refine wp_region_held_drew (S := fun w' => KI w' W.heap.size (.pointer none) s lv ∧ Below W.heap.size W w') (by kernel_rfl) ⟨keyK.keep hki1 (Below.refl _ _).drew, hB1.trans (Below.refl _ _).drew⟩ (fun hHeld => ?_)
  refine held_pure 0 18 ((.pointer none)) rfl (fun W => by rfl) hHeld ?_
  try simp only [Act.put, List.setIfInBounds_toArray, List.set_cons_zero, List.set_cons_succ]
  refine held_pure 1 19 (.bool false) rfl (fun W => by go_simp) hHeld ?_
  try simp only [Act.put, List.setIfInBounds_toArray, List.set_cons_zero, List.set_cons_succ]
  refine held_pure 2 20 (.int .i64 lv) rfl (fun W => by rfl) hHeld ?_
  try simp only [Act.put, List.setIfInBounds_toArray, List.set_cons_zero, List.set_cons_succ]
  refine held_pure 3 21 (.bool false) rfl (fun W => by go_simp) hHeld ?_
  try simp only [Act.put, List.setIfInBounds_toArray, List.set_cons_zero, List.set_cons_succ]
  refine held_pure 4 22 (.bool false) rfl (fun W => by rfl) hHeld ?_
  try simp only [Act.put, List.setIfInBounds_toArray, List.set_cons_zero, List.set_cons_succ]
  refine held_pure 5 23 (.int .i64 lv) rfl (fun W => by rfl) hHeld ?_
  try simp only [Act.put, List.setIfInBounds_toArray, List.set_cons_zero, List.set_cons_succ]
  refine held_pure 6 24 (.bool false) rfl (fun W => by go_simp) hHeld ?_
  try simp only [Act.put, List.setIfInBounds_toArray, List.set_cons_zero, List.set_cons_succ]
  refine held_pure 7 25 (.bool false) rfl (fun W => by rfl) hHeld ?_
  try simp only [Act.put, List.setIfInBounds_toArray, List.set_cons_zero, List.set_cons_succ]
  refine held_pure 8 26 (.bool false) rfl (fun W => by go_simp) hHeld ?_
  try simp only [Act.put, List.setIfInBounds_toArray, List.set_cons_zero, List.set_cons_succ]
  refine held_pure 9 27 (.bool false) rfl (fun W => by rfl) hHeld ?_
  try simp only [Act.put, List.setIfInBounds_toArray, List.set_cons_zero, List.set_cons_succ]
  refine held_pure 10 28 ((.pointer none)) rfl (fun W => by rfl) hHeld ?_
  try simp only [Act.put, List.setIfInBounds_toArray, List.set_cons_zero, List.set_cons_succ]
  refine held_load 12 30 rfl 30 (.tmp 4) rfl w.heap.size 0 rfl (nmR s) (fun w' h => range_is (cs := nmR s) (hs0.next h.2)) Try.underlying30 name_info hHeld ?_
  try simp only [Act.put, List.setIfInBounds_toArray, List.set_cons_zero, List.set_cons_succ]
  refine held_pure 13 31 (.int .i64 lv) rfl (fun W => by rfl) hHeld ?_
  try simp only [Act.put, List.setIfInBounds_toArray, List.set_cons_zero, List.set_cons_succ]
  refine held_one (i := 11) (by kernel_rfl) rfl (by rfl) (fun KK hK => ?_)
  go_wp2_with fail
  refine (keyK.pub _ _ _ s lv y hHeld.2.size hHeld.1 HY).mono ?_
  rintro e x1 ⟨rfl, hki2, hb⟩
  go_wp2_with fail
  refine hK.out _ _ ⟨hki2, hHeld.2.trans hb⟩ (fun hHeld1 => ?_)
  clear hK KK
  try simp only [Act.put, List.setIfInBounds_toArray, List.set_cons_zero, List.set_cons_succ]
  refine held_one (i := 14) (by kernel_rfl) rfl (by rfl) (fun KK hK => ?_)
  go_wp2_with fail
  refine (manN.pub _ s lv y hlv HY).mono ?_
  rintro e x2 ⟨rfl, hb⟩
  go_wp2_with fail
  refine hK.out _ _ ⟨keyK.keep hHeld1.1 hb, hHeld1.2.trans (hb.mono hHeld1.2.size)⟩ (fun hHeld2 => ?_)
  clear hK KK
  try simp only [Act.put, List.setIfInBounds_toArray, List.set_cons_zero, List.set_cons_succ]
  refine held_pure 15 33 (.bool false) rfl (fun W => by go_simp) hHeld2 ?_
  try simp only [Act.put, List.setIfInBounds_toArray, List.set_cons_zero, List.set_cons_succ]
  refine held_pure 16 34 (.bool false) rfl (fun W => by rfl) hHeld2 ?_
  try simp only [Act.put, List.setIfInBounds_toArray, List.set_cons_zero, List.set_cons_succ]
  refine wpAnyH_done (by kernel_rfl) ?_ _
  try simp only [Act.put, List.setIfInBounds_toArray, List.set_cons_zero, List.set_cons_succ]
  go_wp2_with fail
  have hki3 := hHeld2.1
  have hB3 := hHeld2.2
  clear hHeld2
  go_loopw [10] (fun i wr => ∃ k : Nat, k ≤ 4 ∧ k ≤ n ∧ i = .int .i64 (k : Int) ∧ KI wr W.heap.size (.pointer none) s lv ∧ Below W.heap.size W wr) (fun i _ => 4 - (intOf i).toNat)
  case atStart => exact ⟨0, Nat.zero_le _, Nat.zero_le _, rfl, hki3, hB3⟩
  case round =>
    clear hki3 hB3
    obtain ⟨k, hk4, hkn, rfl, hkr, hBr⟩ := hrel
    by_cases hlt : k < n ∧ k < 4
    · obtain ⟨hlt1, hlt2⟩ := hlt
      have s1 : (k : Int) < (n : Int) := by omega
      have s2 : (k : Int) < 4 := by omega
      have k0 : (0 : Int) ≤ (k : Int) := by omega
      obtain ⟨x, hx⟩ : ∃ x, l[k]? = some x := ⟨_, List.getElem?_eq_getElem (by have := HN.out; omega)⟩
      have HI := Lib.hid (hi x (List.mem_of_getElem? hx))
      obtain ⟨g, off, c', e1, hg, cs, rfl, hcell⟩ := HV.out.at_ hx
      injection e1 with e1 e2 e3
      subst e1 e3
      clear e2
      have HX : Hid (W.cell? ⟨g, off + k, none⟩ = some (.int .i64 x)) := Lib.hid (by
        have := hcell 0 (by rw [cellsI]; omega)
        rw [cellsI, Nat.mul_one, Nat.add_zero] at this
        exact (hF.1.cell (p := ⟨g, off + k, none⟩) hg).trans this)
      have HG : Hid (g < W.heap.size) := Lib.hid (by have := hF.2; omega)
      obtain ⟨⟨bs, ok⟩, hR⟩ : ∃ r, signP s lv x m = r := ⟨_, rfl⟩
      have HR := Lib.hid hR
      obtain ⟨ln, hln⟩ : ∃ ln, bs.length = ln := ⟨_, rfl⟩
      have HLN := Lib.hid hln
      clear hR hln hx hcell hg
      go_wp2_with fail
      refine wp_region_held_drew (S := fun w' => KI w' W.heap.size (.pointer none) s lv ∧ Below W.heap.size W w') (by kernel_rfl) ⟨keyK.keep hkr (Below.refl _ _).drew, hBr.trans (Below.refl _ _).drew⟩ (fun hHeld => ?_)
      refine held_pure 0 46 ((.pointer none)) rfl (fun W => by rfl) hHeld ?_
      try simp only [Act.put, List.setIfInBounds_toArray, List.set_cons_zero, List.set_cons_succ]
      refine held_pure 1 47 (.slice (some ⟨g, off, none⟩) n c) rfl (fun W => by rfl) hHeld ?_
      try simp only [Act.put, List.setIfInBounds_toArray, List.set_cons_zero, List.set_cons_succ]
      refine held_pure 2 48 (.int .i64 (k : Int)) rfl (fun W => by rfl) hHeld ?_
      try simp only [Act.put, List.setIfInBounds_toArray, List.set_cons_zero, List.set_cons_succ]
      refine held_pure 3 49 (.pointer (some ⟨g, off + k, none⟩)) rfl (fun W => by go_simp) hHeld ?_
      try simp only [Act.put, List.setIfInBounds_toArray, List.set_cons_zero, List.set_cons_succ]
      refine held_if 4 50 (.int .i64 x) rfl (fun w' h => by (have hc := (h.2.cell (p := ⟨g, off + k, none⟩) HG.out).trans HX.out; go_simp)) hHeld ?_
      try simp only [Act.put, List.setIfInBounds_toArray, List.set_cons_zero, List.set_cons_succ]
      refine held_load 5 51 rfl 30 (.tmp 7) rfl (w.heap.size + 1) 0 rfl (nmR m) (fun w' h => range_is (cs := nmR m) (hm0.next h.2)) Try.underlying30 name_info hHeld ?_
      try simp only [Act.put, List.setIfInBounds_toArray, List.set_cons_zero, List.set_cons_succ]
      refine held_one (i := 6) (by kernel_rfl) rfl (by rfl) (fun KK hK => ?_)
      go_wp2_with fail
      refine (keyK.sign _ _ _ s lv x m (bs, ok) hHeld.2.size hHeld.1 HI.out HR).mono ?_
      rintro e x1 ⟨u1, rfl, hu1, hki2, hb⟩
      obtain ⟨A1, c1, e1, -, -, hr1⟩ := hu1
      rw [HLN.out] at e1
      subst e1
      go_wp2_with fail
      refine hK.out _ _ ⟨hki2, hHeld.2.trans hb⟩ (fun hHeld1 => ?_)
      clear hK KK
      try simp only [Act.put, List.setIfInBounds_toArray, List.set_cons_zero, List.set_cons_succ]
      refine held_pure 7 45 (.tuple #[.slice A1 ln c1, .bool ok]) rfl (fun W => by rfl) hHeld1 ?_
      try simp only [Act.put, List.setIfInBounds_toArray, List.set_cons_zero, List.set_cons_succ]
      refine held_pure 8 53 (.slice A1 ln c1) rfl (fun W => by rfl) hHeld1 ?_
      try simp only [Act.put, List.setIfInBounds_toArray, List.set_cons_zero, List.set_cons_succ]
      refine held_pure 9 54 (.bool ok) rfl (fun W => by rfl) hHeld1 ?_
      try simp only [Act.put, List.setIfInBounds_toArray, List.set_cons_zero, List.set_cons_succ]
      refine held_pure 10 11 (.slice A1 ln c1) rfl (fun W => by rfl) hHeld1 ?_
      try simp only [Act.put, List.setIfInBounds_toArray, List.set_cons_zero, List.set_cons_succ]
      refine held_pure 11 12 (.bool ok) rfl (fun W => by rfl) hHeld1 ?_
      try simp only [Act.put, List.setIfInBounds_toArray, List.set_cons_zero, List.set_cons_succ]
      refine wpAnyH_done (by kernel_rfl) ?_ _
      try simp only [Act.put, List.setIfInBounds_toArray, List.set_cons_zero, List.set_cons_succ]
      go_wp2_with fail
      refine wp_region_held_drew (S := fun w' => (KI w' W.heap.size (.pointer none) s lv ∧ Below W.heap.size W w') ∧ RB w' w'.heap.size A1 bs) (by kernel_rfl) ⟨⟨keyK.keep hHeld1.1 (Below.refl _ _).drew, hHeld1.2.trans (Below.refl _ _).drew⟩, hr1⟩ (fun hG => ?_)
      refine held_load 0 56 rfl 30 (.tmp 4) rfl w.heap.size 0 rfl (nmR s) (fun w' h => range_is (cs := nmR s) (hs0.next h.1.2)) Try.underlying30 name_info hG ?_
      try simp only [Act.put, List.setIfInBounds_toArray, List.set_cons_zero, List.set_cons_succ]
      refine held_pure 1 57 (.int .i64 lv) rfl (fun W => by rfl) hG ?_
      try simp only [Act.put, List.setIfInBounds_toArray, List.set_cons_zero, List.set_cons_succ]
      refine held_pure 2 58 (.slice (some ⟨g, off, none⟩) n c) rfl (fun W => by rfl) hG ?_
      try simp only [Act.put, List.setIfInBounds_toArray, List.set_cons_zero, List.set_cons_succ]
      refine held_pure 3 59 (.int .i64 (k : Int)) rfl (fun W => by rfl) hG ?_
      try simp only [Act.put, List.setIfInBounds_toArray, List.set_cons_zero, List.set_cons_succ]
      refine held_pure 4 60 (.pointer (some ⟨g, off + k, none⟩)) rfl (fun W => by go_simp) hG ?_
      try simp only [Act.put, List.setIfInBounds_toArray, List.set_cons_zero, List.set_cons_succ]
      refine held_if 5 61 (.int .i64 x) rfl (fun w' h => by (have hc := (h.1.2.cell (p := ⟨g, off + k, none⟩) HG.out).trans HX.out; go_simp)) hG ?_
      try simp only [Act.put, List.setIfInBounds_toArray, List.set_cons_zero, List.set_cons_succ]
      refine held_load 6 62 rfl 30 (.tmp 7) rfl (w.heap.size + 1) 0 rfl (nmR m) (fun w' h => range_is (cs := nmR m) (hm0.next h.1.2)) Try.underlying30 name_info hG ?_
      try simp only [Act.put, List.setIfInBounds_toArray, List.set_cons_zero, List.set_cons_succ]
      refine held_one (i := 7) (by kernel_rfl) rfl (by rfl) (fun KK hK => ?_)
      go_wp2_with fail
      refine (manN.sign _ s lv x m (bs, ok) hlv HI.out HR).mono ?_
      rintro e x2 ⟨u2, rfl, ho2, hb⟩
      obtain ⟨A2, c2, e2, -, -, hr2⟩ := ho2.vb
      rw [HLN.out] at e2
      subst e2
      go_wp2_with fail
      refine hK.out _ _ ⟨⟨keyK.keep hG.1.1 hb, hG.1.2.trans (hb.mono hG.1.2.size)⟩, (hG.2.keep hb).mono hb.size⟩ (fun hG1 => ?_)
      clear hK KK
      try simp only [Act.put, List.setIfInBounds_toArray, List.set_cons_zero, List.set_cons_succ]
      refine held_pure 8 55 (.tuple #[.slice A2 ln c2, .bool ok]) rfl (fun W => by rfl) hG1 ?_
      try simp only [Act.put, List.setIfInBounds_toArray, List.set_cons_zero, List.set_cons_succ]
      refine held_pure 9 64 (.slice A2 ln c2) rfl (fun W => by rfl) hG1 ?_
      try simp only [Act.put, List.setIfInBounds_toArray, List.set_cons_zero, List.set_cons_succ]
      refine held_pure 10 65 (.bool ok) rfl (fun W => by rfl) hG1 ?_
      try simp only [Act.put, List.setIfInBounds_toArray, List.set_cons_zero, List.set_cons_succ]
      refine held_pure 11 13 (.slice A2 ln c2) rfl (fun W => by rfl) hG1 ?_
      try simp only [Act.put, List.setIfInBounds_toArray, List.set_cons_zero, List.set_cons_succ]
      refine held_pure 12 14 (.bool ok) rfl (fun W => by rfl) hG1 ?_
      try simp only [Act.put, List.setIfInBounds_toArray, List.set_cons_zero, List.set_cons_succ]
      refine wpAnyH_done (by kernel_rfl) ?_ _
      try simp only [Act.put, List.setIfInBounds_toArray, List.set_cons_zero, List.set_cons_succ]
      have hcv1 := run_convert_rb ln c1 HLN.out.symm _ hG1.2
      have hcv2 := run_convert_rb ln c2 HLN.out.symm _ hr2
      go_wp2_with fail
      go_roundw
      case rel => exact ⟨k + 1, by omega, by omega, by go_num, hG1.1.1, hG1.1.2⟩
      case measure => simp [intOf]; omega
    · have hB := hBr
      by_cases hlt1 : k < n
      · have s1 : (k : Int) < (n : Int) := by omega
        obtain rfl : k = 4 := by omega
        go_wp2_with (go_at_call 14; refine (awake_any _).mono ?_; rintro e x3 ⟨rfl, hb3⟩; have hB := hB.trans (hb3.mono hB.size))
        go_ret
        exact ⟨rfl, hF.1.trans (hB.mono (by have := hF.2; omega))⟩
      · obtain rfl : k = n := by omega
        go_wp2_with (go_at_call 14; refine (awake_any _).mono ?_; rintro e x3 ⟨rfl, hb3⟩; have hB := hB.trans (hb3.mono hB.size))
        go_ret
        exact ⟨rfl, hF.1.trans (hB.mono (by have := hF.2; omega))⟩

theorem walk (w : World) (s : BitVec 64) (lv : Int) (v : Value) (l : List Int) (m : BitVec 64) (hlv : I64 lv) (hv : VS rInt w v l) (hi : l.length * Try.prog.bytesOf 3 ≤ reachBytes ∧ ∀ x ∈ l, rInt.fine x) :
    Calls Try.prog 8 #[nm s, .int .i64 lv, v, nm m] w fun e w' => e = .returned (.bool true) ∧ Below w.heap.size w w' := by
  by_cases h1 : lv = 1
  · subst h1
    exact walk1 w s v l m hlv hv hi.2
  · by_cases h2 : lv = 2
    · subst h2
      exact walk2 w s v l m hlv hv hi.2
    · exact walk3 w s lv h1 h2 v l m hlv hv hi.2

set_option maxRecDepth 100000 in
/-- The law's step, at every reading. -/
theorem lifted (os : Os) (started : os.Started) (H : Type) (enc : TypeId × Value → H) :
    ReturnsInHanded {} Try.checked os 8 .any (Rows.manytimeKeysSpec.pre6 enc Try.prog Try.f8 Rows.manytimeKeysRow.domain false) (Rows.manytimeKeysSpec.post enc Try.prog Try.f8 false true false false) := by
  refine law_lifted (C := Try.checked) (n := 4) (tb := 4) own started (by kernel_rfl) Try.func8 rfl (by kernel_rfl)
    (of_decide_eq_true (by kernel_rfl)) (by kernel_rfl) (by kernel_rfl) Try.underlying4
    (fun ds hd => by match ds, hd with | [_, _, _, _], _ => rfl)
    (ChangeSpec.witness6 (enc := enc) (C := Try.checked) false ⟨#[], #[.agg #[.int .u8 0, .int .u8 0, .int .u8 0, .int .u8 0, .int .u8 0, .int .u8 0, .int .u8 0, .int .u8 0], .int .i64 0, .slice none 0 0, .agg #[.int .u8 0, .int .u8 0, .int .u8 0, .int .u8 0, .int .u8 0, .int .u8 0, .int .u8 0, .int .u8 0]], []⟩ 8 (by kernel_rfl) (by kernel_rfl) (by kernel_rfl) (by kernel_rfl)) ?_
  intro W base args ds ps hval hA hlt hsz
  rw [Try.params8] at hA hval
  obtain ⟨v0, vs0, d0, ds0, p0, q0, hargs, rfl, rfl, h0, r0⟩ := trodAll_cons hA
  obtain ⟨v1, vs1, d1, ds1, p1, q1, rfl, rfl, rfl, h1, r1⟩ := trodAll_cons r0
  obtain ⟨v2, vs2, d2, ds2, p2, q2, rfl, rfl, rfl, h2, r2⟩ := trodAll_cons r1
  obtain ⟨v3, vs3, d3, ds3, p3, q3, rfl, rfl, rfl, h3, r3⟩ := trodAll_cons r2
  obtain ⟨rfl, rfl, rfl⟩ := trodAll_nil r3
  obtain rfl : args = #[v0, v1, v2, v3] := by cases args; simp_all
  obtain ⟨x0, rfl, rfl⟩ := open_name Try.underlying30 Try.underlying5 cells1 cells8 (hval 0 _ v0 rfl rfl) h0
  obtain ⟨x1, rfl, rfl, rfl, wn1⟩ := open_int Try.underlying3 (hval 1 _ v1 rfl rfl) h1
  obtain ⟨a2, n2, c2, rfl⟩ := okWide_slice Try.underlying38 (hval 2 _ v2 rfl rfl)
  obtain ⟨l2, ⟨u2, hu2, hs2⟩, hf2⟩ := open_rep (repSlice Try.underlying38 rInt (by kernel_rfl) (by rw [cellsI]; omega)) rfl h2 (fun x hx => hlt x (by simp [hx])) hsz (j := 2) (by rw [Try.params8]; rfl) rfl
  cases hu2
  obtain ⟨x3, rfl, rfl⟩ := open_name Try.underlying30 Try.underlying5 cells1 cells8 (hval 3 _ v3 rfl rfl) h3
  exact walk W x0 x1 _ l2 x3 (bounds_i64 wn1) hs2 hf2

theorem proved : Rows.ManytimeKeysSaid :=
  OpenClaim.holds_of_wide 8 Try.f8 rfl rfl rfl rfl rfl rfl rfl ⟨rfl, rfl, rfl, rfl, rfl⟩ rfl rfl rfl rfl rfl (by kernel_rfl) Try.func8 (by kernel_rfl)
    (of_decide_eq_true (by kernel_rfl)) (by unfold Func.isWrapper; first | (rw [if_pos (by decide +kernel)]; kernel_rfl) | (rw [if_neg (by decide +kernel)]; exact ⟨rfl, rfl⟩))
    (fun os started H enc _ => lifted os started H enc)
#print axioms proved
end Go.Proofs.Ytjghengkpbokaaa.manytimeKeys
