/-
  2 texts in one file: Md8, Man5.
-/
import Derived.Test.YtjghengkpbokaaaG15

/-
  The developers' manytime: Verify.
-/
namespace Go.Fl
open Go.ChangeShapes Go.WideShapes Go.ChangeAt Go.RowKit
/-- x[:b] -/
theorem run_slice_to {P : Program} {ts te : TypeId} {i : TypeInfo} (hs : P.underlying ts = some (.slice te)) (hi : P.info? te = some i) (_h1 : i.size = 1) (g off n c k : Nat) {X : Int} (hX : Hid (X = (k : Int))) (hk : k ≤ n) (hc : n ≤ c) (W : World) :
    (Instr.slice ts (.slice (some ⟨g, off, none⟩) n c) none (some (.int .i64 X)) none).run P W = .ok (.slice (some ⟨g, off, none⟩) k c) W := by
  have hx := hX.out
  subst hx
  have h3 : (k : Int) ≤ (c : Int) := by omega
  simp [Instr.slice, run_underlying hs, Instr.sliceBounds, run_sliceBound, sizeOf, typeInfo, hi, h3, add_plain]
theorem run_slice_fromx {P : Program} {ts te : TypeId} {i : TypeInfo} (hs : P.underlying ts = some (.slice te)) (hi : P.info? te = some i) (h1 : i.size = 1) (A : Option Addr) (n c k : Nat) {X : Int} (hX : Hid (X = (k : Int))) (hk : k ≤ n) (W : World) :
    (Instr.slice ts (.slice A n c) (some (.int .i64 X)) none none).run P W = .ok (.slice (if c = k then A else A.map (·.add k)) (n - k) (c - k)) W := by
  rw [hX.out]
  exact run_slice_from hs hi h1 A n c k hk W
/-- What Verify has climbed to: the name, the number above. -/
def vst (m : BitVec 64) (l : List UInt8) : Nat → BitVec 64 × Nat
  | 0 => (m, leafN l)
  | k + 1 => (showF (vst m l k).1 l (2 + 184 * k) ((vst m l k).2 % 32), (vst m l k).2 / 32)
theorem ver_no (p : BitVec 64) (lv : Int) (m : BitVec 64) (l : List UInt8) (h : ¬ ((l.length : Int) = sizeF lv ∧ (leafN l : Int) < capF lv)) : verM p lv m l = false := by
  unfold verM
  rw [if_neg (fun hh => h hh.2)]
theorem ver_vst1 (p m : BitVec 64) (l : List UInt8) (h : (l.length : Int) = 186) (h2 : leafN l < 32) : verM p 1 m l = nmEq (vst m l 1).1 p := by
  unfold verM
  rw [if_pos ⟨Or.inl rfl, h, by show (leafN l : Int) < 32; omega⟩, if_pos rfl]
  rfl
theorem ver_vst2 (p m : BitVec 64) (l : List UInt8) (h : (l.length : Int) = 370) (h2 : leafN l < 1024) : verM p 2 m l = nmEq (vst m l 2).1 p := by
  unfold verM
  rw [if_pos ⟨Or.inr rfl, h, by show (leafN l : Int) < 1024; omega⟩, if_neg (by decide)]
  simp only [vst]
  rw [show leafN l / 32 % 32 = leafN l / 32 by omega]
end Go.Fl
namespace Go.Proofs.Ytjghengkpbokaaa
open Go.ChangeShapes Go.WideShapes Go.ChangeAt Go.RowKit Go.Fl

attribute [local go_sem] equal_nm eqGuard_nm

theorem dsize_v (w : World) (n Z : Int) (h : Hid (sizeF n = Z)) : Calls Try.prog 12 #[.int .i64 n] w fun e w' => e = .returned (.int .i64 Z) ∧ w = w' := by
  rw [← h.out]
  exact dsize_any w n
theorem dleaf_yes (A : Option Addr) (l : List UInt8) (n c N : Nat) (hn : n = l.length) (hc : l.length ≤ c) (hm : l.length ≤ 281474976710656) (h2 : 2 ≤ l.length) (hN : Hid (leafN l = N)) (w : World) (hr : RB w w.heap.size A l) :
    Calls Try.prog 9 #[.slice A n c] w fun e w' => e = .returned (.tuple #[.int .i64 (N : Int), .bool true]) ∧ w = w' := by
  have h := dleaf_any A l n c hn hc hm w hr
  unfold leafP at h
  rw [if_pos h2, hN.out] at h
  exact h
theorem dleaf_no (A : Option Addr) (l : List UInt8) (n c : Nat) (hn : n = l.length) (hc : l.length ≤ c) (hm : l.length ≤ 281474976710656) (h2 : ¬ 2 ≤ l.length) (w : World) (hr : RB w w.heap.size A l) :
    Calls Try.prog 9 #[.slice A n c] w fun e w' => e = .returned (.tuple #[.int .i64 0, .bool false]) ∧ w = w' := by
  have h := dleaf_any A l n c hn hc hm w hr
  unfold leafP at h
  rw [if_neg h2] at h
  exact h

set_option maxHeartbeats 600000 in
theorem dver_no (w : World) (p : BitVec 64) (lv : Int) (m : BitVec 64) (A : Option Addr) (l : List UInt8) (n c : Nat) (hn : n = l.length) (hc : l.length ≤ c) (hm : l.length ≤ 281474976710656) (hr : RB w w.heap.size A l) (h : ¬ ((l.length : Int) = sizeF lv ∧ (leafN l : Int) < capF lv)) :
    Calls Try.prog 19 #[nm p, .int .i64 lv, nm m, .slice A n c] w fun e w' => e = .returned (.bool false) ∧ Below w.heap.size w w' := by
  obtain ⟨hb, hm', hF⟩ := signW_facts w p m
  have HR := Lib.hid ((hr.keep hF.1).mono hF.1.size)
  clear hr
  by_cases h2 : 2 ≤ l.length
  · obtain ⟨N, hN⟩ : ∃ N, leafN l = N := ⟨_, rfl⟩
    obtain ⟨C, hC⟩ : ∃ C, capF lv = C := ⟨_, rfl⟩
    obtain ⟨Z, hZ⟩ : ∃ Z, sizeF lv = Z := ⟨_, rfl⟩
    rw [hN, hC, hZ] at h
    have HN := Lib.hid hN
    have HC := Lib.hid hC
    have HZ := Lib.hid hZ
    have HNL := Lib.hid hn
    clear hN hC hZ
    by_cases h3 : C ≤ (N : Int)
    · have h4 : decide (C ≤ (N : Int)) = true := by rw [decide_eq_true_iff]; exact h3
      clear h hn
      go_enter Try.func19, Try.ntmps19
      go_wp2_with (first
        | (go_at_call 9; refine (dleaf_yes A l n c N HNL.out hc hm h2 HN _ HR.out).mono ?_; rintro e w1 ⟨rfl, rfl⟩)
        | (go_at_call 10; refine (dcap_v _ lv C HC).mono ?_; rintro e w1 ⟨rfl, rfl⟩)
        | fail)
      go_ret
      exact ⟨rfl, hF.1⟩
    · have h4 : decide (C ≤ (N : Int)) = false := by rw [decide_eq_false_iff_not]; exact h3
      have h5 : ¬ ((n : Int) = Z) := fun e => h ⟨by omega, by omega⟩
      have b1 : ((n : Int) == Z) = false := by rw [beq_eq_false_iff_ne]; exact h5
      have b2 : ((n : Int) != Z) = true := by rw [bne, b1]; rfl
      have b3 : decide ((n : Int) = Z) = false := by rw [decide_eq_false_iff_not]; exact h5
      clear h hn
      go_enter Try.func19, Try.ntmps19
      go_wp2_with (first
        | (go_at_call 9; refine (dleaf_yes A l n c N HNL.out hc hm h2 HN _ HR.out).mono ?_; rintro e w1 ⟨rfl, rfl⟩)
        | (go_at_call 10; refine (dcap_v _ lv C HC).mono ?_; rintro e w1 ⟨rfl, rfl⟩)
        | (go_at_call 12; refine (dsize_v _ lv Z HZ).mono ?_; rintro e w1 ⟨rfl, rfl⟩)
        | fail)
      go_ret
      exact ⟨rfl, hF.1⟩
  · have HNL := Lib.hid hn
    clear h hn
    go_enter Try.func19, Try.ntmps19
    go_wp2_with (first
      | (go_at_call 9; refine (dleaf_no A l n c HNL.out hc hm h2 _ HR.out).mono ?_; rintro e w1 ⟨rfl, rfl⟩)
      | fail)
    go_ret
    exact ⟨rfl, hF.1⟩

set_option maxRecDepth 10000 in
set_option maxHeartbeats 2000000 in
theorem dver_1 (w : World) (p m : BitVec 64) (A : Option Addr) (l : List UInt8) (c : Nat) (hl : l.length = 186) (hc : 186 ≤ c) (hc63 : c ≤ 9223372036854775807) (hr : RB w w.heap.size A l) (hlf : leafN l < 32) (r : Bool) (hr0 : Hid (nmEq (vst m l 1).1 p = r)) :
    Calls Try.prog 19 #[nm p, .int .i64 1, nm m, .slice A 186 c] w fun e w' => e = .returned (.bool r) ∧ Below w.heap.size w w' := by
  obtain ⟨hb, hm, hF⟩ := signW_facts w p m
  obtain ⟨g, off, rfl, hg, -⟩ := hr (by omega)
  have HR := Lib.hid hr
  obtain ⟨i1, hi1, h10, h11, h12⟩ := info_parts info_byte
  have HI1 := Lib.hid hi1
  have H11 := Lib.hid h11
  have hsl0 := fun (W : World) => run_from_at (P := Try.prog) Try.underlying22 HI1.out H11.out g off 186 c 2 (X := 2) (Lib.hid rfl) (by omega) (by omega) W
  obtain ⟨N, hN⟩ : ∃ N, leafN l = N := ⟨_, rfl⟩
  rw [hN] at hlf
  have HN := Lib.hid hN
  have HL := Lib.hid hl
  have HRW := Lib.hid ((hr.keep hF.1).mono hF.1.size)
  have f1 : decide ((32 : Int) ≤ (N : Int)) = false := by rw [decide_eq_false_iff_not]; omega
  have f2 : (N : Int) < 32 := by omega
  clear hr hi1 h10 h11 h12 hN hl
  go_enter Try.func19, Try.ntmps19
  go_wp2_with (first
    | (go_at_call 9; refine (dleaf_yes _ l 186 c N HL.out.symm (by have := HL.out; omega) (by have := HL.out; omega) (by have := HL.out; omega) HN _ HRW.out).mono ?_; rintro e w1 ⟨rfl, rfl⟩)
    | (go_at_call 10; refine (dcap_v _ 1 32 (Lib.hid rfl)).mono ?_; rintro e w1 ⟨rfl, rfl⟩)
    | (go_at_call 12; refine (dsize_v _ 1 186 (Lib.hid rfl)).mono ?_; rintro e w1 ⟨rfl, rfl⟩)
    | fail)
  change Code.wp _ _ _ _ (signW w p m)
  generalize signW w p m = W at *
  refine wp_region_held_drew (S := fun w' => Below W.heap.size W w') (by kernel_rfl) (Below.refl _ _).drew (fun hHeld => ?_)
  refine held_load 0 33 rfl 30 (.tmp 6) rfl (w.heap.size + 1) 0 rfl (nmR m) (fun w' h => range_is (cs := nmR m) (hm.next h)) Try.underlying30 name_info hHeld ?_
  try simp only [Act.put, List.setIfInBounds_toArray, List.set_cons_zero, List.set_cons_succ]
  refine held_pure 1 34 (.slice (some ⟨g, off, none⟩) 186 c) rfl (fun W => by rfl) hHeld ?_
  try simp only [Act.put, List.setIfInBounds_toArray, List.set_cons_zero, List.set_cons_succ]
  refine held_pure 2 35 (.slice (some ⟨g, off + 2, none⟩) 184 (c - 2)) rfl (fun W => by go_simp) hHeld ?_
  try simp only [Act.put, List.setIfInBounds_toArray, List.set_cons_zero, List.set_cons_succ]
  refine held_one (i := 3) (by kernel_rfl) rfl (by rfl) (fun KK hK => ?_)
  go_wp2_with fail
  refine hK.out _ _ (hHeld.trans ((Below.refl _ _).alloc hHeld.size _)) (fun hHeld1 => ?_)
  clear hK KK
  try simp only [Act.put, List.setIfInBounds_toArray, List.set_cons_zero, List.set_cons_succ]
  refine held_one (i := 4) (by kernel_rfl) rfl (by rfl) (fun KK hK => ?_)
  refine oper_store_is 30 (.tmp 11) (.tmp 33) rfl W.heap.size 30 _ (nmC m) rfl rfl (Is.drew (Is.new W 30 #[B 0, B 0, B 0, B 0, B 0, B 0, B 0, B 0])) (nmC_size _) name_info (nmC_one _) ?_
  intro w1 hz1 hb1 hfar1
  refine hK.out _ _ (hHeld1.trans hb1) (fun hHeld2 => ?_)
  clear hK KK
  try simp only [Act.put, List.setIfInBounds_toArray]
  refine held_pure 5 12 (.slice (some ⟨g, off + 2, none⟩) 184 (c - 2)) rfl (fun W => by rfl) hHeld2 ?_
  try simp only [Act.put]
  refine wpAnyH_done (by kernel_rfl) ?_ _
  try simp only [Act.put, List.setIfInBounds_toArray, List.set_cons_zero, List.set_cons_succ]
  have hF1 := hF.next hHeld2
  have hb1 := hb.next hHeld2
  have hpb : w.heap.size + 2 ≤ W.heap.size := hF.2
  obtain ⟨pb, hpe⟩ : ∃ pb, W.heap.size = pb := ⟨_, rfl⟩
  rw [hpe] at hz1 hpb
  rw [hpe]
  clear hm hF hb hfar1 hsl0 HRW
  go_wp2_with fail
  go_loopw [9, 12, 37] (fun lf rs i wr => ∃ (k a : Nat) (x : BitVec 64), k ≤ 1 ∧ i = .int .i64 (k : Int) ∧ lf = .int .i64 (a : Int) ∧ (k < 1 → rs = .slice (some ⟨g, off + (2 + 184 * k), none⟩) (186 - (2 + 184 * k)) (c - (2 + 184 * k))) ∧ a < 1024 ∧ Hid (vst m l k = (x, a)) ∧ Is wr pb 30 (nmC x) ∧ Is wr w.heap.size 30 (nmC p) ∧ Fr w 2 wr) (fun _ _ i _ => 1 - (intOf i).toNat)
  case atStart => exact ⟨0, N, m, by omega, rfl, rfl, fun _ => rfl, by omega, Lib.hid (by rw [← HN.out]; rfl), hz1, hb1, hF1⟩
  case round =>
    clear hb1 hF1 hz1 f1 f2
    obtain ⟨k, a, x, hk, rfl, rfl, hrs, ha, hst, hz, hb, hF⟩ := hrel
    by_cases hlt : k < 1
    · obtain ⟨q, hq⟩ : ∃ q, a % 32 = q := ⟨_, rfl⟩
      obtain ⟨d, hd⟩ : ∃ d, a / 32 = d := ⟨_, rfl⟩
      have hq1 : (a : Int) % 32 = (q : Int) := by omega
      have hq2 : Int.tmod (a : Int) 32 = (q : Int) := by rw [Int.tmod_eq_emod_of_nonneg (by omega)]; exact hq1
      have hd1 : (a : Int) / 32 = (d : Int) := by omega
      have hd2 : Int.tdiv (a : Int) 32 = (d : Int) := by rw [Int.tdiv_eq_ediv_of_nonneg (by omega)]; exact hd1
      have hq32 : q < 32 := by omega
      have hd32 : d < 1024 := by omega
      have hwd : IntKind.i64.wrap (d : Int) = (d : Int) := by rw [IntKind.wrap_i64]; omega
      have hwq : IntKind.i64.wrap (q : Int) = (q : Int) := by rw [IntKind.wrap_i64]; omega
      obtain ⟨P, hP⟩ : ∃ P, 2 + 184 * k = P := ⟨_, rfl⟩
      have hPN : P + 184 ≤ 186 := by omega
      replace hrs := hrs hlt
      rw [hP] at hrs
      obtain ⟨nn, hnn⟩ : ∃ nn, 186 - P = nn := ⟨_, rfl⟩
      obtain ⟨cc, hcc⟩ : ∃ cc, c - P = cc := ⟨_, rfl⟩
      rw [hnn, hcc] at hrs
      subst hrs
      have hn184 : 184 ≤ nn := by omega
      have hncc : nn ≤ cc := by omega
      have hto := fun (W : World) => run_slice_to (P := Try.prog) Try.underlying22 HI1.out H11.out g (off + P) nn cc 184 (X := 184) (Lib.hid rfl) hn184 hncc W
      have hfr := fun (W : World) => run_slice_fromx (P := Try.prog) Try.underlying22 HI1.out H11.out (some ⟨g, off + P, none⟩) nn cc 184 (X := 184) (Lib.hid rfl) hn184 W
      obtain ⟨A2, hA2⟩ : ∃ A2, (if cc = 184 then some ⟨g, off + P, none⟩ else (some ⟨g, off + P, none⟩ : Option Addr).map (·.add 184)) = A2 := ⟨_, rfl⟩
      rw [hA2] at hfr
      obtain ⟨y, hy⟩ : ∃ y, showF x l P q = y := ⟨_, rfl⟩
      have HY : Hid (partF x ((l.drop P).take 184) q = y) := Lib.hid (by rw [partF_show, hy])
      have HNX : Hid (vst m l (k + 1) = (y, d)) := Lib.hid (by
        show (showF (vst m l k).1 l (2 + 184 * k) ((vst m l k).2 % 32), (vst m l k).2 / 32) = _
        rw [hst.out, hP, hq, hd, hy])
      have hlp : ((l.drop P).take 184).length = 184 := by rw [List.length_take, List.length_drop, HL.out]; omega
      have HLP := Lib.hid hlp
      have hrp : RB w w.heap.size (some ⟨g, off + P, none⟩) ((l.drop P).take 184) := by
        have h := (HR.out.drop P).take 184
        simpa [add_plain] using h
      have HRP := Lib.hid hrp
      have HA2 := Lib.hid hA2
      have HP := Lib.hid hP
      have HNN := Lib.hid hnn
      have HCC := Lib.hid hcc
      have hzlt := hz.lt
      have k1 : (k : Int) < 1 := by omega
      clear hq hd hq1 hP hnn hcc hA2 hy hst hlp hrp
      go_wp2_with fail
      refine wp_region_held_drew (S := fun w' => Fr w 2 w') (by kernel_rfl) hF.drew (fun hHeld => ?_)
      refine held_pure 1 41 (.int .i64 (a : Int)) rfl (fun W => by rfl) hHeld ?_
      try simp only [Act.put, List.setIfInBounds_toArray, List.set_cons_zero, List.set_cons_succ]
      refine held_pure 2 42 (.int .i64 (q : Int)) rfl (fun W => by go_simp) hHeld ?_
      try simp only [Act.put, List.setIfInBounds_toArray, List.set_cons_zero, List.set_cons_succ]
      refine held_pure 3 43 (.slice (some ⟨g, off + P, none⟩) nn cc) rfl (fun W => by rfl) hHeld ?_
      try simp only [Act.put, List.setIfInBounds_toArray, List.set_cons_zero, List.set_cons_succ]
      refine held_pure 4 44 (.slice (some ⟨g, off + P, none⟩) 184 cc) rfl (fun W => by go_simp) hHeld ?_
      try simp only [Act.put, List.setIfInBounds_toArray, List.set_cons_zero, List.set_cons_succ]
      refine held_one (i := 0) (by kernel_rfl) rfl (by rfl) (fun KK hK => ?_)
      refine wp_load_mid 30 (.tmp 11) rfl pb 0 rfl (nmR x) _ (range_is (cs := nmR x) hz.drew) Try.underlying30 rfl name_info ?_
      refine hK.out _ _ hHeld (fun hHeld1 => ?_)
      clear hK KK
      try simp only [Act.put, List.setIfInBounds_toArray]
      refine held_one (i := 5) (by kernel_rfl) rfl (by rfl) (fun KK hK => ?_)
      go_wp2_with fail
      refine (dclimb_any x q hq32 _ rfl _ _ cc HLP.out (by omega) y HY _ ((HRP.out.keep hHeld1.1).mono hHeld1.1.size)).mono ?_
      rintro e w2 ⟨rfl, hb2⟩
      have hz2 := hz.drew.next hb2
      have hp2 := hb.drew.next hb2
      go_wp2_with fail
      refine hK.out _ _ (hHeld1.next hb2) (fun hHeld2 => ?_)
      clear hK KK
      try simp only [Act.put, List.setIfInBounds_toArray, List.set_cons_zero, List.set_cons_succ]
      refine held_pure 6 39 (.tuple #[nm y, .bool true]) rfl (fun W => by rfl) hHeld2 ?_
      try simp only [Act.put, List.setIfInBounds_toArray, List.set_cons_zero, List.set_cons_succ]
      refine held_pure 7 46 (nm y) rfl (fun W => by rfl) hHeld2 ?_
      try simp only [Act.put, List.setIfInBounds_toArray, List.set_cons_zero, List.set_cons_succ]
      refine held_pure 8 47 (.bool true) rfl (fun W => by rfl) hHeld2 ?_
      try simp only [Act.put, List.setIfInBounds_toArray, List.set_cons_zero, List.set_cons_succ]
      refine held_one (i := 9) (by kernel_rfl) rfl (by rfl) (fun KK hK => ?_)
      refine oper_store_is 30 (.tmp 11) (.tmp 46) rfl pb 30 _ (nmC y) rfl rfl hz2 (nmC_size _) name_info (nmC_one _) ?_
      intro w3 hz3 hb3 hfar3
      have hp3 := (hfar3 w.heap.size (by omega)).trans hp2
      refine hK.out _ _ (hHeld2.step hb3 (by omega)) (fun hHeld3 => ?_)
      clear hK KK
      try simp only [Act.put, List.setIfInBounds_toArray]
      refine held_pure 10 10 (.bool true) rfl (fun W => by rfl) hHeld3 ?_
      try simp only [Act.put]
      refine wpAnyH_done (by kernel_rfl) ?_ _
      try simp only [Act.put, List.setIfInBounds_toArray, List.set_cons_zero, List.set_cons_succ]
      go_wp2_with fail
      refine wp_region_held_drew (S := fun w' => Fr w 2 w') (by kernel_rfl) (hHeld3).drew (fun hHz => ?_)
      refine held_pure 0 50 (.int .i64 (a : Int)) rfl (fun W => by rfl) hHz ?_
      try simp only [Act.put, List.setIfInBounds_toArray, List.set_cons_zero, List.set_cons_succ]
      refine held_pure 1 51 (.int .i64 (d : Int)) rfl (fun W => by go_simp) hHz ?_
      try simp only [Act.put, List.setIfInBounds_toArray, List.set_cons_zero, List.set_cons_succ]
      refine held_pure 2 52 (.slice (some ⟨g, off + P, none⟩) nn cc) rfl (fun W => by rfl) hHz ?_
      try simp only [Act.put, List.setIfInBounds_toArray, List.set_cons_zero, List.set_cons_succ]
      refine held_pure 3 53 (.slice A2 (nn - 184) (cc - 184)) rfl (fun W => by go_simp) hHz ?_
      try simp only [Act.put, List.setIfInBounds_toArray, List.set_cons_zero, List.set_cons_succ]
      refine held_pure 4 9 (.int .i64 (d : Int)) rfl (fun W => by rfl) hHz ?_
      try simp only [Act.put, List.setIfInBounds_toArray, List.set_cons_zero, List.set_cons_succ]
      refine held_pure 5 12 (.slice A2 (nn - 184) (cc - 184)) rfl (fun W => by rfl) hHz ?_
      try simp only [Act.put, List.setIfInBounds_toArray, List.set_cons_zero, List.set_cons_succ]
      refine wpAnyH_done (by kernel_rfl) ?_ _
      try simp only [Act.put, List.setIfInBounds_toArray, List.set_cons_zero, List.set_cons_succ]
      go_wp2_with fail
      go_roundw
      case rel =>
        refine ⟨k + 1, d, y, by omega, by go_num, rfl, fun h => ?_, hd32, HNX, hz3, hp3, hHz⟩
        have := HP.out
        have := HNN.out
        have := HCC.out
        rw [← HA2.out, if_neg (by omega)]
        simp only [Option.map_some, add_plain]
        rw [show off + P + 184 = off + (2 + 184 * (k + 1)) by omega, show nn - 184 = 186 - (2 + 184 * (k + 1)) by omega, show cc - 184 = c - (2 + 184 * (k + 1)) by omega]
      case measure => simp [intOf]; omega
    · obtain rfl : k = 1 := by omega
      have hx := hst.out
      have hxr : nmEq x p = r := by rw [← hr0.out, hx]
      have hrx : wr.rangeAt pb 0 (nmR x) := range_is (cs := nmR x) hz
      have hrp : wr.rangeAt w.heap.size 0 (nmR p) := range_is (cs := nmR p) hb
      clear hrs hst hx hz hb
      go_wp2_with (first
        | (refine wpList_load_mid rfl 30 (.tmp 11) rfl pb 0 (by rfl) (nmR x) _ hrx Try.underlying30 rfl name_info ?_)
        | (refine wpList_load_mid rfl 30 (.tmp 4) rfl w.heap.size 0 (by rfl) (nmR p) _ hrp Try.underlying30 rfl name_info ?_)
        | fail)
      go_ret
      exact ⟨by rw [← hxr]; rfl, hF.1⟩

set_option maxRecDepth 10000 in
set_option maxHeartbeats 2000000 in
theorem dver_2 (w : World) (p m : BitVec 64) (A : Option Addr) (l : List UInt8) (c : Nat) (hl : l.length = 370) (hc : 370 ≤ c) (hc63 : c ≤ 9223372036854775807) (hr : RB w w.heap.size A l) (hlf : leafN l < 1024) (r : Bool) (hr0 : Hid (nmEq (vst m l 2).1 p = r)) :
    Calls Try.prog 19 #[nm p, .int .i64 2, nm m, .slice A 370 c] w fun e w' => e = .returned (.bool r) ∧ Below w.heap.size w w' := by
  obtain ⟨hb, hm, hF⟩ := signW_facts w p m
  obtain ⟨g, off, rfl, hg, -⟩ := hr (by omega)
  have HR := Lib.hid hr
  obtain ⟨i1, hi1, h10, h11, h12⟩ := info_parts info_byte
  have HI1 := Lib.hid hi1
  have H11 := Lib.hid h11
  have hsl0 := fun (W : World) => run_from_at (P := Try.prog) Try.underlying22 HI1.out H11.out g off 370 c 2 (X := 2) (Lib.hid rfl) (by omega) (by omega) W
  obtain ⟨N, hN⟩ : ∃ N, leafN l = N := ⟨_, rfl⟩
  rw [hN] at hlf
  have HN := Lib.hid hN
  have HL := Lib.hid hl
  have HRW := Lib.hid ((hr.keep hF.1).mono hF.1.size)
  have f1 : decide ((1024 : Int) ≤ (N : Int)) = false := by rw [decide_eq_false_iff_not]; omega
  have f2 : (N : Int) < 1024 := by omega
  clear hr hi1 h10 h11 h12 hN hl
  go_enter Try.func19, Try.ntmps19
  go_wp2_with (first
    | (go_at_call 9; refine (dleaf_yes _ l 370 c N HL.out.symm (by have := HL.out; omega) (by have := HL.out; omega) (by have := HL.out; omega) HN _ HRW.out).mono ?_; rintro e w1 ⟨rfl, rfl⟩)
    | (go_at_call 10; refine (dcap_v _ 2 1024 (Lib.hid rfl)).mono ?_; rintro e w1 ⟨rfl, rfl⟩)
    | (go_at_call 12; refine (dsize_v _ 2 370 (Lib.hid rfl)).mono ?_; rintro e w1 ⟨rfl, rfl⟩)
    | fail)
  change Code.wp _ _ _ _ (signW w p m)
  generalize signW w p m = W at *
  refine wp_region_held_drew (S := fun w' => Below W.heap.size W w') (by kernel_rfl) (Below.refl _ _).drew (fun hHeld => ?_)
  refine held_load 0 33 rfl 30 (.tmp 6) rfl (w.heap.size + 1) 0 rfl (nmR m) (fun w' h => range_is (cs := nmR m) (hm.next h)) Try.underlying30 name_info hHeld ?_
  try simp only [Act.put, List.setIfInBounds_toArray, List.set_cons_zero, List.set_cons_succ]
  refine held_pure 1 34 (.slice (some ⟨g, off, none⟩) 370 c) rfl (fun W => by rfl) hHeld ?_
  try simp only [Act.put, List.setIfInBounds_toArray, List.set_cons_zero, List.set_cons_succ]
  refine held_pure 2 35 (.slice (some ⟨g, off + 2, none⟩) 368 (c - 2)) rfl (fun W => by go_simp) hHeld ?_
  try simp only [Act.put, List.setIfInBounds_toArray, List.set_cons_zero, List.set_cons_succ]
  refine held_one (i := 3) (by kernel_rfl) rfl (by rfl) (fun KK hK => ?_)
  go_wp2_with fail
  refine hK.out _ _ (hHeld.trans ((Below.refl _ _).alloc hHeld.size _)) (fun hHeld1 => ?_)
  clear hK KK
  try simp only [Act.put, List.setIfInBounds_toArray, List.set_cons_zero, List.set_cons_succ]
  refine held_one (i := 4) (by kernel_rfl) rfl (by rfl) (fun KK hK => ?_)
  refine oper_store_is 30 (.tmp 11) (.tmp 33) rfl W.heap.size 30 _ (nmC m) rfl rfl (Is.drew (Is.new W 30 #[B 0, B 0, B 0, B 0, B 0, B 0, B 0, B 0])) (nmC_size _) name_info (nmC_one _) ?_
  intro w1 hz1 hb1 hfar1
  refine hK.out _ _ (hHeld1.trans hb1) (fun hHeld2 => ?_)
  clear hK KK
  try simp only [Act.put, List.setIfInBounds_toArray]
  refine held_pure 5 12 (.slice (some ⟨g, off + 2, none⟩) 368 (c - 2)) rfl (fun W => by rfl) hHeld2 ?_
  try simp only [Act.put]
  refine wpAnyH_done (by kernel_rfl) ?_ _
  try simp only [Act.put, List.setIfInBounds_toArray, List.set_cons_zero, List.set_cons_succ]
  have hF1 := hF.next hHeld2
  have hb1 := hb.next hHeld2
  have hpb : w.heap.size + 2 ≤ W.heap.size := hF.2
  obtain ⟨pb, hpe⟩ : ∃ pb, W.heap.size = pb := ⟨_, rfl⟩
  rw [hpe] at hz1 hpb
  rw [hpe]
  clear hm hF hb hfar1 hsl0 HRW
  go_wp2_with fail
  go_loopw [9, 12, 37] (fun lf rs i wr => ∃ (k a : Nat) (x : BitVec 64), k ≤ 2 ∧ i = .int .i64 (k : Int) ∧ lf = .int .i64 (a : Int) ∧ (k < 2 → rs = .slice (some ⟨g, off + (2 + 184 * k), none⟩) (370 - (2 + 184 * k)) (c - (2 + 184 * k))) ∧ a < 1024 ∧ Hid (vst m l k = (x, a)) ∧ Is wr pb 30 (nmC x) ∧ Is wr w.heap.size 30 (nmC p) ∧ Fr w 2 wr) (fun _ _ i _ => 2 - (intOf i).toNat)
  case atStart => exact ⟨0, N, m, by omega, rfl, rfl, fun _ => rfl, by omega, Lib.hid (by rw [← HN.out]; rfl), hz1, hb1, hF1⟩
  case round =>
    clear hb1 hF1 hz1 f1 f2
    obtain ⟨k, a, x, hk, rfl, rfl, hrs, ha, hst, hz, hb, hF⟩ := hrel
    by_cases hlt : k < 2
    · obtain ⟨q, hq⟩ : ∃ q, a % 32 = q := ⟨_, rfl⟩
      obtain ⟨d, hd⟩ : ∃ d, a / 32 = d := ⟨_, rfl⟩
      have hq1 : (a : Int) % 32 = (q : Int) := by omega
      have hq2 : Int.tmod (a : Int) 32 = (q : Int) := by rw [Int.tmod_eq_emod_of_nonneg (by omega)]; exact hq1
      have hd1 : (a : Int) / 32 = (d : Int) := by omega
      have hd2 : Int.tdiv (a : Int) 32 = (d : Int) := by rw [Int.tdiv_eq_ediv_of_nonneg (by omega)]; exact hd1
      have hq32 : q < 32 := by omega
      have hd32 : d < 1024 := by omega
      have hwd : IntKind.i64.wrap (d : Int) = (d : Int) := by rw [IntKind.wrap_i64]; omega
      have hwq : IntKind.i64.wrap (q : Int) = (q : Int) := by rw [IntKind.wrap_i64]; omega
      obtain ⟨P, hP⟩ : ∃ P, 2 + 184 * k = P := ⟨_, rfl⟩
      have hPN : P + 184 ≤ 370 := by omega
      replace hrs := hrs hlt
      rw [hP] at hrs
      obtain ⟨nn, hnn⟩ : ∃ nn, 370 - P = nn := ⟨_, rfl⟩
      obtain ⟨cc, hcc⟩ : ∃ cc, c - P = cc := ⟨_, rfl⟩
      rw [hnn, hcc] at hrs
      subst hrs
      have hn184 : 184 ≤ nn := by omega
      have hncc : nn ≤ cc := by omega
      have hto := fun (W : World) => run_slice_to (P := Try.prog) Try.underlying22 HI1.out H11.out g (off + P) nn cc 184 (X := 184) (Lib.hid rfl) hn184 hncc W
      have hfr := fun (W : World) => run_slice_fromx (P := Try.prog) Try.underlying22 HI1.out H11.out (some ⟨g, off + P, none⟩) nn cc 184 (X := 184) (Lib.hid rfl) hn184 W
      obtain ⟨A2, hA2⟩ : ∃ A2, (if cc = 184 then some ⟨g, off + P, none⟩ else (some ⟨g, off + P, none⟩ : Option Addr).map (·.add 184)) = A2 := ⟨_, rfl⟩
      rw [hA2] at hfr
      obtain ⟨y, hy⟩ : ∃ y, showF x l P q = y := ⟨_, rfl⟩
      have HY : Hid (partF x ((l.drop P).take 184) q = y) := Lib.hid (by rw [partF_show, hy])
      have HNX : Hid (vst m l (k + 1) = (y, d)) := Lib.hid (by
        show (showF (vst m l k).1 l (2 + 184 * k) ((vst m l k).2 % 32), (vst m l k).2 / 32) = _
        rw [hst.out, hP, hq, hd, hy])
      have hlp : ((l.drop P).take 184).length = 184 := by rw [List.length_take, List.length_drop, HL.out]; omega
      have HLP := Lib.hid hlp
      have hrp : RB w w.heap.size (some ⟨g, off + P, none⟩) ((l.drop P).take 184) := by
        have h := (HR.out.drop P).take 184
        simpa [add_plain] using h
      have HRP := Lib.hid hrp
      have HA2 := Lib.hid hA2
      have HP := Lib.hid hP
      have HNN := Lib.hid hnn
      have HCC := Lib.hid hcc
      have hzlt := hz.lt
      have k1 : (k : Int) < 2 := by omega
      clear hq hd hq1 hP hnn hcc hA2 hy hst hlp hrp
      go_wp2_with fail
      refine wp_region_held_drew (S := fun w' => Fr w 2 w') (by kernel_rfl) hF.drew (fun hHeld => ?_)
      refine held_pure 1 41 (.int .i64 (a : Int)) rfl (fun W => by rfl) hHeld ?_
      try simp only [Act.put, List.setIfInBounds_toArray, List.set_cons_zero, List.set_cons_succ]
      refine held_pure 2 42 (.int .i64 (q : Int)) rfl (fun W => by go_simp) hHeld ?_
      try simp only [Act.put, List.setIfInBounds_toArray, List.set_cons_zero, List.set_cons_succ]
      refine held_pure 3 43 (.slice (some ⟨g, off + P, none⟩) nn cc) rfl (fun W => by rfl) hHeld ?_
      try simp only [Act.put, List.setIfInBounds_toArray, List.set_cons_zero, List.set_cons_succ]
      refine held_pure 4 44 (.slice (some ⟨g, off + P, none⟩) 184 cc) rfl (fun W => by go_simp) hHeld ?_
      try simp only [Act.put, List.setIfInBounds_toArray, List.set_cons_zero, List.set_cons_succ]
      refine held_one (i := 0) (by kernel_rfl) rfl (by rfl) (fun KK hK => ?_)
      refine wp_load_mid 30 (.tmp 11) rfl pb 0 rfl (nmR x) _ (range_is (cs := nmR x) hz.drew) Try.underlying30 rfl name_info ?_
      refine hK.out _ _ hHeld (fun hHeld1 => ?_)
      clear hK KK
      try simp only [Act.put, List.setIfInBounds_toArray]
      refine held_one (i := 5) (by kernel_rfl) rfl (by rfl) (fun KK hK => ?_)
      go_wp2_with fail
      refine (dclimb_any x q hq32 _ rfl _ _ cc HLP.out (by omega) y HY _ ((HRP.out.keep hHeld1.1).mono hHeld1.1.size)).mono ?_
      rintro e w2 ⟨rfl, hb2⟩
      have hz2 := hz.drew.next hb2
      have hp2 := hb.drew.next hb2
      go_wp2_with fail
      refine hK.out _ _ (hHeld1.next hb2) (fun hHeld2 => ?_)
      clear hK KK
      try simp only [Act.put, List.setIfInBounds_toArray, List.set_cons_zero, List.set_cons_succ]
      refine held_pure 6 39 (.tuple #[nm y, .bool true]) rfl (fun W => by rfl) hHeld2 ?_
      try simp only [Act.put, List.setIfInBounds_toArray, List.set_cons_zero, List.set_cons_succ]
      refine held_pure 7 46 (nm y) rfl (fun W => by rfl) hHeld2 ?_
      try simp only [Act.put, List.setIfInBounds_toArray, List.set_cons_zero, List.set_cons_succ]
      refine held_pure 8 47 (.bool true) rfl (fun W => by rfl) hHeld2 ?_
      try simp only [Act.put, List.setIfInBounds_toArray, List.set_cons_zero, List.set_cons_succ]
      refine held_one (i := 9) (by kernel_rfl) rfl (by rfl) (fun KK hK => ?_)
      refine oper_store_is 30 (.tmp 11) (.tmp 46) rfl pb 30 _ (nmC y) rfl rfl hz2 (nmC_size _) name_info (nmC_one _) ?_
      intro w3 hz3 hb3 hfar3
      have hp3 := (hfar3 w.heap.size (by omega)).trans hp2
      refine hK.out _ _ (hHeld2.step hb3 (by omega)) (fun hHeld3 => ?_)
      clear hK KK
      try simp only [Act.put, List.setIfInBounds_toArray]
      refine held_pure 10 10 (.bool true) rfl (fun W => by rfl) hHeld3 ?_
      try simp only [Act.put]
      refine wpAnyH_done (by kernel_rfl) ?_ _
      try simp only [Act.put, List.setIfInBounds_toArray, List.set_cons_zero, List.set_cons_succ]
      go_wp2_with fail
      refine wp_region_held_drew (S := fun w' => Fr w 2 w') (by kernel_rfl) (hHeld3).drew (fun hHz => ?_)
      refine held_pure 0 50 (.int .i64 (a : Int)) rfl (fun W => by rfl) hHz ?_
      try simp only [Act.put, List.setIfInBounds_toArray, List.set_cons_zero, List.set_cons_succ]
      refine held_pure 1 51 (.int .i64 (d : Int)) rfl (fun W => by go_simp) hHz ?_
      try simp only [Act.put, List.setIfInBounds_toArray, List.set_cons_zero, List.set_cons_succ]
      refine held_pure 2 52 (.slice (some ⟨g, off + P, none⟩) nn cc) rfl (fun W => by rfl) hHz ?_
      try simp only [Act.put, List.setIfInBounds_toArray, List.set_cons_zero, List.set_cons_succ]
      refine held_pure 3 53 (.slice A2 (nn - 184) (cc - 184)) rfl (fun W => by go_simp) hHz ?_
      try simp only [Act.put, List.setIfInBounds_toArray, List.set_cons_zero, List.set_cons_succ]
      refine held_pure 4 9 (.int .i64 (d : Int)) rfl (fun W => by rfl) hHz ?_
      try simp only [Act.put, List.setIfInBounds_toArray, List.set_cons_zero, List.set_cons_succ]
      refine held_pure 5 12 (.slice A2 (nn - 184) (cc - 184)) rfl (fun W => by rfl) hHz ?_
      try simp only [Act.put, List.setIfInBounds_toArray, List.set_cons_zero, List.set_cons_succ]
      refine wpAnyH_done (by kernel_rfl) ?_ _
      try simp only [Act.put, List.setIfInBounds_toArray, List.set_cons_zero, List.set_cons_succ]
      go_wp2_with fail
      go_roundw
      case rel =>
        refine ⟨k + 1, d, y, by omega, by go_num, rfl, fun h => ?_, hd32, HNX, hz3, hp3, hHz⟩
        have := HP.out
        have := HNN.out
        have := HCC.out
        rw [← HA2.out, if_neg (by omega)]
        simp only [Option.map_some, add_plain]
        rw [show off + P + 184 = off + (2 + 184 * (k + 1)) by omega, show nn - 184 = 370 - (2 + 184 * (k + 1)) by omega, show cc - 184 = c - (2 + 184 * (k + 1)) by omega]
      case measure => simp [intOf]; omega
    · obtain rfl : k = 2 := by omega
      have hx := hst.out
      have hxr : nmEq x p = r := by rw [← hr0.out, hx]
      have hrx : wr.rangeAt pb 0 (nmR x) := range_is (cs := nmR x) hz
      have hrp : wr.rangeAt w.heap.size 0 (nmR p) := range_is (cs := nmR p) hb
      clear hrs hst hx hz hb
      go_wp2_with (first
        | (refine wpList_load_mid rfl 30 (.tmp 11) rfl pb 0 (by rfl) (nmR x) _ hrx Try.underlying30 rfl name_info ?_)
        | (refine wpList_load_mid rfl 30 (.tmp 4) rfl w.heap.size 0 (by rfl) (nmR p) _ hrp Try.underlying30 rfl name_info ?_)
        | fail)
      go_ret
      exact ⟨by rw [← hxr]; rfl, hF.1⟩

theorem dver_any (w : World) (p : BitVec 64) (lv : Int) (m : BitVec 64) (v : Value) (l : List UInt8) (r : Bool) (hv : VB w v l) (hl : l.length ≤ 281474976710656) (hr0 : Hid (verM p lv m l = r)) :
    Calls Try.prog 19 #[nm p, .int .i64 lv, nm m, v] w fun e w' => e = .returned (.bool r) ∧ Below w.heap.size w w' := by
  obtain ⟨A, n, c, rfl, HN, hc, hm, HR⟩ := hv.form_n
  by_cases h : (l.length : Int) = sizeF lv ∧ (leafN l : Int) < capF lv
  · by_cases h1 : lv = 1
    · subst h1
      have hl1 : (l.length : Int) = 186 := h.1
      have hl2 : (leafN l : Int) < 32 := h.2
      have e : n = 186 := by rw [HN.out]; omega
      subst e
      exact dver_1 w p m A l c (by omega) (by omega) hm HR.out (by omega) r (Lib.hid (by rw [← ver_vst1 p m l hl1 (by omega), hr0.out]))
    · by_cases h2 : lv = 2
      · subst h2
        have hl1 : (l.length : Int) = 370 := h.1
        have hl2 : (leafN l : Int) < 1024 := h.2
        have e : n = 370 := by rw [HN.out]; omega
        subst e
        exact dver_2 w p m A l c (by omega) (by omega) hm HR.out (by omega) r (Lib.hid (by rw [← ver_vst2 p m l hl1 (by omega), hr0.out]))
      · have e : capF lv = 0 := by unfold capF; rw [if_neg h1, if_neg h2]
        rw [e] at h
        omega
  · have e : r = false := by rw [← hr0.out]; exact ver_no p lv m l h
    subst e
    exact dver_no w p lv m A l n c HN.out hc hl HR.out h
end Go.Proofs.Ytjghengkpbokaaa

/-
  The developers' manytime keeps chapter 5 ('manN', 'leafM', 'keyK').
-/
namespace Go.Proofs.Ytjghengkpbokaaa
open Go.ChangeShapes Go.WideShapes Go.ChangeAt Go.RowKit Go.Fl

/-- The program's functions of chapter 5. -/
theorem manN : ManyS Try.prog 5 10 12 17 15 19 where
  cap := fun w n _ => (dcap_any w n).mono (by rintro e w' ⟨rfl, rfl⟩; exact ⟨rfl, Below.refl _ _⟩)
  size := fun w n _ => (dsize_any w n).mono (by rintro e w' ⟨rfl, rfl⟩; exact ⟨rfl, Below.refl _ _⟩)
  pub := fun w s n y _ hy => dpub_any w s n y hy
  sign := fun w s lv leaf m r _ _ hr => dsign_any w s lv leaf m r hr
  ver := fun w p lv m v l r _ hv hl hr => dver_any w p lv m v l r hv hl hr

theorem leafM : LeafS Try.prog 9 where
  leaf := fun w v l hv hl => by
    obtain ⟨A, n, c, rfl, HN, hc, hm, HR⟩ := hv.form_n
    refine (dleaf_any A l n c HN.out hc hl w HR.out).mono ?_
    rintro e w' ⟨rfl, rfl⟩
    exact ⟨rfl, Below.refl _ _⟩

/-- What it is that a value is the key of a seed, whose memory lies from block b on. -/
def KI (w : World) (b : Nat) (v : Value) (s : BitVec 64) (n : Int) : Prop :=
  (¬ (n = 1 ∨ n = 2) ∧ v = .pointer none) ∨ ((n = 1 ∨ n = 2) ∧ ∃ g D, v = .pointer (some ⟨g, 0, none⟩) ∧ KeyD w D (.pointer (some ⟨g, 0, none⟩)) s n ∧ ∀ k, D k → b ≤ k ∧ k < w.heap.size)

theorem keyK : KeyS Try.prog 5 21 22 23 KI where
  keep := by
    rintro w w' b v s n (⟨h1, h2⟩ | ⟨h1, g, D, rfl, h2, h3⟩) hb
    · exact Or.inl ⟨h1, h2⟩
    · exact Or.inr ⟨h1, g, D, rfl, h2.keep fun k hk => hb.block k (h3 k hk).2, fun k hk => ⟨(h3 k hk).1, Nat.lt_of_lt_of_le (h3 k hk).2 hb.size⟩⟩
  new := by
    intro w s n _
    by_cases hn : n = 1 ∨ n = 2
    · refine (dnew_yes s n hn w).mono ?_
      rintro e w' ⟨g, rfl, hg, hI, hb⟩
      exact ⟨_, rfl, by rw [if_pos hn]; exact ⟨_, rfl⟩, Or.inr ⟨hn, g, _, rfl, key_new hI, fun k hk => by subst hk; exact ⟨hg, hI.lt⟩⟩, hb⟩
    · refine (dnew_no s n hn w).mono ?_
      rintro e w' ⟨rfl, hb⟩
      exact ⟨_, rfl, by rw [if_neg hn], Or.inl ⟨hn, rfl⟩, hb⟩
  pub := by
    rintro w b v s n y hb (⟨h1, rfl⟩ | ⟨h1, g, D, rfl, h2, h3⟩) hy
    · have e0 : y = 0 := by rw [← hy.out]; unfold mpubF; rw [if_neg (by omega), if_neg (by omega)]
      subst e0
      refine (dkpub_nil w).mono ?_
      rintro e w' ⟨rfl, hb'⟩
      exact ⟨rfl, Or.inl ⟨h1, rfl⟩, hb'.mono hb⟩
    · refine (dkpub_yes D _ s n h1 y hy w (fun k hk => (h3 k hk).2) h2).mono ?_
      rintro e w' ⟨rfl, hK, hs, hb'⟩
      refine ⟨rfl, Or.inr ⟨h1, g, _, rfl, hK, fun k hk => ?_⟩, hb' b hb (fun k hk => (h3 k hk).1)⟩
      rcases hk with h | h
      · have := h3 k h; omega
      · omega
  sign := by
    rintro w b v s n leaf m r hb (⟨h1, rfl⟩ | ⟨h1, g, D, rfl, h2, h3⟩) _ hr
    · have e0 : r = ([], false) := by rw [← hr.out]; unfold signP; rw [if_neg (fun h => h1 (Or.inl h.1)), if_neg (fun h => h1 (Or.inr h.1))]
      subst e0
      refine (dksign_nil w leaf m).mono ?_
      rintro e w' ⟨rfl, hb'⟩
      exact ⟨_, rfl, VB.nil _, Or.inl ⟨h1, rfl⟩, hb'.mono hb⟩
    · refine (dksign_any D g s n leaf m h1 r hr w (fun k hk => (h3 k hk).2) h2).mono ?_
      rintro e w' ⟨u, rfl, ho, D', hK, hD', hb'⟩
      refine ⟨u, rfl, ho.vb, Or.inr ⟨h1, g, D', rfl, hK, fun k hk => ?_⟩, hb' b hb (fun k hk => (h3 k hk).1)⟩
      have := hD' k hk
      rcases this.2 with h | h
      · exact ⟨(h3 k h).1, this.1⟩
      · exact ⟨by omega, this.1⟩
end Go.Proofs.Ytjghengkpbokaaa
