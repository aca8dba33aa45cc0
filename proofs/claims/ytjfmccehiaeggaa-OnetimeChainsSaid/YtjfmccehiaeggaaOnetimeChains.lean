/-
  The statement OnetimeChains, proved for every seed and every pair of names, with no condition: the values of two signatures by one seed lie on the same chains.
-/
import Derived.Test.YtjfmccehiaeggaaLaw4A
import Derived.Test.YtjfmccehiaeggaaHTag
import Derived.Deep.DeepCutAuto
namespace Go.Proofs.Ytjfmccehiaeggaa.onetimeChains
open Go.ChangeShapes Go.WideShapes Go.ChangeAt Go.RowKit Go.Fl

attribute [local go_sem] equal_nm eqGuard_nm

theorem vals_get (s : BitVec 64) (d : List Nat) (k : Nat) (hk : k < 18) (e : Nat) (he : d[k]? = some e) : (valsF s d)[k]? = some (chainF (startF s (UInt8.ofNat k)) (UInt8.ofNat k) 0 e) := by
  have h : d.getD k 0 = e := by rw [List.getD_eq_getElem?_getD, he]; rfl
  simp [valsF, hk, ← h]
theorem chain_on (v : BitVec 64) (c : UInt8) (d e : Nat) (h : d ≤ e) : chainF (chainF v c 0 d) c d (e - d) = chainF v c 0 e := by
  have := chainF_add v c 0 d (e - d)
  rw [Nat.zero_add] at this
  rw [this]
  congr 1
  omega
theorem RI.next {w w' : World} {A : Option Addr} {l : List Nat} (h : Hid (RI w w.heap.size A l)) (hb : Below w.heap.size w w') : Hid (RI w' w'.heap.size A l) := (h.out.keep hb).mono hb.size

def chW (w : World) (s a b : BitVec 64) : World := ((w.alloc (.cells (nmC s) 23)).alloc (.cells (nmC a) 23)).alloc (.cells (nmC b) 23)
theorem chW_facts (w : World) (s a b : BitVec 64) : Is (chW w s a b) w.heap.size 23 (nmC s) ∧ Is (chW w s a b) (w.heap.size + 1) 23 (nmC a) ∧ Is (chW w s a b) (w.heap.size + 2) 23 (nmC b) ∧ Fr w 3 (chW w s a b) :=
  ⟨((Is.new w _ _).old _).old _, (Is.newAt _ _ _ (by simp)).old _, Is.newAt _ _ _ (by simp), (((Fr.refl w).alloc _).alloc _).alloc _⟩

set_option maxRecDepth 10000 in
set_option maxHeartbeats 2000000 in
theorem walk (w : World) (s a b : BitVec 64) :
    Calls Try.prog 8 #[nm s, nm a, nm b] w fun e w' => e = .returned (.bool true) ∧ Below w.heap.size w w' := by
  obtain ⟨hs0, ha0, hb0, hF⟩ := chW_facts w s a b
  obtain ⟨X, hX⟩ : ∃ X, valsF s (digF a) = X := ⟨_, rfl⟩
  obtain ⟨Y, hY⟩ : ∃ Y, valsF s (digF b) = Y := ⟨_, rfl⟩
  have hXL := vals_len s (digF a)
  have hYL := vals_len s (digF b)
  have HX := Lib.hid hX
  have HY := Lib.hid hY
  rw [hX] at hXL
  rw [hY] at hYL
  clear hX hY
  go_enter Try.func8, Try.ntmps8
  go_wp2
  change Code.wp _ _ _ _ (chW w s a b)
  generalize chW w s a b = W at *
  refine wp_region_held_drew (S := fun w' => Is w' w.heap.size 23 (nmC s) ∧ Is w' (w.heap.size + 1) 23 (nmC a) ∧ Is w' (w.heap.size + 2) 23 (nmC b) ∧ Fr w 3 w') (by kernel_rfl) ⟨hs0.drew, ha0.drew, hb0.drew, hF.drew⟩ (fun hHeld => ?_)
  refine held_load 0 17 rfl 23 (.tmp 3) rfl w.heap.size 0 rfl (nmR s) (fun w' h => range_is (cs := nmR s) h.1) Try.underlying23 name_info hHeld ?_
  try simp only [Act.put, List.setIfInBounds_toArray, List.set_cons_zero, List.set_cons_succ]
  refine held_load 1 18 rfl 23 (.tmp 4) rfl (w.heap.size + 1) 0 rfl (nmR a) (fun w' h => range_is (cs := nmR a) h.2.1) Try.underlying23 name_info hHeld ?_
  try simp only [Act.put, List.setIfInBounds_toArray, List.set_cons_zero, List.set_cons_succ]
  refine held_load 3 20 rfl 23 (.tmp 3) rfl w.heap.size 0 rfl (nmR s) (fun w' h => range_is (cs := nmR s) h.1) Try.underlying23 name_info hHeld ?_
  try simp only [Act.put, List.setIfInBounds_toArray, List.set_cons_zero, List.set_cons_succ]
  refine held_load 4 21 rfl 23 (.tmp 5) rfl (w.heap.size + 2) 0 rfl (nmR b) (fun w' h => range_is (cs := nmR b) h.2.2.1) Try.underlying23 name_info hHeld ?_
  try simp only [Act.put, List.setIfInBounds_toArray, List.set_cons_zero, List.set_cons_succ]
  refine held_one (i := 2) (by kernel_rfl) rfl (by rfl) (fun KK hK => ?_)
  go_wp2_with fail
  refine (oneO.sign _ s a).mono ?_
  rintro e w1 ⟨v1, rfl, ho1, hb⟩
  rw [HX.out] at ho1
  obtain ⟨A1, n1, c1, rfl, hn1, hc1, hm1, hr1⟩ := ON.form_n ho1
  have hn1 := hn1.out
  rw [hXL] at hn1 hc1
  subst hn1
  clear ho1
  go_wp2_with fail
  refine hK.out _ _ ⟨hHeld.1.next hb, hHeld.2.1.next hb, hHeld.2.2.1.next hb, hHeld.2.2.2.next hb⟩ (fun hHeld1 => ?_)
  clear hK KK
  try simp only [Act.put, List.setIfInBounds_toArray, List.set_cons_zero, List.set_cons_succ]
  refine held_one (i := 5) (by kernel_rfl) rfl (by rfl) (fun KK hK => ?_)
  go_wp2_with fail
  refine (oneO.sign _ s b).mono ?_
  rintro e w2 ⟨v2, rfl, ho2, hb⟩
  rw [HY.out] at ho2
  obtain ⟨A2, n2, c2, rfl, hn2, hc2, hm2, hr2⟩ := ON.form_n ho2
  have hn2 := hn2.out
  rw [hYL] at hn2 hc2
  subst hn2
  clear ho2
  have hr1 := RN.next hr1 hb
  go_wp2_with fail
  refine hK.out _ _ ⟨hHeld1.1.next hb, hHeld1.2.1.next hb, hHeld1.2.2.1.next hb, hHeld1.2.2.2.next hb⟩ (fun hHeld2 => ?_)
  clear hK KK
  try simp only [Act.put, List.setIfInBounds_toArray, List.set_cons_zero, List.set_cons_succ]
  refine held_pure 6 7 (.slice A1 18 c1) rfl (fun W => by rfl) hHeld2 ?_
  try simp only [Act.put, List.setIfInBounds_toArray, List.set_cons_zero, List.set_cons_succ]
  refine held_pure 7 8 (.slice A2 18 c2) rfl (fun W => by rfl) hHeld2 ?_
  try simp only [Act.put, List.setIfInBounds_toArray, List.set_cons_zero, List.set_cons_succ]
  refine wpAnyH_done (by kernel_rfl) ?_ _
  try simp only [Act.put, List.setIfInBounds_toArray, List.set_cons_zero, List.set_cons_succ]
  go_wp2_with fail
  have hr1 : Hid (RN w2.drew w2.drew.heap.size A1 X) := hr1
  have hr2 : Hid (RN w2.drew w2.drew.heap.size A2 Y) := hr2
  refine wp_region_held_drew (S := fun w' => Is w' w.heap.size 23 (nmC s) ∧ Is w' (w.heap.size + 1) 23 (nmC a) ∧ Is w' (w.heap.size + 2) 23 (nmC b) ∧ Fr w 3 w') (by kernel_rfl) ⟨hHeld2.1.drew, hHeld2.2.1.drew, hHeld2.2.2.1.drew, hHeld2.2.2.2.drew⟩ (fun hHeld => ?_)
  refine held_load 0 23 rfl 23 (.tmp 4) rfl (w.heap.size + 1) 0 rfl (nmR a) (fun w' h => range_is (cs := nmR a) h.2.1) Try.underlying23 name_info hHeld ?_
  try simp only [Act.put, List.setIfInBounds_toArray, List.set_cons_zero, List.set_cons_succ]
  refine held_load 2 25 rfl 23 (.tmp 5) rfl (w.heap.size + 2) 0 rfl (nmR b) (fun w' h => range_is (cs := nmR b) h.2.2.1) Try.underlying23 name_info hHeld ?_
  try simp only [Act.put, List.setIfInBounds_toArray, List.set_cons_zero, List.set_cons_succ]
  refine held_one (i := 1) (by kernel_rfl) rfl (by rfl) (fun KK hK => ?_)
  go_wp2_with fail
  refine (oneO.digits _ a).mono ?_
  rintro e w3 ⟨v3, rfl, ho3, hb⟩
  obtain ⟨A3, n3, c3, rfl, hn3, hc3, hm3, hi3⟩ := ho3.form_n
  have hn3 := hn3.out
  rw [digF_len] at hn3 hc3
  subst hn3
  clear ho3
  have hr1 := RN.next hr1 hb
  have hr2 := RN.next hr2 hb
  go_wp2_with fail
  refine hK.out _ _ ⟨hHeld.1.next hb, hHeld.2.1.next hb, hHeld.2.2.1.next hb, hHeld.2.2.2.next hb⟩ (fun hHeld1 => ?_)
  clear hK KK
  try simp only [Act.put, List.setIfInBounds_toArray, List.set_cons_zero, List.set_cons_succ]
  refine held_one (i := 3) (by kernel_rfl) rfl (by rfl) (fun KK hK => ?_)
  go_wp2_with fail
  refine (oneO.digits _ b).mono ?_
  rintro e w4 ⟨v4, rfl, ho4, hb⟩
  obtain ⟨A4, n4, c4, rfl, hn4, hc4, hm4, hi4⟩ := ho4.form_n
  have hn4 := hn4.out
  rw [digF_len] at hn4 hc4
  subst hn4
  clear ho4
  have hr1 := RN.next hr1 hb
  have hr2 := RN.next hr2 hb
  have hi3 := RI.next hi3 hb
  go_wp2_with fail
  refine hK.out _ _ ⟨hHeld1.1.next hb, hHeld1.2.1.next hb, hHeld1.2.2.1.next hb, hHeld1.2.2.2.next hb⟩ (fun hHeld2 => ?_)
  clear hK KK
  try simp only [Act.put, List.setIfInBounds_toArray, List.set_cons_zero, List.set_cons_succ]
  refine held_pure 4 9 (.slice A3 18 c3) rfl (fun W => by rfl) hHeld2 ?_
  try simp only [Act.put, List.setIfInBounds_toArray, List.set_cons_zero, List.set_cons_succ]
  refine held_pure 5 10 (.slice A4 18 c4) rfl (fun W => by rfl) hHeld2 ?_
  try simp only [Act.put, List.setIfInBounds_toArray, List.set_cons_zero, List.set_cons_succ]
  refine wpAnyH_done (by kernel_rfl) ?_ _
  try simp only [Act.put, List.setIfInBounds_toArray, List.set_cons_zero, List.set_cons_succ]
  obtain ⟨g1, o1, rfl, hg1, -⟩ := hr1.out (by omega)
  obtain ⟨g2, o2, rfl, hg2, -⟩ := hr2.out (by omega)
  obtain ⟨g3, o3, rfl, hg3, -⟩ := hi3.out (by rw [digF_len]; omega)
  obtain ⟨g4, o4, rfl, hg4, -⟩ := hi4.out (by rw [digF_len]; omega)
  have hFr : Fr w 3 w4 := hHeld2.2.2.2
  obtain ⟨i0, hi, hz0, hz1, hz2⟩ := info_parts info_byte
  have HI := Lib.hid hi
  have HZ0 := Lib.hid hz0
  have HZ1 := Lib.hid hz1
  have HZ2 := Lib.hid hz2
  clear hi hz0 hz1 hz2
  go_wp2_with fail
  go_loopw [11] (fun i wr => ∃ k : Nat, k ≤ 18 ∧ i = .int .i64 (k : Int) ∧ Below w4.heap.size w4 wr) (fun i _ => 18 - (intOf i).toNat)
  case atStart => exact ⟨0, by omega, rfl, Below.refl _ _⟩
  case round =>
    obtain ⟨k, hk, rfl, hBr⟩ := hrel
    by_cases hlt : k < 18
    · obtain ⟨d, hd⟩ : ∃ d, (digF a)[k]? = some d := ⟨_, List.getElem?_eq_getElem (by rw [digF_len]; exact hlt)⟩
      obtain ⟨e, he⟩ : ∃ e, (digF b)[k]? = some e := ⟨_, List.getElem?_eq_getElem (by rw [digF_len]; exact hlt)⟩
      have hd15 := digF_le a d (List.mem_of_getElem? hd)
      have he15 := digF_le b e (List.mem_of_getElem? he)
      obtain ⟨cb, hcb⟩ : ∃ cb, UInt8.ofNat k = cb := ⟨_, rfl⟩
      have hk8 := ub_ofNat k (by omega)
      rw [hcb] at hk8
      have hx := vals_get s (digF a) k hlt d hd
      have hy := vals_get s (digF b) k hlt e he
      rw [HX.out, hcb] at hx
      rw [HY.out, hcb] at hy
      obtain ⟨x0, hx0⟩ : ∃ x0, startF s cb = x0 := ⟨_, rfl⟩
      rw [hx0] at hx hy
      obtain ⟨x, hxx⟩ : ∃ x, chainF x0 cb 0 d = x := ⟨_, rfl⟩
      obtain ⟨y, hyy⟩ : ∃ y, chainF x0 cb 0 e = y := ⟨_, rfl⟩
      rw [hxx] at hx
      rw [hyy] at hy
      have HXX := Lib.hid hxx
      have HYY := Lib.hid hyy
      have HK8 := Lib.hid hk8
      have R1 := Lib.hid (rn_range (RN.next hr1 hBr).out rfl hx)
      have R2 := Lib.hid (rn_range (RN.next hr2 hBr).out rfl hy)
      have D3 := Lib.hid ((hBr.cell hg3).trans ((hi3.out (by rw [digF_len]; omega)).elim fun g h => h.elim fun o h => by have e1 := h.1; injection e1 with e1; injection e1 with e2 e3; subst e2 e3; exact h.2.2 k d hd))
      have D4 := Lib.hid ((hBr.cell hg4).trans ((hi4.out (by rw [digF_len]; omega)).elim fun g h => h.elim fun o h => by have e1 := h.1; injection e1 with e1; injection e1 with e2 e3; subst e2 e3; exact h.2.2 k e he))
      have hG1 : g1 < wr.heap.size := Nat.lt_of_lt_of_le hg1 hBr.size
      have hG2 : g2 < wr.heap.size := Nat.lt_of_lt_of_le hg2 hBr.size
      have hG3 : g3 < wr.heap.size := Nat.lt_of_lt_of_le hg3 hBr.size
      have hG4 : g4 < wr.heap.size := Nat.lt_of_lt_of_le hg4 hBr.size
      have s1 : (k : Int) < 18 := by omega
      have s0 : (0 : Int) ≤ (k : Int) := by omega
      clear hcb hx hy hx0 hxx hyy hk8 hd he
      have hQ : Below wr.heap.size wr wr := Below.refl _ _
      go_wp2
      go_cut [12, 13, 14, 15] from 45 to 102 (fun s12 s13 s14 s15 wx => ∃ p q : Nat, s12 = .pointer (some ⟨p, 0, none⟩) ∧ s13 = .int .i64 (d : Int) ∧ s14 = .int .i64 (e : Int) ∧ s15 = .pointer (some ⟨q, 0, none⟩) ∧ p ≠ q ∧ wr.heap.size ≤ p ∧ wr.heap.size ≤ q ∧ Is wx p 23 (nmC x) ∧ Is wx q 23 (nmC y) ∧ Below wr.heap.size wr wx)
      case first =>
        refine wp_region_held_drew (S := fun w' => Below wr.heap.size wr w') (by kernel_rfl) (Below.refl _ _).drew (fun hHeld => ?_)
        refine held_pure 0 49 (.slice (some ⟨g1, o1, none⟩) 18 c1) rfl (fun W => by rfl) hHeld ?_
        try simp only [Act.put, List.setIfInBounds_toArray, List.set_cons_zero, List.set_cons_succ]
        refine held_pure 1 50 (.int .i64 (k : Int)) rfl (fun W => by rfl) hHeld ?_
        try simp only [Act.put, List.setIfInBounds_toArray, List.set_cons_zero, List.set_cons_succ]
        refine held_pure 2 51 (.pointer (some ⟨g1, o1 + k * 8, none⟩)) rfl (fun W => by go_simp) hHeld ?_
        try simp only [Act.put, List.setIfInBounds_toArray, List.set_cons_zero, List.set_cons_succ]
        refine held_load 3 52 rfl 23 (.tmp 51) rfl g1 (o1 + k * 8) rfl (nmR x) (fun w' h => range_keep R1.out (hQ.trans h) hG1) Try.underlying23 name_info hHeld ?_
        try simp only [Act.put, List.setIfInBounds_toArray, List.set_cons_zero, List.set_cons_succ]
        refine held_pure 4 53 (.slice (some ⟨g3, o3, none⟩) 18 c3) rfl (fun W => by rfl) hHeld ?_
        try simp only [Act.put, List.setIfInBounds_toArray, List.set_cons_zero, List.set_cons_succ]
        refine held_pure 5 54 (.int .i64 (k : Int)) rfl (fun W => by rfl) hHeld ?_
        try simp only [Act.put, List.setIfInBounds_toArray, List.set_cons_zero, List.set_cons_succ]
        refine held_pure 6 55 (.pointer (some ⟨g3, o3 + k, none⟩)) rfl (fun W => by go_simp) hHeld ?_
        try simp only [Act.put, List.setIfInBounds_toArray, List.set_cons_zero, List.set_cons_succ]
        refine held_if 7 56 (iV d) rfl (fun w' h => by (have hc := ((hQ.trans h).cell (p := ⟨g3, o3 + k, none⟩) hG3).trans D3.out; go_simp)) hHeld ?_
        try simp only [Act.put, List.setIfInBounds_toArray, List.set_cons_zero, List.set_cons_succ]
        refine held_pure 8 57 (.slice (some ⟨g4, o4, none⟩) 18 c4) rfl (fun W => by rfl) hHeld ?_
        try simp only [Act.put, List.setIfInBounds_toArray, List.set_cons_zero, List.set_cons_succ]
        refine held_pure 9 58 (.int .i64 (k : Int)) rfl (fun W => by rfl) hHeld ?_
        try simp only [Act.put, List.setIfInBounds_toArray, List.set_cons_zero, List.set_cons_succ]
        refine held_pure 10 59 (.pointer (some ⟨g4, o4 + k, none⟩)) rfl (fun W => by go_simp) hHeld ?_
        try simp only [Act.put, List.setIfInBounds_toArray, List.set_cons_zero, List.set_cons_succ]
        refine held_if 11 60 (iV e) rfl (fun w' h => by (have hc := ((hQ.trans h).cell (p := ⟨g4, o4 + k, none⟩) hG4).trans D4.out; go_simp)) hHeld ?_
        try simp only [Act.put, List.setIfInBounds_toArray, List.set_cons_zero, List.set_cons_succ]
        refine held_pure 12 61 (.slice (some ⟨g2, o2, none⟩) 18 c2) rfl (fun W => by rfl) hHeld ?_
        try simp only [Act.put, List.setIfInBounds_toArray, List.set_cons_zero, List.set_cons_succ]
        refine held_pure 13 62 (.int .i64 (k : Int)) rfl (fun W => by rfl) hHeld ?_
        try simp only [Act.put, List.setIfInBounds_toArray, List.set_cons_zero, List.set_cons_succ]
        refine held_pure 14 63 (.pointer (some ⟨g2, o2 + k * 8, none⟩)) rfl (fun W => by go_simp) hHeld ?_
        try simp only [Act.put, List.setIfInBounds_toArray, List.set_cons_zero, List.set_cons_succ]
        refine held_load 15 64 rfl 23 (.tmp 63) rfl g2 (o2 + k * 8) rfl (nmR y) (fun w' h => range_keep R2.out (hQ.trans h) hG2) Try.underlying23 name_info hHeld ?_
        try simp only [Act.put, List.setIfInBounds_toArray, List.set_cons_zero, List.set_cons_succ]
        refine wpAnyH_ready (rs := [16, 17]) (by kernel_rfl) (by simp) (AllReadyH.cons rfl (fun K hK => ?_) (AllReadyH.cons rfl (fun K hK => ?_) AllReadyH.nil))
        · rw [if_pos (by rfl)]
          go_wp2_with fail
          have b1 := (hQ.alloc (Nat.le_refl _) (.cells #[B 0, B 0, B 0, B 0, B 0, B 0, B 0, B 0] 23)).drew
          refine hK.out _ _ b1 (fun hH2 => ?_)
          clear hK K
          try simp only [Act.put, List.setIfInBounds_toArray, List.set_cons_zero, List.set_cons_succ]
          refine held_one (i := 17) (by kernel_rfl) rfl (by rfl) (fun K hK => ?_)
          go_wp2_with fail
          have b2 := ((hQ.alloc (Nat.le_refl _) (.cells #[B 0, B 0, B 0, B 0, B 0, B 0, B 0, B 0] 23)).alloc (by simp) (.cells #[B 0, B 0, B 0, B 0, B 0, B 0, B 0, B 0] 23)).drew
          have z1 := ((Is.new wr 23 #[B 0, B 0, B 0, B 0, B 0, B 0, B 0, B 0]).old (.cells #[B 0, B 0, B 0, B 0, B 0, B 0, B 0, B 0] 23)).drew
          have z2 := (Is.newAt (wr.alloc (.cells #[B 0, B 0, B 0, B 0, B 0, B 0, B 0, B 0] 23)) 23 #[B 0, B 0, B 0, B 0, B 0, B 0, B 0, B 0] (g := wr.heap.size + 1) (by simp)).drew
          refine hK.out _ _ b2 (fun hH3 => ?_)
          clear hK K
          try simp only [Act.put, List.setIfInBounds_toArray, List.set_cons_zero, List.set_cons_succ]
          refine held_one (i := 18) (by kernel_rfl) rfl (by rfl) (fun K hK => ?_)
          refine oper_store_is 23 (.tmp 12) (.tmp 52) rfl wr.heap.size 23 _ (nmC x) rfl rfl z1 (nmC_size _) name_info (nmC_one _) ?_
          intro w5 hz5 hb5 hfar5
          have hq5 := (hfar5 (wr.heap.size + 1) (by omega)).trans z2
          have b5 := b2.trans (hb5.mono (by omega))
          refine hK.out _ _ b5 (fun hH5 => ?_)
          clear hK K
          try simp only [Act.put, List.setIfInBounds_toArray]
          refine held_pure 19 13 (.int .i64 (d : Int)) rfl (fun W => by rfl) hH5 ?_
          try simp only [Act.put]
          refine held_pure 20 14 (.int .i64 (e : Int)) rfl (fun W => by rfl) hH5 ?_
          try simp only [Act.put]
          refine held_one (i := 21) (by kernel_rfl) rfl (by rfl) (fun K hK => ?_)
          refine oper_store_is 23 (.tmp 15) (.tmp 64) rfl (wr.heap.size + 1) 23 _ (nmC y) rfl rfl hq5 (nmC_size _) name_info (nmC_one _) ?_
          intro w6 hz6 hb6 hfar6
          have hp6 := (hfar6 wr.heap.size (by omega)).trans hz5
          have b6 := b5.trans (hb6.mono (by omega))
          refine hK.out _ _ b6 (fun _ => wpAnyH_done (by kernel_rfl) ?_ _)
          clear hK K
          go_wp2_with fail
          go_meet
          case rel => exact ⟨wr.heap.size, (wr.heap.size + 1), rfl, rfl, rfl, rfl, by omega, by omega, by omega, hp6, hz6, b6⟩
        · rw [if_pos (by rfl)]
          go_wp2_with fail
          have b1 := (hQ.alloc (Nat.le_refl _) (.cells #[B 0, B 0, B 0, B 0, B 0, B 0, B 0, B 0] 23)).drew
          refine hK.out _ _ b1 (fun hH2 => ?_)
          clear hK K
          try simp only [Act.put, List.setIfInBounds_toArray, List.set_cons_zero, List.set_cons_succ]
          refine held_one (i := 16) (by kernel_rfl) rfl (by rfl) (fun K hK => ?_)
          go_wp2_with fail
          have b2 := ((hQ.alloc (Nat.le_refl _) (.cells #[B 0, B 0, B 0, B 0, B 0, B 0, B 0, B 0] 23)).alloc (by simp) (.cells #[B 0, B 0, B 0, B 0, B 0, B 0, B 0, B 0] 23)).drew
          have z1 := ((Is.new wr 23 #[B 0, B 0, B 0, B 0, B 0, B 0, B 0, B 0]).old (.cells #[B 0, B 0, B 0, B 0, B 0, B 0, B 0, B 0] 23)).drew
          have z2 := (Is.newAt (wr.alloc (.cells #[B 0, B 0, B 0, B 0, B 0, B 0, B 0, B 0] 23)) 23 #[B 0, B 0, B 0, B 0, B 0, B 0, B 0, B 0] (g := wr.heap.size + 1) (by simp)).drew
          refine hK.out _ _ b2 (fun hH3 => ?_)
          clear hK K
          try simp only [Act.put, List.setIfInBounds_toArray, List.set_cons_zero, List.set_cons_succ]
          refine held_one (i := 18) (by kernel_rfl) rfl (by rfl) (fun K hK => ?_)
          refine oper_store_is 23 (.tmp 12) (.tmp 52) rfl (wr.heap.size + 1) 23 _ (nmC x) rfl rfl z2 (nmC_size _) name_info (nmC_one _) ?_
          intro w5 hz5 hb5 hfar5
          have hq5 := (hfar5 wr.heap.size (by omega)).trans z1
          have b5 := b2.trans (hb5.mono (by omega))
          refine hK.out _ _ b5 (fun hH5 => ?_)
          clear hK K
          try simp only [Act.put, List.setIfInBounds_toArray]
          refine held_pure 19 13 (.int .i64 (d : Int)) rfl (fun W => by rfl) hH5 ?_
          try simp only [Act.put]
          refine held_pure 20 14 (.int .i64 (e : Int)) rfl (fun W => by rfl) hH5 ?_
          try simp only [Act.put]
          refine held_one (i := 21) (by kernel_rfl) rfl (by rfl) (fun K hK => ?_)
          refine oper_store_is 23 (.tmp 15) (.tmp 64) rfl wr.heap.size 23 _ (nmC y) rfl rfl hq5 (nmC_size _) name_info (nmC_one _) ?_
          intro w6 hz6 hb6 hfar6
          have hp6 := (hfar6 (wr.heap.size + 1) (by omega)).trans hz5
          have b6 := b5.trans (hb6.mono (by omega))
          refine hK.out _ _ b6 (fun _ => wpAnyH_done (by kernel_rfl) ?_ _)
          clear hK K
          go_wp2_with fail
          go_meet
          case rel => exact ⟨(wr.heap.size + 1), wr.heap.size, rfl, rfl, rfl, rfl, by omega, by omega, by omega, hp6, hz6, b6⟩
      case rest =>
        obtain ⟨p, q, rfl, rfl, rfl, rfl, hpq, hp, hq, hxp, hyq, hbx⟩ := hcut
        rename_i aK
        refine aK _ _ ?_
        clear aK
        by_cases hde : e < d
        · have s2 : (e : Int) < (d : Int) := by omega
          go_wp2
          refine wp_region_held_drew (S := fun w' => Below wr.heap.size wr w') (by kernel_rfl) hbx.drew (fun hHeld => ?_)
          refine held_pure 0 68 (.slice (some ⟨g2, o2, none⟩) 18 c2) rfl (fun W => by rfl) hHeld ?_
          try simp only [Act.put, List.setIfInBounds_toArray, List.set_cons_zero, List.set_cons_succ]
          refine held_pure 1 69 (.int .i64 (k : Int)) rfl (fun W => by rfl) hHeld ?_
          try simp only [Act.put, List.setIfInBounds_toArray, List.set_cons_zero, List.set_cons_succ]
          refine held_pure 2 70 (.pointer (some ⟨g2, o2 + k * 8, none⟩)) rfl (fun W => by go_simp) hHeld ?_
          try simp only [Act.put, List.setIfInBounds_toArray, List.set_cons_zero, List.set_cons_succ]
          refine held_load 3 71 rfl 23 (.tmp 70) rfl g2 (o2 + k * 8) rfl (nmR y) (fun w' h => range_keep R2.out h hG2) Try.underlying23 name_info hHeld ?_
          try simp only [Act.put, List.setIfInBounds_toArray, List.set_cons_zero, List.set_cons_succ]
          refine held_pure 4 72 (.slice (some ⟨g4, o4, none⟩) 18 c4) rfl (fun W => by rfl) hHeld ?_
          try simp only [Act.put, List.setIfInBounds_toArray, List.set_cons_zero, List.set_cons_succ]
          refine held_pure 5 73 (.int .i64 (k : Int)) rfl (fun W => by rfl) hHeld ?_
          try simp only [Act.put, List.setIfInBounds_toArray, List.set_cons_zero, List.set_cons_succ]
          refine held_pure 6 74 (.pointer (some ⟨g4, o4 + k, none⟩)) rfl (fun W => by go_simp) hHeld ?_
          try simp only [Act.put, List.setIfInBounds_toArray, List.set_cons_zero, List.set_cons_succ]
          refine held_if 7 75 (iV e) rfl (fun w' h => by (have hc := (h.cell (p := ⟨g4, o4 + k, none⟩) hG4).trans D4.out; go_simp)) hHeld ?_
          try simp only [Act.put, List.setIfInBounds_toArray, List.set_cons_zero, List.set_cons_succ]
          refine held_pure 8 76 (.slice (some ⟨g3, o3, none⟩) 18 c3) rfl (fun W => by rfl) hHeld ?_
          try simp only [Act.put, List.setIfInBounds_toArray, List.set_cons_zero, List.set_cons_succ]
          refine held_pure 9 77 (.int .i64 (k : Int)) rfl (fun W => by rfl) hHeld ?_
          try simp only [Act.put, List.setIfInBounds_toArray, List.set_cons_zero, List.set_cons_succ]
          refine held_pure 10 78 (.pointer (some ⟨g3, o3 + k, none⟩)) rfl (fun W => by go_simp) hHeld ?_
          try simp only [Act.put, List.setIfInBounds_toArray, List.set_cons_zero, List.set_cons_succ]
          refine held_if 11 79 (iV d) rfl (fun w' h => by (have hc := (h.cell (p := ⟨g3, o3 + k, none⟩) hG3).trans D3.out; go_simp)) hHeld ?_
          try simp only [Act.put, List.setIfInBounds_toArray, List.set_cons_zero, List.set_cons_succ]
          refine held_pure 12 80 (.slice (some ⟨g1, o1, none⟩) 18 c1) rfl (fun W => by rfl) hHeld ?_
          try simp only [Act.put, List.setIfInBounds_toArray, List.set_cons_zero, List.set_cons_succ]
          refine held_pure 13 81 (.int .i64 (k : Int)) rfl (fun W => by rfl) hHeld ?_
          try simp only [Act.put, List.setIfInBounds_toArray, List.set_cons_zero, List.set_cons_succ]
          refine held_pure 14 82 (.pointer (some ⟨g1, o1 + k * 8, none⟩)) rfl (fun W => by go_simp) hHeld ?_
          try simp only [Act.put, List.setIfInBounds_toArray, List.set_cons_zero, List.set_cons_succ]
          refine held_load 15 83 rfl 23 (.tmp 82) rfl g1 (o1 + k * 8) rfl (nmR x) (fun w' h => range_keep R1.out h hG1) Try.underlying23 name_info hHeld ?_
          try simp only [Act.put, List.setIfInBounds_toArray, List.set_cons_zero, List.set_cons_succ]
          refine held_one (i := 16) (by kernel_rfl) rfl (by rfl) (fun K hK => ?_)
          refine oper_store_is 23 (.tmp 12) (.tmp 71) rfl p 23 _ (nmC y) rfl rfl hxp.drew (nmC_size _) name_info (nmC_one _) ?_
          intro w5 hz5 hb5 hfar5
          have hq5 := (hfar5 q (by omega)).trans hyq.drew
          have b5 := hbx.drew.trans (hb5.mono hp)
          refine hK.out _ _ b5 (fun hH5 => ?_)
          clear hK K
          try simp only [Act.put, List.setIfInBounds_toArray]
          refine held_pure 17 13 (.int .i64 (e : Int)) rfl (fun W => by rfl) hH5 ?_
          try simp only [Act.put]
          refine held_pure 18 14 (.int .i64 (d : Int)) rfl (fun W => by rfl) hH5 ?_
          try simp only [Act.put]
          refine held_one (i := 19) (by kernel_rfl) rfl (by rfl) (fun K hK => ?_)
          refine oper_store_is 23 (.tmp 15) (.tmp 83) rfl q 23 _ (nmC x) rfl rfl hq5 (nmC_size _) name_info (nmC_one _) ?_
          intro w6 hz6 hb6 hfar6
          have hp6 := (hfar6 p (by omega)).trans hz5
          have b6 := b5.trans (hb6.mono hq)
          refine hK.out _ _ b6 (fun _ => wpAnyH_done (by kernel_rfl) ?_ _)
          clear hK K
          obtain ⟨wo, rfl⟩ : ∃ wo, wo = wr := ⟨_, rfl⟩
          have HU : Hid (chainF y cb e (d - e) = x) := Lib.hid (by rw [← HXX.out, ← HYY.out]; exact chain_on x0 cb e d (by omega))
          go_wp2_with fail
          go_loopw [16] (fun i wr => ∃ (j : Nat) (z : BitVec 64), e ≤ j ∧ j ≤ d ∧ i = .int .i64 (j : Int) ∧ Hid (chainF y cb e (j - e) = z) ∧ Is wr p 23 (nmC z) ∧ Is wr q 23 (nmC x) ∧ Below wo.heap.size wo wr) (fun i _ => d - (intOf i).toNat)
          case atStart => exact ⟨e, y, Nat.le_refl _, by omega, rfl, Lib.hid (by rw [Nat.sub_self]; rfl), hp6, hz6, b6⟩
          case round =>
            obtain ⟨j, z, hfj, hjt, rfl, hz, hzp, hzq, hBi⟩ := hrel
            by_cases hj : j < d
            · obtain ⟨z2, hz2⟩ : ∃ z2, stepF z cb (UInt8.ofNat j) = z2 := ⟨_, rfl⟩
              have HC : Hid (chainF y cb e (j + 1 - e) = z2) := Lib.hid (by rw [show j + 1 - e = (j - e) + 1 by omega, chainF, hz.out, show e + (j - e) = j by omega, hz2])
              have hpb := ub_ofNat j (by omega)
              obtain ⟨pb, hpb2⟩ : ∃ pb, UInt8.ofNat j = pb := ⟨_, rfl⟩
              rw [hpb2] at hpb hz2
              have HS : Hid (sumF (33 :: (nmL z ++ [cb, pb])) = z2) := Lib.hid hz2
              have s4 : (j : Int) < (d : Int) := by omega
              have hwk : IntKind.u8.wrap (k : Int) = (k : Int) := by rw [IntKind.wrap_u8]; omega
              have hwj : IntKind.u8.wrap (j : Int) = (j : Int) := by rw [IntKind.wrap_u8]; omega
              have cv1 : ∀ W' : World, (convert 3 5 (.int .i64 (k : Int))).run Try.prog W' = .ok (B cb) W' := fun W' => by
                rw [show B cb = Value.int .u8 (k : Int) by rw [← HK8.out]]
                go_simp
              have cv2 : ∀ W' : World, (convert 3 5 (.int .i64 (j : Int))).run Try.prog W' = .ok (B pb) W' := fun W' => by
                rw [show B pb = Value.int .u8 (j : Int) by rw [← hpb]]
                go_simp
              clear hz2 hpb2 hpb hwk hwj
              have hob0 := ob_empty wr 5 (g := wr.heap.size) rfl
              have hF0 := (Fr.refl wr).alloc (.cells #[] 5)
              have hp0 := hzp.old (.cells #[] 5)
              have hq0 := hzq.old (.cells #[] 5)
              have hpl := hzp.lt
              have hql := hzq.lt
              go_wp2_with (first
                | (at_builtin; (refine wpList_append_ob rfl (.tmp 90) (.tmp 91) 37 rfl wr.heap.size 5 i0 Try.underlying37 HI.out HZ0.out HZ1.out HZ2.out (.slice (some ⟨wr.heap.size, 0, none⟩) 0 0) [] rfl hob0 _ (some ⟨p, 0, none⟩) (nmL z) 8 8 rfl rfl (is_rb hp0 hp0.lt) (by simp [nmL_len]) (Nat.le_of_succ_le hF0.2) ?_); intro v5 w5 hob1 hg5 hat5; have hF1 := hF0.grown hg5 (fun k hk => hob0.own k hk); have hp1 := hp0.grown hg5 (fun k hk => by (have := hob0.own k hk; omega)); have hq1 := hq0.grown hg5 (fun k hk => by (have := hob0.own k hk; omega)))
                | (at_builtin; refine wpList_append_ob rfl (.tmp 92) (.tmp 97) 37 rfl wr.heap.size 5 i0 Try.underlying37 HI.out HZ0.out HZ1.out HZ2.out _ ([] ++ nmL z) rfl (hob1.keep ((Below.refl _ _).alloc (Nat.le_refl _) _)) (w5.heap.size + 1) (some ⟨w5.heap.size, 0, none⟩) [cb, pb] 2 2 rfl rfl (is_list_rb (l := [cb, pb]) (Lib.hid (Is.new w5 5 #[B cb, B pb])) (by simp)) (by simp [nmL_len]) (by (have := hF1.2; simp; omega)) ?_; intro v6 w6 hob2 hg6 hat6; have hF2 := (hF1.alloc _).grown hg6 (fun k hk => hob1.own k hk); have hp2 := (hp1.old _).grown hg6 (fun k hk => by (have := hob1.own k hk; omega)); have hq2 := (hq1.old _).grown hg6 (fun k hk => by (have := hob1.own k hk; omega)); have hob3 : OB w6 wr.heap.size 5 v6 (nmL z ++ [cb, pb]) := hob2; clear hob2; obtain ⟨A5, n5, c5, rfl, HN5, hc5, hm5, HR5⟩ := hob3.form_n)
                | (go_at_call 19; refine (tagged_nw 33 A5 (nmL z ++ [cb, pb]) n5 c5 HN5.out HS hc5 (by simp [nmL_len]) hm5 _ HR5.out).mono ?_; rintro e w7 ⟨rfl, hb7⟩; have hF3 := hF2.next hb7; have hp3 := hp2.next hb7; have hq3 := hq2.next hb7)
                | (refine wpList_store_far rfl 23 (.tmp 12) (.tmp 99) rfl p 23 _ (nmC z2) rfl rfl hp3 (nmC_size _) name_info (nmC_one _) ?_; intro w8 hp4 hb8 hfar8))
              go_roundw
              case rel => exact ⟨j + 1, z2, by omega, by omega, by go_num, HC, hp4, (hfar8 q (by omega)).trans hq3, (hBi.trans (hF3.1.mono hBi.size)).trans (hb8.mono hp)⟩
              case measure => simp [intOf]; omega
            · obtain rfl : j = d := by omega
              obtain rfl : z = x := by rw [← hz.out, ← HU.out]
              have c1' := hzp.cell
              have c2' := hzq.cell
              have ee := nmEq_self z
              go_wp2
              go_roundw
              case rel => exact ⟨k + 1, by omega, by go_num, hBr.trans (hBi.mono hBr.size)⟩
              case measure => simp [intOf]; omega
        · have s2 : ¬ (e : Int) < (d : Int) := by omega
          obtain ⟨wo, rfl⟩ : ∃ wo, wo = wr := ⟨_, rfl⟩
          have HU : Hid (chainF x cb d (e - d) = y) := Lib.hid (by rw [← HXX.out, ← HYY.out]; exact chain_on x0 cb d e (by omega))
          go_wp2_with fail
          go_loopw [16] (fun i wr => ∃ (j : Nat) (z : BitVec 64), d ≤ j ∧ j ≤ e ∧ i = .int .i64 (j : Int) ∧ Hid (chainF x cb d (j - d) = z) ∧ Is wr p 23 (nmC z) ∧ Is wr q 23 (nmC y) ∧ Below wo.heap.size wo wr) (fun i _ => e - (intOf i).toNat)
          case atStart => exact ⟨d, x, Nat.le_refl _, by omega, rfl, Lib.hid (by rw [Nat.sub_self]; rfl), hxp, hyq, hbx⟩
          case round =>
            obtain ⟨j, z, hfj, hjt, rfl, hz, hzp, hzq, hBi⟩ := hrel
            by_cases hj : j < e
            · obtain ⟨z2, hz2⟩ : ∃ z2, stepF z cb (UInt8.ofNat j) = z2 := ⟨_, rfl⟩
              have HC : Hid (chainF x cb d (j + 1 - d) = z2) := Lib.hid (by rw [show j + 1 - d = (j - d) + 1 by omega, chainF, hz.out, show d + (j - d) = j by omega, hz2])
              have hpb := ub_ofNat j (by omega)
              obtain ⟨pb, hpb2⟩ : ∃ pb, UInt8.ofNat j = pb := ⟨_, rfl⟩
              rw [hpb2] at hpb hz2
              have HS : Hid (sumF (33 :: (nmL z ++ [cb, pb])) = z2) := Lib.hid hz2
              have s4 : (j : Int) < (e : Int) := by omega
              have hwk : IntKind.u8.wrap (k : Int) = (k : Int) := by rw [IntKind.wrap_u8]; omega
              have hwj : IntKind.u8.wrap (j : Int) = (j : Int) := by rw [IntKind.wrap_u8]; omega
              have cv1 : ∀ W' : World, (convert 3 5 (.int .i64 (k : Int))).run Try.prog W' = .ok (B cb) W' := fun W' => by
                rw [show B cb = Value.int .u8 (k : Int) by rw [← HK8.out]]
                go_simp
              have cv2 : ∀ W' : World, (convert 3 5 (.int .i64 (j : Int))).run Try.prog W' = .ok (B pb) W' := fun W' => by
                rw [show B pb = Value.int .u8 (j : Int) by rw [← hpb]]
                go_simp
              clear hz2 hpb2 hpb hwk hwj
              have hob0 := ob_empty wr 5 (g := wr.heap.size) rfl
              have hF0 := (Fr.refl wr).alloc (.cells #[] 5)
              have hp0 := hzp.old (.cells #[] 5)
              have hq0 := hzq.old (.cells #[] 5)
              have hpl := hzp.lt
              have hql := hzq.lt
              go_wp2_with (first
                | (at_builtin; (refine wpList_append_ob rfl (.tmp 90) (.tmp 91) 37 rfl wr.heap.size 5 i0 Try.underlying37 HI.out HZ0.out HZ1.out HZ2.out (.slice (some ⟨wr.heap.size, 0, none⟩) 0 0) [] rfl hob0 _ (some ⟨p, 0, none⟩) (nmL z) 8 8 rfl rfl (is_rb hp0 hp0.lt) (by simp [nmL_len]) (Nat.le_of_succ_le hF0.2) ?_); intro v5 w5 hob1 hg5 hat5; have hF1 := hF0.grown hg5 (fun k hk => hob0.own k hk); have hp1 := hp0.grown hg5 (fun k hk => by (have := hob0.own k hk; omega)); have hq1 := hq0.grown hg5 (fun k hk => by (have := hob0.own k hk; omega)))
                | (at_builtin; refine wpList_append_ob rfl (.tmp 92) (.tmp 97) 37 rfl wr.heap.size 5 i0 Try.underlying37 HI.out HZ0.out HZ1.out HZ2.out _ ([] ++ nmL z) rfl (hob1.keep ((Below.refl _ _).alloc (Nat.le_refl _) _)) (w5.heap.size + 1) (some ⟨w5.heap.size, 0, none⟩) [cb, pb] 2 2 rfl rfl (is_list_rb (l := [cb, pb]) (Lib.hid (Is.new w5 5 #[B cb, B pb])) (by simp)) (by simp [nmL_len]) (by (have := hF1.2; simp; omega)) ?_; intro v6 w6 hob2 hg6 hat6; have hF2 := (hF1.alloc _).grown hg6 (fun k hk => hob1.own k hk); have hp2 := (hp1.old _).grown hg6 (fun k hk => by (have := hob1.own k hk; omega)); have hq2 := (hq1.old _).grown hg6 (fun k hk => by (have := hob1.own k hk; omega)); have hob3 : OB w6 wr.heap.size 5 v6 (nmL z ++ [cb, pb]) := hob2; clear hob2; obtain ⟨A5, n5, c5, rfl, HN5, hc5, hm5, HR5⟩ := hob3.form_n)
                | (go_at_call 19; refine (tagged_nw 33 A5 (nmL z ++ [cb, pb]) n5 c5 HN5.out HS hc5 (by simp [nmL_len]) hm5 _ HR5.out).mono ?_; rintro e w7 ⟨rfl, hb7⟩; have hF3 := hF2.next hb7; have hp3 := hp2.next hb7; have hq3 := hq2.next hb7)
                | (refine wpList_store_far rfl 23 (.tmp 12) (.tmp 99) rfl p 23 _ (nmC z2) rfl rfl hp3 (nmC_size _) name_info (nmC_one _) ?_; intro w8 hp4 hb8 hfar8))
              go_roundw
              case rel => exact ⟨j + 1, z2, by omega, by omega, by go_num, HC, hp4, (hfar8 q (by omega)).trans hq3, (hBi.trans (hF3.1.mono hBi.size)).trans (hb8.mono hp)⟩
              case measure => simp [intOf]; omega
            · obtain rfl : j = e := by omega
              obtain rfl : z = y := by rw [← hz.out, ← HU.out]
              have c1' := hzp.cell
              have c2' := hzq.cell
              have ee := nmEq_self z
              go_wp2
              go_roundw
              case rel => exact ⟨k + 1, by omega, by go_num, hBr.trans (hBi.mono hBr.size)⟩
              case measure => simp [intOf]; omega
    · obtain rfl : k = 18 := by omega
      go_wp2_with fail
      refine (awake_any _).mono ?_
      rintro e w5 ⟨rfl, hb5⟩
      go_wp2_with fail
      go_ret
      exact ⟨rfl, (hFr.1.trans (hBr.mono (by have := hFr.2; omega))).trans (hb5.mono (by have := hFr.2; have := hBr.size; omega))⟩

set_option maxRecDepth 100000 in
/-- The law's step, at every reading. -/
theorem lifted (os : Os) (started : os.Started) (H : Type) (enc : TypeId × Value → H) :
    ReturnsInHanded {} Try.checked os 8 .any (Rows.onetimeChainsSpec.pre6 enc Try.prog Try.f8 Rows.onetimeChainsRow.domain false) (Rows.onetimeChainsSpec.post enc Try.prog Try.f8 false true false false) := by
  refine law_lifted (C := Try.checked) (n := 3) (tb := 4) own started (by kernel_rfl) Try.func8 rfl (by kernel_rfl)
    (of_decide_eq_true (by kernel_rfl)) (by kernel_rfl) (by kernel_rfl) Try.underlying4
    (fun ds hd => by match ds, hd with | [_, _, _], _ => rfl)
    (ChangeSpec.witness6 (enc := enc) (C := Try.checked) false ⟨#[], #[.agg #[.int .u8 0, .int .u8 0, .int .u8 0, .int .u8 0, .int .u8 0, .int .u8 0, .int .u8 0, .int .u8 0], .agg #[.int .u8 0, .int .u8 0, .int .u8 0, .int .u8 0, .int .u8 0, .int .u8 0, .int .u8 0, .int .u8 0], .agg #[.int .u8 0, .int .u8 0, .int .u8 0, .int .u8 0, .int .u8 0, .int .u8 0, .int .u8 0, .int .u8 0]], []⟩ 8 (by kernel_rfl) (by kernel_rfl) (by kernel_rfl) (by kernel_rfl)) ?_
  intro W base args ds ps hval hA hlt hsz
  rw [Try.params8] at hA hval
  obtain ⟨v0, vs0, d0, ds0, p0, q0, hargs, rfl, rfl, h0, r0⟩ := trodAll_cons hA
  obtain ⟨v1, vs1, d1, ds1, p1, q1, rfl, rfl, rfl, h1, r1⟩ := trodAll_cons r0
  obtain ⟨v2, vs2, d2, ds2, p2, q2, rfl, rfl, rfl, h2, r2⟩ := trodAll_cons r1
  obtain ⟨rfl, rfl, rfl⟩ := trodAll_nil r2
  obtain rfl : args = #[v0, v1, v2] := by cases args; simp_all
  obtain ⟨x0, rfl, rfl⟩ := open_name Try.underlying23 Try.underlying5 cells1 cells8 (hval 0 _ v0 rfl rfl) h0
  obtain ⟨x1, rfl, rfl⟩ := open_name Try.underlying23 Try.underlying5 cells1 cells8 (hval 1 _ v1 rfl rfl) h1
  obtain ⟨x2, rfl, rfl⟩ := open_name Try.underlying23 Try.underlying5 cells1 cells8 (hval 2 _ v2 rfl rfl) h2
  exact walk W x0 x1 x2

theorem proved : Rows.OnetimeChainsSaid :=
  OpenClaim.holds_of_wide 8 Try.f8 rfl rfl rfl rfl rfl rfl rfl ⟨rfl, rfl, rfl, rfl, rfl⟩ rfl rfl rfl rfl rfl (by kernel_rfl) Try.func8 (by kernel_rfl)
    (of_decide_eq_true (by kernel_rfl)) (by unfold Func.isWrapper; first | (rw [if_pos (by decide +kernel)]; kernel_rfl) | (rw [if_neg (by decide +kernel)]; exact ⟨rfl, rfl⟩))
    (fun os started H enc _ => lifted os started H enc)
#print axioms proved
end Go.Proofs.Ytjfmccehiaeggaa.onetimeChains
