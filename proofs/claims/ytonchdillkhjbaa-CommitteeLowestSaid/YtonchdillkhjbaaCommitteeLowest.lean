/-
  The statement CommitteeLowest, proved for every mask and number, with no condition: Lowest returns a subset of the right size whose ids are less than all others.
-/
import Derived.Test.YtonchdillkhjbaaLaw6A
import Derived.Test.YtonchdillkhjbaaComm2
import Derived.Test.YtonchdillkhjbaaSkip
namespace Go.Proofs.Ytonchdillkhjbaa.committeeLowest
open Go.ChangeShapes Go.WideShapes Go.ChangeAt Go.RowKit Go.Fl

set_option maxRecDepth 10000 in
set_option maxHeartbeats 1000000 in
theorem walk (w : World) (m k : Int) (hm : I64 m) (hk : I64 k) :
    Calls Try.prog 9 #[.int .i64 m, .int .i64 k] w fun e w' => e = .returned (.bool true) ∧ Below w.heap.size w w' := by
  obtain ⟨O, hO⟩ : ∃ o, orF ((idsF m).take k.toNat) = o := ⟨_, rfl⟩
  have hIO := I64_orF (take_sub10 (idsF_sub m) k.toNat)
  have hin := low_in m k.toNat
  have hids := idsF_orF (take_sub10 (idsF_sub m) k.toNat)
  have hlow : lowF m k = (O : Int) := by unfold lowF; rw [hO]
  have hhas0 := fun (i x : Nat) (hx : (idsF m)[i]? = some x) => low_has m k.toNat hx
  have hsort := fun (i x0 x : Nat) (h0 : (idsF m)[i]? = some x0) (h1 : (idsF m)[i + 1]? = some x) => ids_at m (Nat.lt_succ_self i) h0 h1
  rw [hO] at hIO hin hids hhas0
  obtain ⟨l, hl⟩ : ∃ l, idsF m = l := ⟨_, rfl⟩
  have hsub := idsF_sub m
  rw [hl] at hids hhas0 hsort hsub
  have hlen := idsF_len m
  rw [hl] at hlen
  obtain ⟨n, hn⟩ : ∃ n, l.length = n := ⟨_, rfl⟩
  obtain ⟨t, ht⟩ : ∃ t, (l.take k.toNat).length = t := ⟨_, rfl⟩
  have ht2 : t = min k.toNat n := by rw [← ht, List.length_take, hn]
  have eS : ((idsF (O : Int)).length : Int) = (t : Int) := by rw [hids, ht]
  have eM : ((idsF m).length : Int) = (n : Int) := by rw [hl, hn]
  have HM := Lib.hid hm
  have HK := Lib.hid hk
  have HO := Lib.hid hIO
  have HH := Lib.hid hhas0
  have HSORT := Lib.hid hsort
  have HSUB := Lib.hid hsub
  have HLN := Lib.hid hn
  rw [hn] at hlen
  obtain ⟨mn, hmn⟩ : ∃ x, min k (n : Int) = x := ⟨_, rfl⟩
  have hmx : max (0 : Int) mn = (t : Int) := by omega
  have hmin : ∀ W : World, (Builtin.min_ #[3, 3] 3 #[.int .i64 k, .int .i64 (n : Int)]).run Try.prog W = .ok (.int .i64 mn) W := fun W => by
    rw [run_min_int2]
    congr 2
    split <;> omega
  have hmax : ∀ W : World, (Builtin.max_ #[3, 3] 3 #[.int .i64 0, .int .i64 mn]).run Try.prog W = .ok (.int .i64 (t : Int)) W := fun W => by
    rw [run_max_int2]
    congr 2
    split <;> omega
  obtain ⟨hk1, hk2⟩ := hk
  clear hm hhas0 hsort hsub hIO hids ht hn hO ht2 hmn hmx
  go_enter Try.func9, Try.ntmps9
  go_wp2_with fail
  refine (comC.low _ m k HM.out HK.out).mono ?_
  rintro e w1 ⟨rfl, hb1⟩
  rw [hlow]
  have hB1 := hb1
  go_wp2_with fail
  refine (comC.size _ (O : Int) HO.out).mono ?_
  rintro e w2 ⟨rfl, hb2⟩
  rw [eS]
  have hB2 := hB1.trans (hb2.mono hB1.size)
  go_wp2_with fail
  refine (comC.size _ m HM.out).mono ?_
  rintro e w3 ⟨rfl, hb3⟩
  rw [eM]
  have hB3 := hB2.trans (hb3.mono hB2.size)
  go_wp2_with fail
  refine (comC.ids _ m HM.out).mono ?_
  rintro e w3 ⟨v, rfl, ho, hb4⟩
  have hB4 := hB3.trans (hb4.mono hB3.size)
  rw [hl] at ho
  obtain ⟨A, n', c, rfl, hn', hc, -, -⟩ := ho.form_n
  have en : n' = n := by rw [hn'.out, HLN.out]
  subst en
  have HOI := Lib.hid ho
  clear ho hn' hl eM eS hlow hin hmin hmax
  go_wp2_with fail
  go_loopw [7] (fun i wr => ∃ j : Nat, j ≤ n' ∧ i = .int .i64 (j : Int) ∧ Below w3.heap.size w3 wr) (fun i _ => n' - (intOf i).toNat)
  case atStart => exact ⟨0, by omega, rfl, Below.refl _ _⟩
  case round =>
    obtain ⟨j, hj, rfl, hBr⟩ := hrel
    by_cases hlt : j < n'
    · have s1 : (j : Int) < (n' : Int) := by omega
      have s0 : (0 : Int) ≤ (j : Int) := by omega
      have s10 : (j : Int) ≤ 10 := by omega
      obtain ⟨x, hx⟩ : ∃ x, l[j]? = some x := ⟨_, List.getElem?_eq_getElem (by have := HLN.out; omega)⟩
      have hx10 : x < 10 := List.mem_range.1 (HSUB.out.subset (List.mem_of_getElem? hx))
      obtain ⟨g, rfl, -, hg, hcx⟩ := oi_cell HOI.out hx
      have HX := Lib.hid hcx
      have HG := Lib.hid hg
      have hhas := HH.out j x hx
      have hD : decide (j < k.toNat) = decide ((j : Int) < k) := by rw [decide_eq_decide]; omega
      rw [hD] at hhas
      obtain ⟨D, hDD⟩ : ∃ D, decide ((j : Int) < k) = D := ⟨_, rfl⟩
      rw [hDD] at hhas
      have HDD := Lib.hid hDD
      clear hcx hg hD hDD
      by_cases hj0 : j = 0
      · subst hj0
        have hDD : decide ((0 : Int) < k) = D := HDD.out
        go_wp2_with fail
        refine wp_region_held_drew (S := fun w' => Below w3.heap.size w3 w') (by kernel_rfl) (hBr.trans (Below.refl _ _).drew) (fun hHeld => ?_)
        refine held_pure 0 33 (.int .i64 (O : Int)) rfl (fun W => by rfl) hHeld ?_
        try simp only [Act.put, List.setIfInBounds_toArray, List.set_cons_zero, List.set_cons_succ]
        refine held_pure 1 34 (.slice (some ⟨g, 0, none⟩) n' c) rfl (fun W => by rfl) hHeld ?_
        try simp only [Act.put, List.setIfInBounds_toArray, List.set_cons_zero, List.set_cons_succ]
        refine held_pure 2 35 (.int .i64 ((0 : Nat) : Int)) rfl (fun W => by rfl) hHeld ?_
        try simp only [Act.put, List.setIfInBounds_toArray, List.set_cons_zero, List.set_cons_succ]
        refine held_pure 3 36 (.pointer (some ⟨g, 0, none⟩)) rfl (fun W => by go_simp) hHeld ?_
        try simp only [Act.put, List.setIfInBounds_toArray, List.set_cons_zero, List.set_cons_succ]
        refine held_if 4 37 (.int .i64 (x : Int)) rfl (fun w' h => by (have hc := (h.cell (p := ⟨g, 0, none⟩) HG.out).trans HX.out; go_simp)) hHeld ?_
        try simp only [Act.put, List.setIfInBounds_toArray, List.set_cons_zero, List.set_cons_succ]
        refine held_pure 6 39 (.int .i64 ((0 : Nat) : Int)) rfl (fun W => by rfl) hHeld ?_
        try simp only [Act.put, List.setIfInBounds_toArray, List.set_cons_zero, List.set_cons_succ]
        refine held_pure 7 40 (.int .i64 k) rfl (fun W => by rfl) hHeld ?_
        try simp only [Act.put, List.setIfInBounds_toArray, List.set_cons_zero, List.set_cons_succ]
        refine held_pure 8 41 (.bool D) rfl (fun W => by (go_simp)) hHeld ?_
        try simp only [Act.put, List.setIfInBounds_toArray, List.set_cons_zero, List.set_cons_succ]
        refine held_one (i := 5) (by kernel_rfl) rfl (by rfl) (fun KK hK => ?_)
        go_wp2_with fail
        refine (comC.has _ (O : Int) (x : Int) HO.out ⟨by omega, by omega⟩).mono ?_
        rintro e x1 ⟨rfl, hb⟩
        rw [hhas]
        go_wp2_with fail
        refine hK.out _ _ (hHeld.trans (hb.mono hHeld.size)) (fun hHeld1 => ?_)
        clear hK KK
        try simp only [Act.put, List.setIfInBounds_toArray, List.set_cons_zero, List.set_cons_succ]
        refine held_pure 9 42 (.bool false) rfl (fun W => by go_simp) hHeld1 ?_
        try simp only [Act.put, List.setIfInBounds_toArray, List.set_cons_zero, List.set_cons_succ]
        refine held_pure 10 43 (.bool false) rfl (fun W => by rfl) hHeld1 ?_
        try simp only [Act.put, List.setIfInBounds_toArray, List.set_cons_zero, List.set_cons_succ]
        refine held_pure 11 44 (.int .i64 ((0 : Nat) : Int)) rfl (fun W => by rfl) hHeld1 ?_
        try simp only [Act.put, List.setIfInBounds_toArray, List.set_cons_zero, List.set_cons_succ]
        refine held_pure 12 45 (.bool false) rfl (fun W => by go_simp) hHeld1 ?_
        try simp only [Act.put, List.setIfInBounds_toArray, List.set_cons_zero, List.set_cons_succ]
        refine held_pure 13 46 (.bool false) rfl (fun W => by rfl) hHeld1 ?_
        try simp only [Act.put, List.setIfInBounds_toArray, List.set_cons_zero, List.set_cons_succ]
        refine held_skip 14 47 rfl (by rfl) hHeld1 ?_
        try simp only [Act.put, List.setIfInBounds_toArray, List.set_cons_zero, List.set_cons_succ]
        refine held_skip 15 48 rfl (by rfl) hHeld1 ?_
        try simp only [Act.put, List.setIfInBounds_toArray, List.set_cons_zero, List.set_cons_succ]
        refine held_skip 16 49 rfl (by rfl) hHeld1 ?_
        try simp only [Act.put, List.setIfInBounds_toArray, List.set_cons_zero, List.set_cons_succ]
        refine held_skip 17 50 rfl (by rfl) hHeld1 ?_
        try simp only [Act.put, List.setIfInBounds_toArray, List.set_cons_zero, List.set_cons_succ]
        refine held_skip 18 51 rfl (by rfl) hHeld1 ?_
        try simp only [Act.put, List.setIfInBounds_toArray, List.set_cons_zero, List.set_cons_succ]
        refine held_skip 19 52 rfl (by rfl) hHeld1 ?_
        try simp only [Act.put, List.setIfInBounds_toArray, List.set_cons_zero, List.set_cons_succ]
        refine held_skip 20 53 rfl (by rfl) hHeld1 ?_
        try simp only [Act.put, List.setIfInBounds_toArray, List.set_cons_zero, List.set_cons_succ]
        refine held_skip 21 54 rfl (by rfl) hHeld1 ?_
        try simp only [Act.put, List.setIfInBounds_toArray, List.set_cons_zero, List.set_cons_succ]
        refine held_skip 22 55 rfl (by rfl) hHeld1 ?_
        try simp only [Act.put, List.setIfInBounds_toArray, List.set_cons_zero, List.set_cons_succ]
        refine held_skip 23 56 rfl (by rfl) hHeld1 ?_
        try simp only [Act.put, List.setIfInBounds_toArray, List.set_cons_zero, List.set_cons_succ]
        refine held_pure 24 57 (.bool false) rfl (fun W => by rfl) hHeld1 ?_
        try simp only [Act.put, List.setIfInBounds_toArray, List.set_cons_zero, List.set_cons_succ]
        refine held_pure 25 58 (.bool false) rfl (fun W => by rfl) hHeld1 ?_
        try simp only [Act.put, List.setIfInBounds_toArray, List.set_cons_zero, List.set_cons_succ]
        refine wpAnyH_done (by kernel_rfl) ?_ _
        try simp only [Act.put, List.setIfInBounds_toArray, List.set_cons_zero, List.set_cons_succ]
        go_wp2_with fail
        go_roundw
        case rel => exact ⟨0 + 1, by omega, by go_num, hHeld1⟩
        case measure => simp [intOf]; omega
      · obtain ⟨j1, hj1⟩ : ∃ j1, j1 + 1 = j := ⟨j - 1, by omega⟩
        obtain ⟨x0, hx0⟩ : ∃ x0, l[j1]? = some x0 := ⟨_, List.getElem?_eq_getElem (by have := HLN.out; omega)⟩
        have hlt0 := HSORT.out j1 x0 x hx0 (by rw [hj1]; exact hx)
        obtain ⟨g', e', -, hg', hcx0⟩ := oi_cell HOI.out hx0
        injection e' with e'
        injection e' with e'
        subst e'
        have HX0 := Lib.hid hcx0
        have h00 : (x0 : Int) < (x : Int) := by omega
        have hjj : (j : Int) - 1 = (j1 : Int) := by omega
        have hjp : (0 : Int) < (j : Int) := by omega
        have hjp0 : 0 < j := by omega
        have hj2 : (j1 : Int) < (n' : Int) := by omega
        have hj3 : (0 : Int) ≤ (j1 : Int) := by omega
        have hj4 : IntKind.i64.wrap (j1 : Int) = (j1 : Int) := by rw [IntKind.wrap_i64]; omega
        have hDD := HDD.out
        clear hcx0 hj1
        go_wp2_with fail
        refine wp_region_held_drew (S := fun w' => Below w3.heap.size w3 w') (by kernel_rfl) (hBr.trans (Below.refl _ _).drew) (fun hHeld => ?_)
        refine held_pure 0 33 (.int .i64 (O : Int)) rfl (fun W => by rfl) hHeld ?_
        try simp only [Act.put, List.setIfInBounds_toArray, List.set_cons_zero, List.set_cons_succ]
        refine held_pure 1 34 (.slice (some ⟨g, 0, none⟩) n' c) rfl (fun W => by rfl) hHeld ?_
        try simp only [Act.put, List.setIfInBounds_toArray, List.set_cons_zero, List.set_cons_succ]
        refine held_pure 2 35 (.int .i64 (j : Int)) rfl (fun W => by rfl) hHeld ?_
        try simp only [Act.put, List.setIfInBounds_toArray, List.set_cons_zero, List.set_cons_succ]
        refine held_pure 3 36 (.pointer (some ⟨g, j, none⟩)) rfl (fun W => by go_simp) hHeld ?_
        try simp only [Act.put, List.setIfInBounds_toArray, List.set_cons_zero, List.set_cons_succ]
        refine held_if 4 37 (.int .i64 (x : Int)) rfl (fun w' h => by (have hc := (h.cell (p := ⟨g, j, none⟩) HG.out).trans HX.out; go_simp)) hHeld ?_
        try simp only [Act.put, List.setIfInBounds_toArray, List.set_cons_zero, List.set_cons_succ]
        refine held_pure 6 39 (.int .i64 (j : Int)) rfl (fun W => by rfl) hHeld ?_
        try simp only [Act.put, List.setIfInBounds_toArray, List.set_cons_zero, List.set_cons_succ]
        refine held_pure 7 40 (.int .i64 k) rfl (fun W => by rfl) hHeld ?_
        try simp only [Act.put, List.setIfInBounds_toArray, List.set_cons_zero, List.set_cons_succ]
        refine held_pure 8 41 (.bool D) rfl (fun W => by (go_simp)) hHeld ?_
        try simp only [Act.put, List.setIfInBounds_toArray, List.set_cons_zero, List.set_cons_succ]
        refine held_one (i := 5) (by kernel_rfl) rfl (by rfl) (fun KK hK => ?_)
        go_wp2_with fail
        refine (comC.has _ (O : Int) (x : Int) HO.out ⟨by omega, by omega⟩).mono ?_
        rintro e x1 ⟨rfl, hb⟩
        rw [hhas]
        go_wp2_with fail
        refine hK.out _ _ (hHeld.trans (hb.mono hHeld.size)) (fun hHeld1 => ?_)
        clear hK KK
        try simp only [Act.put, List.setIfInBounds_toArray, List.set_cons_zero, List.set_cons_succ]
        refine held_pure 9 42 (.bool false) rfl (fun W => by go_simp) hHeld1 ?_
        try simp only [Act.put, List.setIfInBounds_toArray, List.set_cons_zero, List.set_cons_succ]
        refine held_pure 10 43 (.bool false) rfl (fun W => by rfl) hHeld1 ?_
        try simp only [Act.put, List.setIfInBounds_toArray, List.set_cons_zero, List.set_cons_succ]
        refine held_pure 11 44 (.int .i64 (j : Int)) rfl (fun W => by rfl) hHeld1 ?_
        try simp only [Act.put, List.setIfInBounds_toArray, List.set_cons_zero, List.set_cons_succ]
        refine held_pure 12 45 (.bool true) rfl (fun W => by go_simp) hHeld1 ?_
        try simp only [Act.put, List.setIfInBounds_toArray, List.set_cons_zero, List.set_cons_succ]
        refine held_pure 13 46 (.bool true) rfl (fun W => by rfl) hHeld1 ?_
        try simp only [Act.put, List.setIfInBounds_toArray, List.set_cons_zero, List.set_cons_succ]
        refine held_pure 14 47 (.slice (some ⟨g, 0, none⟩) n' c) rfl (fun W => by rfl) hHeld1 ?_
        try simp only [Act.put, List.setIfInBounds_toArray, List.set_cons_zero, List.set_cons_succ]
        refine held_pure 15 48 (.int .i64 (j : Int)) rfl (fun W => by rfl) hHeld1 ?_
        try simp only [Act.put, List.setIfInBounds_toArray, List.set_cons_zero, List.set_cons_succ]
        refine held_pure 16 49 (.pointer (some ⟨g, j, none⟩)) rfl (fun W => by go_simp) hHeld1 ?_
        try simp only [Act.put, List.setIfInBounds_toArray, List.set_cons_zero, List.set_cons_succ]
        refine held_if 17 50 (.int .i64 (x : Int)) rfl (fun w' h => by (have hc := (h.cell (p := ⟨g, j, none⟩) HG.out).trans HX.out; go_simp)) hHeld1 ?_
        try simp only [Act.put, List.setIfInBounds_toArray, List.set_cons_zero, List.set_cons_succ]
        refine held_pure 18 51 (.slice (some ⟨g, 0, none⟩) n' c) rfl (fun W => by rfl) hHeld1 ?_
        try simp only [Act.put, List.setIfInBounds_toArray, List.set_cons_zero, List.set_cons_succ]
        refine held_pure 19 52 (.int .i64 (j : Int)) rfl (fun W => by rfl) hHeld1 ?_
        try simp only [Act.put, List.setIfInBounds_toArray, List.set_cons_zero, List.set_cons_succ]
        refine held_pure 20 53 (.int .i64 (j1 : Int)) rfl (fun W => by go_simp) hHeld1 ?_
        try simp only [Act.put, List.setIfInBounds_toArray, List.set_cons_zero, List.set_cons_succ]
        refine held_pure 21 54 (.pointer (some ⟨g, j1, none⟩)) rfl (fun W => by go_simp) hHeld1 ?_
        try simp only [Act.put, List.setIfInBounds_toArray, List.set_cons_zero, List.set_cons_succ]
        refine held_if 22 55 (.int .i64 (x0 : Int)) rfl (fun w' h => by (have hc := (h.cell (p := ⟨g, j1, none⟩) HG.out).trans HX0.out; go_simp)) hHeld1 ?_
        try simp only [Act.put, List.setIfInBounds_toArray, List.set_cons_zero, List.set_cons_succ]
        refine held_pure 23 56 (.bool false) rfl (fun W => by go_simp) hHeld1 ?_
        try simp only [Act.put, List.setIfInBounds_toArray, List.set_cons_zero, List.set_cons_succ]
        refine held_pure 24 57 (.bool false) rfl (fun W => by rfl) hHeld1 ?_
        try simp only [Act.put, List.setIfInBounds_toArray, List.set_cons_zero, List.set_cons_succ]
        refine held_pure 25 58 (.bool false) rfl (fun W => by rfl) hHeld1 ?_
        try simp only [Act.put, List.setIfInBounds_toArray, List.set_cons_zero, List.set_cons_succ]
        refine wpAnyH_done (by kernel_rfl) ?_ _
        try simp only [Act.put, List.setIfInBounds_toArray, List.set_cons_zero, List.set_cons_succ]
        go_wp2_with fail
        go_roundw
        case rel => exact ⟨j + 1, by omega, by go_num, hHeld1⟩
        case measure => simp [intOf]; omega
    · obtain rfl : j = n' := by omega
      go_wp2_with fail
      refine (awake_any _).mono ?_
      rintro e w11 ⟨rfl, hb11⟩
      have hB11 := (hB4.trans (hBr.mono hB4.size)).trans (hb11.mono (hB4.trans (hBr.mono hB4.size)).size)
      go_wp2_with fail
      go_ret
      exact ⟨rfl, hB11⟩

set_option maxRecDepth 100000 in
/-- The law's step, at every reading. -/
theorem lifted (os : Os) (started : os.Started) (H : Type) (enc : TypeId × Value → H) :
    ReturnsInHanded {} Try.checked os 9 .any (Rows.committeeLowestSpec.pre6 enc Try.prog Try.f9 Rows.committeeLowestRow.domain false) (Rows.committeeLowestSpec.post enc Try.prog Try.f9 false true false false) := by
  refine law_lifted (C := Try.checked) (n := 2) (tb := 4) own started (by kernel_rfl) Try.func9 rfl (by kernel_rfl)
    (of_decide_eq_true (by kernel_rfl)) (by kernel_rfl) (by kernel_rfl) Try.underlying4
    (fun ds hd => by match ds, hd with | [_, _], _ => rfl)
    (ChangeSpec.witness6 (enc := enc) (C := Try.checked) false ⟨#[], #[.int .i64 0, .int .i64 0], []⟩ 8 (by kernel_rfl) (by kernel_rfl) (by kernel_rfl) (by kernel_rfl)) ?_
  intro W base args ds ps hval hA hlt hsz
  rw [Try.params9] at hA hval
  obtain ⟨v0, vs0, d0, ds0, p0, q0, hargs, rfl, rfl, h0, r0⟩ := trodAll_cons hA
  obtain ⟨v1, vs1, d1, ds1, p1, q1, rfl, rfl, rfl, h1, r1⟩ := trodAll_cons r0
  obtain ⟨rfl, rfl, rfl⟩ := trodAll_nil r1
  obtain rfl : args = #[v0, v1] := by cases args; simp_all
  obtain ⟨x0, rfl, rfl, rfl, wn0⟩ := open_int Try.underlying25 (hval 0 _ v0 rfl rfl) h0
  obtain ⟨x1, rfl, rfl, rfl, wn1⟩ := open_int Try.underlying3 (hval 1 _ v1 rfl rfl) h1
  exact walk W x0 x1 (bounds_i64 wn0) (bounds_i64 wn1)

theorem proved : Rows.CommitteeLowestSaid :=
  OpenClaim.holds_of_wide 9 Try.f9 rfl rfl rfl rfl rfl rfl rfl ⟨rfl, rfl, rfl, rfl, rfl⟩ rfl rfl rfl rfl rfl (by kernel_rfl) Try.func9 (by kernel_rfl)
    (of_decide_eq_true (by kernel_rfl)) (by unfold Func.isWrapper; first | (rw [if_pos (by decide +kernel)]; kernel_rfl) | (rw [if_neg (by decide +kernel)]; exact ⟨rfl, rfl⟩))
    (fun os started H enc _ => lifted os started H enc)
#print axioms proved
end Go.Proofs.Ytonchdillkhjbaa.committeeLowest
