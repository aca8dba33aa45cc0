/-
  forkledgerref6: IDs, Size, Lowest, Select.
-/
import Derived.Test.YtonchdillkhjbaaR6Num
namespace Go.Fl
open Go.ChangeShapes Go.WideShapes Go.ChangeAt Go.RowKit
theorem range_filter_succ (p : Nat → Bool) (k : Nat) : (List.range (k + 1)).filter p = (List.range k).filter p ++ (if p k then [k] else []) := by
  rw [List.range_succ, List.filter_append]
  congr 1
  by_cases h : p k = true
  · simp [h]
  · simp [h]
theorem range_filter_len (p : Nat → Bool) (k : Nat) : ((List.range k).filter p).length ≤ k := by
  have := List.length_filter_le p (List.range k)
  simpa using this
theorem or_nat (a b : Nat) (ha : a < 1024) (hb : b < 1024) : bits .or .i64 (a : Int) (b : Int) = ((a ||| b : Nat) : Int) := by
  have h1 : ∀ x : Nat, x < 1024 → (BitVec.ofInt 64 (x : Int)).toNat = x := fun x hx => by rw [BitVec.ofInt_natCast, BitVec.toNat_ofNat]; exact Nat.mod_eq_of_lt (by omega)
  show IntKind.i64.wrap ((BitVec.ofInt 64 (a : Int) ||| BitVec.ofInt 64 (b : Int)).toNat : Nat) = _
  rw [BitVec.toNat_or, h1 a ha, h1 b hb, IntKind.wrap_i64]
  have : a ||| b < 2 ^ 10 := Nat.or_lt_two_pow ha hb
  omega
theorem pow_lt (k : Nat) (h : k < 10) : 2 ^ k < 1024 := Nat.pow_lt_pow_right (n := 10) (by omega) h
end Go.Fl
namespace Go.Proofs.Ytonchdillkhjbaa
open Go.ChangeShapes Go.WideShapes Go.ChangeAt Go.RowKit Go.Fl

theorem rids_any (m : Int) (hm : I64 m) (w : World) : Calls Try.prog 21 #[.int .i64 m] w fun e w' => ∃ v, e = .returned v ∧ OI w' w.heap.size 3 v (idsF m) ∧ Below w.heap.size w w' := by
  obtain ⟨i0, hi, hz0, hz1, hz2⟩ := info_parts info_i64
  have HI := Lib.hid hi
  have HZ0 := Lib.hid hz0
  have HZ1 := Lib.hid hz1
  have HZ2 := Lib.hid hz2
  have HM := Lib.hid hm
  clear hi hz0 hz1 hz2 hm
  go_enter Try.func21, Try.ntmps21
  go_wp2
  go_loopw [3, 4] (fun v i wr => ∃ k : Nat, k ≤ 10 ∧ i = .int .i64 (k : Int) ∧ OI wr w.heap.size 3 v ((List.range k).filter (bitM m)) ∧ Below w.heap.size w wr) (fun _ i _ => 10 - (intOf i).toNat)
  case atStart => exact ⟨0, by omega, rfl, OI.nil _ _ _, Below.refl _ _⟩
  case round =>
    obtain ⟨k, hk, rfl, hob, hB⟩ := hrel
    by_cases hlt : k < 10
    · have s1 : (k : Int) < 10 := by omega
      have k0 : (0 : Int) ≤ (k : Int) := by omega
      have hh : hasF m (k : Int) = bitM m k := by unfold hasF; rw [decide_eq_true (by omega)]; simp
      have hsn := range_filter_succ (bitM m) k
      have hlen := range_filter_len (bitM m) k
      obtain ⟨A1, n1, c1, rfl, hn1, hc1, hm1, -⟩ := hob.form_n
      cases hbit : bitM m k with
      | true =>
        rw [hbit] at hh
        rw [hbit, if_pos rfl] at hsn
        go_wp2_with fail
        refine (rhas_any m (k : Int) HM.out ⟨by omega, by omega⟩ _).mono ?_
        rintro e w1 ⟨rfl, hb1⟩
        rw [hh]
        have hob1 := hob.keep hb1
        have hB1 := hB.trans (hb1.mono hB.size)
        have hn9 : Is (w1.alloc (.cells (iC [k]).toArray 3)) w1.heap.size 3 (iC [k]).toArray := Is.new w1 _ _
        have hob9 := hob1.keep ((Below.refl _ _).alloc (Nat.le_refl _) (.cells (iC [k]).toArray 3))
        have hB9 := hB1.trans ((Below.refl _ _).alloc hB1.size (.cells (iC [k]).toArray 3))
        have hsz := hB9.size
        clear hob hb1 hob1 hbit hh
        go_wp2_with (first
          | (at_builtin; refine wpList_append_oi rfl 15 (.tmp 12) (.tmp 14) 29 rfl w.heap.size 3 i0 _ Try.underlying29 HI.out HZ0.out rfl HZ1.out HZ2.out _ _ rfl hob9 [k] w1.heap.size 1 3 rfl rfl hn9 (by simp; omega) hsz ?_; intro v2 w2 hob2 hg2; have hB2 : Below w.heap.size w w2 := hB9.grown hg2 hsz (fun z hz => hob9.own z hz))
          | fail)
        go_roundw
        case rel => exact ⟨k + 1, by omega, by go_num, by rw [hsn]; exact hob2, hB2⟩
        case measure => simp [intOf]; omega
      | false =>
        rw [hbit] at hh
        rw [hbit, if_neg (by simp), List.append_nil] at hsn
        go_wp2_with fail
        refine (rhas_any m (k : Int) HM.out ⟨by omega, by omega⟩ _).mono ?_
        rintro e w1 ⟨rfl, hb1⟩
        rw [hh]
        have hob1 := hob.keep hb1
        have hB1 := hB.trans (hb1.mono hB.size)
        clear hob hbit hh
        go_wp2_with fail
        go_roundw
        case rel => exact ⟨k + 1, by omega, by go_num, by rw [hsn]; exact hob1, hB1⟩
        case measure => simp [intOf]; omega
    · obtain rfl : k = 10 := by omega
      go_wp2
      go_ret
      exact ⟨_, rfl, hob, hB⟩

theorem rsize_any (m : Int) (hm : I64 m) (w : World) : Calls Try.prog 18 #[.int .i64 m] w fun e w' => e = .returned (.int .i64 ((idsF m).length : Int)) ∧ Below w.heap.size w w' := by
  obtain ⟨N, hN⟩ : ∃ N, (idsF m).length = N := ⟨_, rfl⟩
  rw [hN]
  go_enter Try.func18, Try.ntmps18
  go_wp2_with fail
  refine (rids_any m hm w).mono ?_
  rintro e w1 ⟨v, rfl, ho, hb⟩
  obtain ⟨A1, n1, c1, rfl, hn1, hc1, hm1, -⟩ := ho.form_n
  have hn := hn1.out
  rw [hN] at hn
  subst hn
  clear ho hn1 hN hc1 hm1
  go_wp2
  go_ret
  exact ⟨rfl, hb⟩

theorem oi_cell {w : World} {base : Nat} {ti : TypeId} {A : Option Addr} {n c : Nat} {l : List Nat} (h : OI w base ti (.slice A n c) l) {j x : Nat} (hj : l[j]? = some x) : ∃ g, A = some ⟨g, 0, none⟩ ∧ base ≤ g ∧ g < w.heap.size ∧ w.cell? ⟨g, j, none⟩ = some (iV x) := by
  obtain ⟨hl, ⟨h1, h0⟩ | ⟨g, cap, cur, h1, hg, hh, hn, hm, hs, ht⟩⟩ := h
  · have := (List.getElem?_eq_some_iff.1 hj).1; omega
  · injection h1 with h1 h2 h3
    subst h1 h2 h3
    have hil : j < l.length := (List.getElem?_eq_some_iff.1 hj).1
    have hx : (iC l)[j]? = some (iV x) := by simp [iC, hj]
    refine ⟨g, rfl, hg, (Array.getElem?_eq_some_iff.1 hh).1, ?_⟩
    rw [cell_of_row w g j cur ti (0, 0) hh]
    rw [← ht, List.getElem?_take, if_pos (by omega)] at hx
    simpa using hx

theorem rlow_any (m k : Int) (hm : I64 m) (hk : I64 k) (w : World) : Calls Try.prog 23 #[.int .i64 m, .int .i64 k] w fun e w' => e = .returned (.int .i64 (lowF m k)) ∧ Below w.heap.size w w' := by
  obtain ⟨l, hl⟩ : ∃ l, idsF m = l := ⟨_, rfl⟩
  have hsub := idsF_sub m
  unfold lowF
  rw [hl] at hsub ⊢
  obtain ⟨R, hR⟩ : ∃ R, orF (l.take k.toNat) = R := ⟨_, rfl⟩
  rw [hR]
  have HR := Lib.hid hR
  clear hR
  have HSUB := Lib.hid hsub
  have hlen : l.length ≤ 10 := by have := hsub.length_le; simpa using this
  have HM := Lib.hid hm
  clear hm
  obtain ⟨hk1, hk2⟩ := hk
  go_enter Try.func23, Try.ntmps23
  go_wp2_with fail
  refine (rids_any m HM.out w).mono ?_
  rintro e w1 ⟨v, rfl, ho, hb⟩
  rw [hl] at ho
  obtain ⟨A1, n1, c1, rfl, hn1, hc1, hm1, -⟩ := ho.form_n
  have hn := hn1.out
  have HO := Lib.hid ho
  clear ho hn1 hsub hl
  go_wp2_with fail
  go_loopw [5, 7] (fun o i wr => ∃ j : Nat, j ≤ n1 ∧ ((j : Int) ≤ k ∨ j = 0) ∧ i = .int .i64 (j : Int) ∧ o = .int .i64 ((orF (l.take j) : Nat) : Int) ∧ Below w1.heap.size w1 wr) (fun _ i _ => n1 - (intOf i).toNat)
  case atStart => exact ⟨0, by omega, by omega, rfl, rfl, Below.refl _ _⟩
  case round =>
    obtain ⟨j, hj, hjk, rfl, rfl, hB⟩ := hrel
    have hor : orF (l.take j) < 1024 := orF_lt ((List.take_sublist _ _).trans HSUB.out)
    by_cases hlt : j < n1 ∧ (j : Int) < k
    · obtain ⟨hlt1, hlt2⟩ := hlt
      have s1 : (j : Int) < (n1 : Int) := by omega
      have s0 : (0 : Int) ≤ (j : Int) := by omega
      obtain ⟨x, hx⟩ : ∃ x, l[j]? = some x := ⟨_, List.getElem?_eq_getElem (by omega)⟩
      have hx10 : x < 10 := List.mem_range.1 (HSUB.out.subset (List.mem_of_getElem? hx))
      obtain ⟨g, rfl, hg1, hg2, hc⟩ := oi_cell HO.out hx
      have hcr : wr.cell? ⟨g, j, none⟩ = some (iV x) := (hB.cell (p := ⟨g, j, none⟩) hg2).trans hc
      have hon := or_nat (orF (l.take j)) (2 ^ x) hor (pow_lt x hx10)
      have hsn : orF (l.take j) ||| 2 ^ x = orF (l.take (j + 1)) := by
        rw [← orF_snoc]
        congr 1
        exact take_snoc l j x hx
      rw [hsn] at hon
      obtain ⟨P2, hP2⟩ : ∃ p, (2 ^ x : Nat) = p := ⟨_, rfl⟩
      rw [hP2] at hon
      generalize orF (l.take j) = O1 at hon hor
      have HON := Lib.hid hon
      clear hon hsn hor
      go_wp2_with fail
      refine (rbit_any x hx10 _).mono ?_
      rintro e w2 ⟨rfl, hb2⟩
      rw [hP2]
      have hon := HON.out
      go_wp2_with fail
      go_roundw
      case rel => exact ⟨j + 1, by omega, by omega, by go_num, rfl, hB.trans (hb2.mono hB.size)⟩
      case measure => simp [intOf]; omega
    · have hfin : l.take k.toNat = l.take j := by
        by_cases h1 : j < n1
        · have h3 : k.toNat = j := by omega
          rw [h3]
        · rw [List.take_of_length_le (by omega), List.take_of_length_le (by omega)]
      have hfin2 : orF (l.take j) = R := by rw [← hfin]; exact HR.out
      rw [hfin2]
      clear hfin hfin2 hor
      by_cases h1 : j < n1
      · have s1 : (j : Int) < (n1 : Int) := by omega
        have s2 : ¬ (j : Int) < k := by omega
        go_wp2_with fail
        go_ret
        exact ⟨rfl, hb.trans (hB.mono hb.size)⟩
      · obtain rfl : j = n1 := by omega
        go_wp2_with fail
        go_ret
        exact ⟨rfl, hb.trans (hB.mono hb.size)⟩

theorem rsel_any (v s g : Int) (hv : I64 v) (hs : I64 s) (hg : I64 g) (w : World) : Calls Try.prog 25 #[.int .i64 v, .int .i64 s, .int .i64 g] w fun e w' => e = .returned (.int .i64 (selF v s g)) ∧ Below w.heap.size w w' := by
  unfold selF
  obtain ⟨R, hR⟩ : ∃ R, orF ((freeF v g).take s.toNat) = R := ⟨_, rfl⟩
  rw [hR]
  have HR := Lib.hid hR
  have HG := Lib.hid hg
  clear hR hg
  obtain ⟨hv1, hv2⟩ := hv
  obtain ⟨hs1, hs2⟩ := hs
  go_enter Try.func25, Try.ntmps25
  go_wp2_with fail
  go_loopw [7, 8] (fun o i wr => ∃ j : Nat, j ≤ 10 ∧ ((j : Int) ≤ v ∨ j = 0) ∧ i = .int .i64 (j : Int) ∧ o = .int .i64 ((orF (((List.range j).filter fun i => !bitM g i).take s.toNat) : Nat) : Int) ∧ Below w.heap.size w wr) (fun _ i _ => 10 - (intOf i).toNat)
  case atStart => exact ⟨0, by omega, by omega, rfl, by simp [orF], Below.refl _ _⟩
  case round =>
    obtain ⟨j, hj, hjv, rfl, rfl, hB⟩ := hrel
    obtain ⟨F, hF⟩ : ∃ F, ((List.range j).filter fun i => !bitM g i) = F := ⟨_, rfl⟩
    have hsubF : F.Sublist (List.range 10) := by
      rw [← hF]
      exact List.filter_sublist.trans (List.range_sublist.2 (by omega))
    by_cases hlt : j < 10 ∧ (j : Int) < v
    · obtain ⟨hlt1, hlt2⟩ := hlt
      have s1 : (j : Int) < 10 := by omega
      have s0 : (0 : Int) ≤ (j : Int) := by omega
      have hh : hasF g (j : Int) = bitM g j := by unfold hasF; rw [decide_eq_true (by omega)]; simp
      have hsn := range_filter_succ (fun i => !bitM g i) j
      rw [hF] at hsn ⊢
      have hor : orF (F.take s.toNat) < 1024 := orF_lt ((List.take_sublist _ _).trans hsubF)
      have hids : idsF ((orF (F.take s.toNat) : Nat) : Int) = F.take s.toNat := idsF_orF ((List.take_sublist _ _).trans hsubF)
      have hfl : F.length ≤ 10 := by have := hsubF.length_le; simpa using this
      cases hbit : bitM g j with
      | true =>
        rw [hbit] at hh hsn
        have hsn2 : ((List.range (j + 1)).filter fun i => !bitM g i) = F := by rw [hsn]; simp
        obtain ⟨O1, hO1⟩ : ∃ o, orF (F.take s.toNat) = o := ⟨_, rfl⟩
        rw [hO1]
        go_wp2_with fail
        refine (rhas_any g (j : Int) HG.out ⟨by omega, by omega⟩ _).mono ?_
        rintro e w1 ⟨rfl, hb1⟩
        rw [hh]
        clear hh hbit hsn hor hids
        go_wp2_with fail
        go_roundw
        case rel => exact ⟨j + 1, by omega, by omega, by go_num, by rw [hsn2, hO1], hB.trans (hb1.mono hB.size)⟩
        case measure => simp [intOf]; omega
      | false =>
        rw [hbit] at hh hsn
        have hsn2 : ((List.range (j + 1)).filter fun i => !bitM g i) = F ++ [j] := by rw [hsn]; simp
        have hI64 : I64 ((orF (F.take s.toNat) : Nat) : Int) := ⟨by omega, by omega⟩
        by_cases hfit : ((F.take s.toNat).length : Int) < s
        · have hfit2 : (F.take s.toNat).length < s.toNat := by omega
          rw [List.length_take] at hfit2
          have htk : F.take s.toNat = F := List.take_of_length_le (by omega)
          rw [htk] at hor hids hI64 hfit ⊢
          have htk2 : (F ++ [j]).take s.toNat = F ++ [j] := List.take_of_length_le (by rw [List.length_append]; simp; omega)
          have hon := or_nat (orF F) (2 ^ j) hor (pow_lt j hlt1)
          rw [← orF_snoc] at hon
          obtain ⟨P2, hP2⟩ : ∃ p, (2 ^ j : Nat) = p := ⟨_, rfl⟩
          rw [hP2] at hon
          obtain ⟨O2, hO2⟩ : ∃ o, orF (F ++ [j]) = o := ⟨_, rfl⟩
          rw [hO2] at hon
          obtain ⟨O1, hO1⟩ : ∃ o, orF F = o := ⟨_, rfl⟩
          rw [hO1] at hids hI64 hon ⊢
          obtain ⟨N, hN⟩ : ∃ n, F.length = n := ⟨_, rfl⟩
          rw [hN] at hfit
          have HON := Lib.hid hon
          go_wp2_with fail
          refine (rhas_any g (j : Int) HG.out ⟨by omega, by omega⟩ _).mono ?_
          rintro e w1 ⟨rfl, hb1⟩
          rw [hh]
          clear hh hbit hsn hor hon
          have hB1 := hB.trans (hb1.mono hB.size)
          go_wp2_with fail
          refine (rsize_any (O1 : Int) hI64 _).mono ?_
          rintro e w2 ⟨rfl, hb2⟩
          rw [hids, hN]
          have hB2 := hB1.trans (hb2.mono hB1.size)
          go_wp2_with fail
          refine (rbit_any j hlt1 _).mono ?_
          rintro e w3 ⟨rfl, hb3⟩
          rw [hP2]
          have hon := HON.out
          go_wp2_with fail
          go_roundw
          case rel => exact ⟨j + 1, by omega, by omega, by go_num, by rw [hsn2, htk2, hO2], hB2.trans (hb3.mono hB2.size)⟩
          case measure => simp [intOf]; omega
        · have htk2 : (F ++ [j]).take s.toNat = F.take s.toNat := by
            have hfit2 : s.toNat ≤ (F.take s.toNat).length := by omega
            rw [List.length_take] at hfit2
            rw [List.take_append_of_le_length (by omega)]
          obtain ⟨N, hN⟩ : ∃ n, (F.take s.toNat).length = n := ⟨_, rfl⟩
          rw [hN] at hfit
          obtain ⟨O1, hO1⟩ : ∃ o, orF (F.take s.toNat) = o := ⟨_, rfl⟩
          rw [hO1] at hids hI64 ⊢
          go_wp2_with fail
          refine (rhas_any g (j : Int) HG.out ⟨by omega, by omega⟩ _).mono ?_
          rintro e w1 ⟨rfl, hb1⟩
          rw [hh]
          clear hh hbit hsn hor
          have hB1 := hB.trans (hb1.mono hB.size)
          go_wp2_with fail
          refine (rsize_any (O1 : Int) hI64 _).mono ?_
          rintro e w2 ⟨rfl, hb2⟩
          rw [hids, hN]
          have hB2 := hB1.trans (hb2.mono hB1.size)
          go_wp2_with fail
          go_roundw
          case rel => exact ⟨j + 1, by omega, by omega, by go_num, by rw [hsn2, htk2, hO1], hB2⟩
          case measure => simp [intOf]; omega
    · have hfree : freeF v g = F := by
        rw [← hF]
        unfold freeF
        have e1 : List.range 10 = List.range j ++ (List.range (10 - j)).map (j + ·) := by
          rw [← List.range_add]
          congr 1
          omega
        rw [e1, List.filter_append]
        have e2 : ((List.range (10 - j)).map (j + ·)).filter (fun i : Nat => decide ((i : Int) < v) && !bitM g i) = [] := by
          rw [List.filter_eq_nil_iff]
          intro a ha
          simp only [List.mem_map, List.mem_range] at ha
          obtain ⟨b, hb, rfl⟩ := ha
          have : ¬ ((j + b : Nat) : Int) < v := by omega
          rw [decide_eq_false this]
          simp
        rw [e2, List.append_nil]
        apply List.filter_congr
        intro a ha
        have ha := List.mem_range.1 ha
        have : (a : Int) < v := by omega
        simp [this]
      have hfin2 : orF (F.take s.toNat) = R := by rw [← hfree]; exact HR.out
      rw [hF, hfin2]
      by_cases h1 : (j : Int) < v
      · obtain rfl : j = 10 := by omega
        go_wp2_with fail
        go_ret
        exact ⟨rfl, hB⟩
      · go_wp2_with fail
        go_ret
        exact ⟨rfl, hB⟩

/-- The reference keeps chapter 6. -/
theorem refC : CommS Try.prog 3 11 13 16 18 21 23 25 where
  quorum := fun w n hn => rquorum_any n hn w
  third := fun w n hn => rthird_any n hn w
  has := fun w m i hm hi => rhas_any m i hm hi w
  size := fun w m hm => rsize_any m hm w
  ids := fun w m hm => rids_any m hm w
  low := fun w m k hm hk => rlow_any m k hm hk w
  sel := fun w v s g hv hs hg => rsel_any v s g hv hs hg w
end Go.Proofs.Ytonchdillkhjbaa
