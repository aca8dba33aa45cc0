/-
  The statement CodecBack, proved for every slice of bytes and every slice of values, with no condition: what was appended is read back, and ends where the bytes end.
-/
import Derived.Test.YtnpbohndhgnfjaaRead2
namespace Go.Proofs.Ytnpbohndhgnfjaa.codecBack
open Go.ChangeShapes Go.WideShapes Go.ChangeAt Go.RowKit Go.Fl

theorem own : ownKnob Try.prog.godebug = none := by kernel_rfl
theorem cells1 : Try.prog.cellsOf 5 = 1 := by kernel_rfl
theorem bytes1 : Try.prog.bytesOf 5 = 1 := by kernel_rfl

theorem walk_long (w : World) (v : Value) (u : Value) (L : List Val) (h2 : VS rVal w u L) (hL : 60 < L.length) (hm : L.length ≤ 281474976710656) :
    Calls Try.prog 6 #[v, u] w fun e w' => e = .returned (.bool true) ∧ Below w.heap.size w w' := by
  obtain ⟨A, c, rfl, hc1, hc2⟩ := h2.form
  have s1 : (60 : Int) < (L.length : Int) := by omega
  go_enter Try.func6, Try.ntmps6
  go_wp2_with (go_at_call 14; refine (awake_any _).mono ?_; rintro e w6 ⟨rfl, hb6⟩)
  go_ret
  exact ⟨rfl, hb6⟩

set_option maxHeartbeats 4000000 in
theorem walk_bad (w : World) (v : Value) (l : List UInt8) (u : Value) (L : List Val) (h : VB w v l) (hl : l.length ≤ 140737488351232) (h2 : VS rVal w u L) (hf : ∀ x ∈ L, rVal.fine x) (hL : L.length ≤ 60) (hbad : (writeF l L).2 = false) :
    Calls Try.prog 6 #[v, u] w fun e w' => e = .returned (.bool true) ∧ Below w.heap.size w w' := by
  have hH2 := h2
  obtain ⟨A, c, rfl, hc1, hc2⟩ := h2.form
  have s1 : (L.length : Int) ≤ 60 := by omega
  have HB := Lib.hid hbad
  clear hbad
  go_enter Try.func6, Try.ntmps6
  go_wp2_with fail
  refine (write_any w v l _ L h h2 hf hL hl).mono ?_
  rintro e w1 ⟨b, rfl, -, hb1⟩
  rw [HB.out]
  have hF1 := (Fr.refl w).next hb1
  go_wp2
  go_loopw [7] (fun i wr => ∃ k : Nat, k ≤ L.length ∧ i = .int .i64 k ∧ (∀ x ∈ L.take k, okF x = true) ∧ Fr w 0 wr) (fun i _ => L.length - (intOf i).toNat)
  case atStart => exact ⟨0, by omega, rfl, by simp, hF1⟩
  case round =>
    obtain ⟨k, hk, rfl, hok, hF⟩ := hrel
    clear hb1 hF1
    by_cases hlt : k < L.length
    · obtain ⟨x, hx⟩ : ∃ x, L[k]? = some x := ⟨_, List.getElem?_eq_getElem hlt⟩
      obtain ⟨_, _, _, hk4, hk5, _⟩ := hf x (List.mem_of_getElem? hx)
      have hk4 : x.2.2.2.1.length ≤ 140737488351232 := hk4
      have hk5 : x.2.2.2.2.1.length ≤ 17592186044160 := hk5
      have hsn := take_snoc L k x hx
      obtain ⟨g, off, c', hv, hg, cs, hcs, hcell⟩ := (hH2.next hF.1).at_ hx
      cases hv
      obtain ⟨A1, a1, d1, A2, a2, d2, rfl, ha1, ha2, -, -⟩ := rVal_form hcs
      rw [cellsV] at hcell
      have c3 : wr.cell? ⟨g, off + k * 5 + 3, none⟩ = some (.slice A1 a1 d1) := hcell 3 (by omega)
      have c4 : wr.cell? ⟨g, off + k * 5 + 4, none⟩ = some (.slice A2 a2 d2) := hcell 4 (by omega)
      have s2 : (k : Int) < (L.length : Int) := by omega
      have ha1 := ha1.out
      have ha2 := ha2.out
      clear hcell hcs
      by_cases h3 : 65535 < a1
      · have t1 : (65535 : Int) < (a1 : Int) := by omega
        go_wp2_with (go_at_call 14; refine (awake_any _).mono ?_; rintro e w6 ⟨rfl, hb6⟩)
        go_ret
        exact ⟨rfl, (hF.next hb6).1⟩
      · have t1 : (a1 : Int) ≤ 65535 := by omega
        by_cases h4 : 255 < a2
        · have t2 : (255 : Int) < (a2 : Int) := by omega
          go_wp2_with (go_at_call 14; refine (awake_any _).mono ?_; rintro e w6 ⟨rfl, hb6⟩)
          go_ret
          exact ⟨rfl, (hF.next hb6).1⟩
        · have t2 : (a2 : Int) ≤ 255 := by omega
          have hokx : okF x = true := by
            unfold okF
            split
            · rfl
            · split
              · rw [decide_eq_true_iff]; omega
              · rw [decide_eq_true_iff]; omega
          go_wp2
          go_roundw
          case rel => exact ⟨k + 1, by omega, by go_num, by
            rw [← hsn]
            intro y hy
            rcases List.mem_append.1 hy with hy | hy
            · exact hok y hy
            · simp at hy
              subst hy
              exact hokx, hF⟩
          case measure => simp [intOf]; omega
    · exfalso
      obtain rfl : k = L.length := by omega
      rw [List.take_length] at hok
      have := HB.out
      rw [writeF_ok l L hok] at this
      cases this

set_option maxHeartbeats 8000000 in
set_option maxRecDepth 10000 in
theorem walk_ok (w : World) (v : Value) (l : List UInt8) (u : Value) (L : List Val) (h : VB w v l) (hl : l.length ≤ 140737488351232) (h2 : VS rVal w u L) (hf : ∀ x ∈ L, rVal.fine x) (hL : L.length ≤ 60) (hok : ∀ x ∈ L, okF x = true) :
    Calls Try.prog 6 #[v, u] w fun e w' => e = .returned (.bool true) ∧ Below w.heap.size w w' := by
  have hH2 := h2
  obtain ⟨A, c, rfl, hc1, hc2⟩ := h2.form
  have hW := writeF_ok l L hok
  have hWl := writeF_len l L
  obtain ⟨bs, hbs⟩ : ∃ bs, l ++ L.flatMap encF = bs := ⟨_, rfl⟩
  rw [hW, hbs] at hWl
  rw [hbs] at hW
  simp only at hWl
  have hbl : bs.length ≤ 281474976710656 := by omega
  have s1 : (L.length : Int) ≤ 60 := by omega
  have HB := Lib.hid hW
  have HBS := Lib.hid hbs
  have hh := h
  obtain ⟨A0, n0, c0, rfl, hn0, _, _, _⟩ := h.form_n
  have hn0 := hn0.out
  subst hn0
  clear hW hbs
  go_enter Try.func6, Try.ntmps6
  go_wp2_with fail
  refine (write_any w _ l _ L hh h2 hf hL hl).mono ?_
  rintro e w1 ⟨b, rfl, hvb, hb1⟩
  rw [HB.out] at hvb
  rw [HB.out]
  have hF1 := (Fr.refl w).next hb1
  obtain ⟨A3, n3, c3, rfl, hn3, _, _, _⟩ := hvb.form_n
  go_wp2
  go_loopw [8, 9] (fun a i wr => ∃ k : Nat, k ≤ L.length ∧ i = .int .i64 k ∧ a = .int .i64 ((l ++ (L.take k).flatMap encF).length : Int) ∧ Below w1.heap.size w1 wr) (fun _ i _ => L.length - (intOf i).toNat)
  case atStart => exact ⟨0, by omega, rfl, by simp, Below.refl _ _⟩
  case round =>
    obtain ⟨k, hk, rfl, rfl, hF⟩ := hrel
    by_cases hlt : k < L.length
    · obtain ⟨x, hx⟩ : ∃ x, L[k]? = some x := ⟨_, List.getElem?_eq_getElem hlt⟩
      obtain ⟨_, _, _, hk4, hk5, _⟩ := hf x (List.mem_of_getElem? hx)
      have hk4 : x.2.2.2.1.length ≤ 140737488351232 := hk4
      have hk5 : x.2.2.2.2.1.length ≤ 17592186044160 := hk5
      have hokx := hok x (List.mem_of_getElem? hx)
      have hsn : (l ++ (L.take (k + 1)).flatMap encF) = (l ++ (L.take k).flatMap encF) ++ encF x := by
        rw [← take_snoc L k x hx, List.flatMap_append, List.append_assoc]
        simp
      obtain ⟨rest, hrest⟩ : ∃ rest, bs = (l ++ (L.take k).flatMap encF) ++ (encF x ++ rest) := ⟨(L.drop (k + 1)).flatMap encF, by
        rw [← HBS.out]
        have e : L.flatMap encF = (L.take k).flatMap encF ++ (encF x ++ (L.drop (k + 1)).flatMap encF) := by
          have h1 : L = L.take k ++ ([x] ++ L.drop (k + 1)) := by
            rw [← List.append_assoc, take_snoc L k x hx, List.take_append_drop]
          conv => lhs; rw [h1]
          rw [List.flatMap_append, List.flatMap_append]
          simp
        rw [e, List.append_assoc]⟩
      generalize hpre : l ++ (L.take k).flatMap encF = pre at hsn hrest
      have hprelen : pre.length ≤ bs.length := by rw [hrest]; simp
      have hsnl : ((l ++ (L.take (k + 1)).flatMap encF).length : Int) = pre.length + (encF x).length := by rw [hsn, List.length_append]; omega
      obtain ⟨g, off, c', hv, hg, cs, hcs, hcell⟩ := (hH2.next ((Fr.refl w).next (hb1.trans (hF.mono hb1.size))).1).at_ hx
      cases hv
      obtain ⟨A1, a1, d1, A2, a2, d2, rfl, ha1, ha2, hp, hn⟩ := rVal_form hcs
      rw [cellsV] at hcell
      have f0 := fun (w' : World) (h : Below wr.heap.size wr w') => (h.cell hg).trans (show wr.cell? ⟨g, off + k * 5, none⟩ = some (.int .i64 x.1) from hcell 0 (by omega))
      have f1 := fun (w' : World) (h : Below wr.heap.size wr w') => (h.cell hg).trans (show wr.cell? ⟨g, off + k * 5 + 1, none⟩ = some (.int .i64 x.2.1) from hcell 1 (by omega))
      have f2 := fun (w' : World) (h : Below wr.heap.size wr w') => (h.cell hg).trans (show wr.cell? ⟨g, off + k * 5 + 2, none⟩ = some (U x.2.2.1) from hcell 2 (by omega))
      have f3 := fun (w' : World) (h : Below wr.heap.size wr w') => (h.cell hg).trans (show wr.cell? ⟨g, off + k * 5 + 3, none⟩ = some (.slice A1 a1 d1) from hcell 3 (by omega))
      have f4 := fun (w' : World) (h : Below wr.heap.size wr w') => (h.cell hg).trans (show wr.cell? ⟨g, off + k * 5 + 4, none⟩ = some (.slice A2 a2 d2) from hcell 4 (by omega))
      have r0 := Below.refl wr.heap.size wr
      have s2 : (k : Int) < (L.length : Int) := by omega
      have hvbr := hvb.next hF
      have hqc := kindF_cases x.1
      have hwr := widthF_range x.2.1
      obtain ⟨q, hq⟩ : ∃ q, kindF x.1 = q := ⟨_, rfl⟩
      have hread : (q = 0 → uintF bs pre.length (widthF x.2.1) = (numberF x.2.1 x.2.2.1, true) ∧ ((encF x).length : Int) = widthF x.2.1) ∧ (q = 1 → bytesF bs pre.length = (x.2.2.2.1, (pre.length : Int) + (encF x).length, true)) ∧
          (q = 2 → namesF bs pre.length = (x.2.2.2.2.1, (pre.length : Int) + (encF x).length, true)) := by
        rw [hrest]
        unfold okF at hokx
        unfold encF
        rw [hq] at hokx ⊢
        refine ⟨fun e => ?_, fun e => ?_, fun e => ?_⟩
        · subst e
          have := tailB_len x.2.2.1 (widthF x.2.1).toNat (by omega)
          exact ⟨read_uint _ _ _ _ (by omega) (by omega), by simp only [if_true]; omega⟩
        · subst e
          exact read_bytes _ _ _ (by simpa using hokx)
        · subst e
          exact read_names _ _ _ (by simpa using hokx)
      rw [hq] at hqc
      obtain ⟨hr0, hr1, hr2⟩ := hread
      have HR0 := Lib.hid hr0
      have HR1 := Lib.hid hr1
      have HR2 := Lib.hid hr2
      have HSN := Lib.hid hsnl
      have HQ := Lib.hid hq
      clear hq hcell hcs hsn hrest
      clear hr0 hr1 hr2 hsnl
      generalize (encF x).length = en at HSN HR0 HR1 HR2
      go_wp2_with fail
      refine (kind_any x.1 x.2.1 x.2.2.1 A1 a1 d1 A2 a2 d2 wr).mono ?_
      rintro e w2 ⟨rfl, hb2⟩
      rw [HQ.out]
      rcases hqc with rfl | rfl | rfl
      · obtain ⟨hq0, hen⟩ := HR0.out (by trivial)
        have HQ0 := Lib.hid hq0
        have HEN := Lib.hid hen
        clear hq0 hen
        go_wp2_with fail
        refine (width_any x.1 x.2.1 x.2.2.1 A1 a1 d1 A2 a2 d2 w2).mono ?_
        rintro e w3 ⟨rfl, hb3⟩
        have B3 := bstep hb2 hb3
        clear hb3
        go_wp2_with fail
        refine (codecS.uint w3 _ bs pre.length (widthF x.2.1) (hvbr.next B3) hbl (by unfold I64; omega) (by unfold I64; omega)).mono ?_
        rintro e w4 ⟨rfl, hb4⟩
        rw [HQ0.out]
        have B4 := bstep B3 hb4
        clear hb4
        go_wp2_with fail
        refine (number_any x.1 x.2.1 x.2.2.1 A1 a1 d1 A2 a2 d2 w4).mono ?_
        rintro e w5 ⟨rfl, hb5⟩
        have B5 := bstep B4 hb5
        clear hb5
        go_wp2_with fail
        refine (width_any x.1 x.2.1 x.2.2.1 A1 a1 d1 A2 a2 d2 w5).mono ?_
        rintro e w6 ⟨rfl, hb6⟩
        have B6 := bstep B5 hb6
        clear hb6
        go_wp2
        go_roundw
        case rel => exact ⟨k + 1, by omega, by go_num, by rw [HSN.out, HEN.out], hF.trans (B6.mono hF.size)⟩
        case measure => simp [intOf]; omega
      · clear f0 f1 f2
        go_wp2_with fail
        refine (codecS.bytes w2 _ bs pre.length (hvbr.next hb2) hbl (by unfold I64; omega)).mono ?_
        rintro e w3 ⟨v3, rfl, ho3, hb3⟩
        rw [HR1.out (by trivial)] at ho3 ⊢
        have B3 := bstep hb2 hb3
        clear hb3
        go_wp2_with fail
        refine (same_any w3 v3 (.slice A1 a1 d1) x.2.2.2.1 x.2.2.2.1 ho3.vb (hp.next B3)).mono ?_
        rintro e w4 ⟨rfl, rfl⟩
        rw [bsEq_self]
        go_wp2
        go_roundw
        case rel => exact ⟨k + 1, by omega, by go_num, by rw [HSN.out], hF.trans (B3.mono hF.size)⟩
        case measure => simp [intOf]; omega
      · clear f0 f1 f2
        go_wp2_with fail
        refine (codecS.names w2 _ bs pre.length (hvbr.next hb2) hbl (by unfold I64; omega)).mono ?_
        rintro e w3 ⟨v3, rfl, ho3, hb3⟩
        rw [HR2.out (by trivial)] at ho3 ⊢
        have B3 := bstep hb2 hb3
        clear hb3
        go_wp2_with fail
        refine (names_any w3 v3 (.slice A2 a2 d2) x.2.2.2.2.1 x.2.2.2.2.1 ho3.vn (hn.next B3) (by omega) (by omega)).mono ?_
        rintro e w4 ⟨rfl, hb4⟩
        rw [nsEq_self]
        have B4 := bstep B3 hb4
        clear hb4
        go_wp2
        go_roundw
        case rel => exact ⟨k + 1, by omega, by go_num, by rw [HSN.out], hF.trans (B4.mono hF.size)⟩
        case measure => simp [intOf]; omega
    · obtain rfl : k = L.length := by omega
      rw [List.take_length, HBS.out]
      have hn3 := hn3.out
      subst hn3
      go_wp2_with (go_at_call 14; refine (awake_any _).mono ?_; rintro e w6 ⟨rfl, hb6⟩)
      go_ret
      exact ⟨rfl, (((Fr.refl w).next (hb1.trans (hF.mono hb1.size))).next hb6).1⟩

theorem walk (w : World) (v : Value) (l : List UInt8) (u : Value) (L : List Val) (h : VB w v l) (hl : l.length ≤ 140737488351232) (h2 : VS rVal w u L) (hf : L.length * Try.prog.bytesOf 44 ≤ reachBytes ∧ ∀ x ∈ L, rVal.fine x) :
    Calls Try.prog 6 #[v, u] w fun e w' => e = .returned (.bool true) ∧ Below w.heap.size w w' := by
  by_cases hL : 60 < L.length
  · have hb : Try.prog.bytesOf 44 = 72 := by kernel_rfl
    exact walk_long w v u L h2 hL (by have := hf.1; rw [hb] at this; simp only [reachBytes] at this; omega)
  · by_cases hok : ∀ x ∈ L, okF x = true
    · exact walk_ok w v l u L h hl h2 hf.2 (by omega) hok
    · refine walk_bad w v l u L h hl h2 hf.2 (by omega) ?_
      rcases Classical.not_forall.1 hok with ⟨x, hx⟩
      rcases Classical.not_imp.1 hx with ⟨hx1, hx2⟩
      exact writeF_bad l L x hx1 (by simpa using hx2)

set_option maxRecDepth 100000 in
/-- The law's step, at every reading. -/
theorem lifted (os : Os) (started : os.Started) (H : Type) (enc : TypeId × Value → H) :
    ReturnsInHanded {} Try.checked os 6 .any (Rows.codecBackSpec.pre6 enc Try.prog Try.f6 Rows.codecBackRow.domain false) (Rows.codecBackSpec.post enc Try.prog Try.f6 false true false false) := by
  refine law_lifted (C := Try.checked) (n := 2) (tb := 4) own started (by kernel_rfl) Try.func6 rfl (by kernel_rfl)
    (of_decide_eq_true (by kernel_rfl)) (by kernel_rfl) (by kernel_rfl) Try.underlying4
    (fun ds hd => by match ds, hd with | [_, _], _ => rfl)
    (ChangeSpec.witness6 (enc := enc) (C := Try.checked) false ⟨#[], #[.slice none 0 0, .slice none 0 0], []⟩ 8 (by kernel_rfl) (by kernel_rfl) (by kernel_rfl) (by kernel_rfl)) ?_
  intro W base args ds ps hval hA hlt hsz
  rw [Try.params6] at hA hval
  obtain ⟨v0, vs0, d0, ds0, p0, q0, hargs, rfl, rfl, h0, r0⟩ := trodAll_cons hA
  obtain ⟨v1, vs1, d1, ds1, p1, q1, rfl, rfl, rfl, h1, r1⟩ := trodAll_cons r0
  obtain ⟨rfl, rfl, rfl⟩ := trodAll_nil r1
  obtain rfl : args = #[v0, v1] := by cases args; simp_all
  obtain ⟨A0, l0, c0, rfl, hc0, hm0, hr0⟩ := open_bytes Try.underlying22 Try.underlying5 cells1 bytes1 (hval 0 _ v0 rfl rfl) h0 (fun x hx => hlt x (by simp [hx])) hsz (j := 0) (by rw [Try.params6]; rfl) rfl
  obtain ⟨a1, n1, c1, rfl⟩ := okWide_slice Try.underlying41 (hval 1 _ v1 rfl rfl)
  obtain ⟨l1, ⟨u1, hu1, hs1⟩, hf1⟩ := open_rep (repSlice Try.underlying41 rVal (by kernel_rfl) (by rw [cellsV]; omega)) rfl h1 (fun x hx => hlt x (by simp [hx])) hsz (j := 1) (by rw [Try.params6]; rfl) rfl
  cases hu1
  exact walk W _ l0 _ l1 (VB.mk hr0 hc0 hm0) (by omega) hs1 hf1

theorem proved : Rows.CodecBackSaid :=
  OpenClaim.holds_of_wide 6 Try.f6 rfl rfl rfl rfl rfl rfl rfl ⟨rfl, rfl, rfl, rfl, rfl⟩ rfl rfl rfl rfl rfl (by kernel_rfl) Try.func6 (by kernel_rfl)
    (of_decide_eq_true (by kernel_rfl)) (by unfold Func.isWrapper; first | (rw [if_pos (by decide +kernel)]; kernel_rfl) | (rw [if_neg (by decide +kernel)]; exact ⟨rfl, rfl⟩))
    (fun os started H enc _ => lifted os started H enc)
#print axioms proved
end Go.Proofs.Ytnpbohndhgnfjaa.codecBack
