/-
  The function write of layer 2's laws: a row of values appended.
-/
import Derived.Test.YtnpbohndhgnfjaaVal
namespace Go.Fl
open Go.ChangeShapes Go.WideShapes Go.ChangeAt Go.RowKit
theorem bstep {W w1 w2 : World} (h : Below W.heap.size W w1) (hb : Below w1.heap.size w1 w2) : Below W.heap.size W w2 := h.trans (hb.mono h.size)
end Go.Fl
namespace Go.Proofs.Ytnpbohndhgnfjaa
open Go.ChangeShapes Go.WideShapes Go.ChangeAt Go.RowKit Go.Fl

/-- One value appended. -/
def putF (l : List UInt8) (x : Val) : List UInt8 × Bool :=
  if kindF x.1 = 0 then (appUintF l x.2.2.1 (widthF x.2.1), true) else if kindF x.1 = 1 then appBytesF l x.2.2.2.1 else appNamesF l x.2.2.2.2.1
def writeF (l : List UInt8) (xs : List Val) : List UInt8 × Bool := xs.foldl (fun r x => if r.2 then putF r.1 x else r) (l, true)
theorem writeF_snoc (l : List UInt8) (xs : List Val) (x : Val) : writeF l (xs ++ [x]) = if (writeF l xs).2 then putF (writeF l xs).1 x else writeF l xs := by
  unfold writeF
  rw [List.foldl_append]
  rfl
theorem writeF_stay (ys : List Val) (r : List UInt8 × Bool) (h : r.2 = false) : ys.foldl (fun r x => if r.2 then putF r.1 x else r) r = r := by
  induction ys with
  | nil => rfl
  | cons y ys ih => rw [List.foldl_cons, h]; exact ih
theorem writeF_stop (l : List UInt8) (xs ys : List Val) (h : (writeF l xs).2 = false) : writeF l (xs ++ ys) = writeF l xs := by
  unfold writeF at *
  rw [List.foldl_append]
  exact writeF_stay ys _ h
theorem putF_len (l : List UInt8) (x : Val) : (putF l x).1.length ≤ l.length + 65537 := by
  unfold putF
  have h1 := appUintF_len l x.2.2.1 (widthF x.2.1)
  have h2 := appBytesF_len l x.2.2.2.1
  have h3 := appNamesF_len l x.2.2.2.2.1
  split
  · simp only; omega
  · split <;> omega
theorem writeF_len_from (xs : List Val) (r : List UInt8 × Bool) : (xs.foldl (fun r x => if r.2 then putF r.1 x else r) r).1.length ≤ r.1.length + 65537 * xs.length := by
  induction xs generalizing r with
  | nil => simp
  | cons x xs ih =>
    rw [List.foldl_cons, List.length_cons]
    have h1 := ih (if r.2 then putF r.1 x else r)
    have h2 := putF_len r.1 x
    have h3 : (if r.2 then putF r.1 x else r).1.length ≤ r.1.length + 65537 := by split <;> omega
    omega
theorem writeF_len (l : List UInt8) (xs : List Val) : (writeF l xs).1.length ≤ l.length + 65537 * xs.length := writeF_len_from xs (l, true)

theorem cellsV : Try.prog.cellsOf 44 = 5 := by kernel_rfl

set_option maxHeartbeats 4000000 in
theorem write_any (w : World) (v : Value) (l : List UInt8) (u : Value) (L : List Val) (h : VB w v l) (h2 : VS rVal w u L) (hf : ∀ x ∈ L, rVal.fine x) (hL : L.length ≤ 60) (hl : l.length ≤ 140737488351232) :
    Calls Try.prog 24 #[v, u] w fun e w' => ∃ v', e = .returned (.tuple #[v', .bool (writeF l L).2]) ∧ VB w' v' (writeF l L).1 ∧ Below w.heap.size w w' := by
  obtain ⟨A, c, rfl, hc1, hc2⟩ := h2.form
  go_enter Try.func24, Try.ntmps24
  go_wp2
  go_loopw [0, 6, 7] (fun b ok i wr => ∃ (k : Nat) (r : List UInt8 × Bool), k ≤ L.length ∧ i = .int .i64 k ∧ writeF l (L.take k) = r ∧ ok = .bool r.2 ∧ VB wr b r.1 ∧ Fr w 0 wr) (fun _ _ i _ => L.length - (intOf i).toNat)
  case atStart => exact ⟨0, _, by omega, rfl, rfl, rfl, h, Fr.refl w⟩
  case round =>
    obtain ⟨k, ⟨r1, r2⟩, hk, rfl, hr, rfl, hb, hF⟩ := hrel
    have hlen := writeF_len l (L.take k)
    rw [hr, List.length_take] at hlen
    simp only at hlen
    by_cases hlt : k < L.length ∧ r2 = true
    · obtain ⟨hlt, rfl⟩ := hlt
      obtain ⟨x, hx⟩ : ∃ x, L[k]? = some x := ⟨_, List.getElem?_eq_getElem hlt⟩
      obtain ⟨_, _, _, hk4, hk5, _⟩ := hf x (List.mem_of_getElem? hx)
      have hk4 : x.2.2.2.1.length ≤ 140737488351232 := hk4
      have hk5 : x.2.2.2.2.1.length ≤ 17592186044160 := hk5
      have hsn := writeF_snoc l (L.take k) x
      rw [take_snoc L k x hx, hr] at hsn
      simp only [if_true] at hsn
      obtain ⟨g, off, c', hv, hg, cs, hcs, hcell⟩ := (h2.next hF.1).at_ hx
      cases hv
      obtain ⟨A1, a1, d1, A2, a2, d2, rfl, ha1, ha2, hp, hn⟩ := rVal_form hcs
      rw [cellsV] at hcell
      have c0 := hcell 0 (by omega); have c1 := hcell 1 (by omega); have c2 := hcell 2 (by omega); have c3 := hcell 3 (by omega); have c4 := hcell 4 (by omega)
      rw [Nat.add_zero] at c0
      have s1 : (k : Int) < (L.length : Int) := by omega
      have HSN := Lib.hid hsn
      clear hcell hsn hr hcs
      have hqc := kindF_cases x.1
      have hwr := widthF_range x.2.1
      obtain ⟨q, hq⟩ : ∃ q, kindF x.1 = q := ⟨_, rfl⟩
      have hput : putF r1 x = if q = 0 then (appUintF r1 x.2.2.1 (widthF x.2.1), true) else if q = 1 then appBytesF r1 x.2.2.2.1 else appNamesF r1 x.2.2.2.2.1 := by unfold putF; rw [hq]
      rw [hq] at hqc
      have HQ := Lib.hid hq
      have HP := Lib.hid hput
      clear hq hput
      go_wp2_with fail
      refine (kind_any x.1 x.2.1 x.2.2.1 A1 a1 d1 A2 a2 d2 wr).mono ?_
      rintro e w1 ⟨rfl, hb1⟩
      rw [HQ.out]
      have hF1 := hF.next hb1
      have hv1 := hb.next hb1
      have hp1 := hp.next hb1
      have hn1 := hn.next hb1
      have c0 := (hb1.cell hg).trans c0; have c1 := (hb1.cell hg).trans c1; have c2 := (hb1.cell hg).trans c2; have c3 := (hb1.cell hg).trans c3; have c4 := (hb1.cell hg).trans c4
      have hg1 : g < w1.heap.size := Nat.lt_of_lt_of_le hg hb1.size
      clear hb hp hn hb1
      rcases hqc with rfl | rfl | rfl
      · have f0 := fun (w' : World) (h : Below w1.heap.size w1 w') => (h.cell hg1).trans c0
        have f1 := fun (w' : World) (h : Below w1.heap.size w1 w') => (h.cell hg1).trans c1
        have f2 := fun (w' : World) (h : Below w1.heap.size w1 w') => (h.cell hg1).trans c2
        have f3 := fun (w' : World) (h : Below w1.heap.size w1 w') => (h.cell hg1).trans c3
        have f4 := fun (w' : World) (h : Below w1.heap.size w1 w') => (h.cell hg1).trans c4
        go_wp2
        go_region_held3 (fun w' => Below w1.heap.size w1 w')
          (first | exact (Below.refl _ _).drew | assumption | exact bstep (by assumption) hb)
          (first
            | (go_at_call 26; refine (width_any x.1 x.2.1 x.2.2.1 A1 a1 d1 A2 a2 d2 _).mono ?_; rintro e w' ⟨rfl, hb⟩)
            | (go_at_call 12; refine (codecS.appUint _ u0 r1 x.2.2.1 (widthF x.2.1) (hv1.next (by assumption)) (by omega) (by (unfold I64; omega))).mono ?_; rintro e w' ⟨v1, rfl, ho, hb⟩))
        go_wp2
        go_roundw
        case rel => exact ⟨k + 1, (appUintF r1 x.2.2.1 (widthF x.2.1), true), by omega, by go_num, by rw [HSN.out, HP.out]; rfl, rfl, ho.vb, hF1.next (by assumption)⟩
        case measure => simp [intOf]; omega
      · go_wp2_with fail
        refine (codecS.appBytes w1 u0 (.slice A1 a1 d1) r1 x.2.2.2.1 hv1 hp1 (by omega) (by omega)).mono ?_
        rintro e w2 ⟨v2, rfl, ho, hb2⟩
        obtain ⟨⟨z1, z2⟩, hz⟩ : ∃ z, appBytesF r1 x.2.2.2.1 = z := ⟨_, rfl⟩
        have HZ := Lib.hid hz
        rw [hz] at ho
        rw [hz]
        clear hz
        go_wp2
        go_roundw
        case rel => exact ⟨k + 1, (z1, z2), by omega, by go_num, by rw [HSN.out, HP.out, ← HZ.out]; rfl, rfl, ho.vb, hF1.next hb2⟩
        case measure => simp [intOf]; omega
      · go_wp2_with fail
        refine (codecS.appNames w1 u0 (.slice A2 a2 d2) r1 x.2.2.2.2.1 hv1 hn1 (by omega) (by omega)).mono ?_
        rintro e w2 ⟨v2, rfl, ho, hb2⟩
        obtain ⟨⟨z1, z2⟩, hz⟩ : ∃ z, appNamesF r1 x.2.2.2.2.1 = z := ⟨_, rfl⟩
        have HZ := Lib.hid hz
        rw [hz] at ho
        rw [hz]
        clear hz
        go_wp2
        go_roundw
        case rel => exact ⟨k + 1, (z1, z2), by omega, by go_num, by rw [HSN.out, HP.out, ← HZ.out]; rfl, rfl, ho.vb, hF1.next hb2⟩
        case measure => simp [intOf]; omega
    · by_cases hkl : k = L.length
      · have hres : writeF l L = (r1, r2) := by rw [hkl, List.take_length] at hr; exact hr
        subst hkl
        go_wp2
        go_ret2
        exact ⟨_, rfl, hb, hF.1⟩
      · have hr2 : r2 = false := by
          cases r2
          · rfl
          · exact absurd ⟨by omega, rfl⟩ hlt
        subst hr2
        have hres : writeF l L = (r1, false) := by
          have := writeF_stop l (L.take k) (L.drop k) (by rw [hr])
          rw [List.take_append_drop, hr] at this
          exact this
        have s1 : (k : Int) < (L.length : Int) := by omega
        go_wp2
        go_ret2
        exact ⟨_, rfl, hb, hF.1⟩
end Go.Proofs.Ytnpbohndhgnfjaa
