/-
  The statement HashTagged, proved for every tag, every slice of bytes and every two names, with no condition: Tagged and Pair are Sum of the tag followed by their arguments, and Tagged agrees with the reference.
-/
import Derived.Test.YtfmhfkmigfhleaaRTagged
namespace Go.Proofs.Ytfmhfkmigfhleaa.hashTagged
open Go.ChangeShapes Go.WideShapes Go.ChangeAt Go.RowKit Go.Fl

theorem own : ownKnob Try.prog.godebug = none := by kernel_rfl
theorem cells1 : Try.prog.cellsOf 5 = 1 := by kernel_rfl
theorem cells8 : Try.prog.cellsOf 24 = 8 := by kernel_rfl

attribute [local go_sem] equal_nm eqGuard_nm

theorem bytes1 : Try.prog.bytesOf 5 = 1 := by kernel_rfl

/-- The world in which the two names lie. -/
def twoW (w : World) (x y : BitVec 64) : World := ((w.alloc (.cells (nmC x) 24)).alloc (.cells (nmC y) 24))
theorem twoW_facts (w : World) (x y : BitVec 64) : Is (twoW w x y) w.heap.size 24 (nmC x) ∧ Is (twoW w x y) (w.heap.size + 1) 24 (nmC y) ∧ Fr w 2 (twoW w x y) :=
  ⟨(Is.new w _ _).old _, Is.newAt _ _ _ (by simp), ((Fr.refl w).alloc _).alloc _⟩
theorem tag_whole {w : World} {base : Nat} {tb : TypeId} {v : Value} {t : UInt8} {l : List UInt8} (h : OB w base tb v ([t] ++ l)) : OB w base tb v (t :: l) := h
theorem tag_pair {w : World} {base : Nat} {tb : TypeId} {v : Value} {t : UInt8} {x y : BitVec 64} (h : OB w base tb v (([t] ++ nmL x) ++ nmL y)) : OB w base tb v (t :: (nmL x ++ nmL y)) := h
theorem RB.next {w w' : World} {A : Option Addr} {l : List UInt8} (h : Hid (RB w w.heap.size A l)) (hb : Below w.heap.size w w') : Hid (RB w' w'.heap.size A l) := (h.out.keep hb).mono hb.size
theorem pair_len16 (t : UInt8) (x y : BitVec 64) : (t :: (nmL x ++ nmL y)).length = 17 := rfl

set_option maxHeartbeats 2000000 in
theorem walk (t : UInt8) (A : Option Addr) (l : List UInt8) (c : Nat) (x y : BitVec 64) (hc : l.length ≤ c) (hm : c ≤ 140737488351232) (w : World) (hr : RB w w.heap.size A l) :
    Calls Try.prog 4 #[B t, .slice A l.length c, nm x, nm y] w fun e w' => e = .returned (.bool true) ∧ Below w.heap.size w w' := by
  obtain ⟨i0, hi, hz0, hz1, hz2⟩ := info_parts info_byte
  have HR := Lib.hid hr
  clear hr
  have HI := Lib.hid hi
  have HZ0 := Lib.hid hz0
  have HZ1 := Lib.hid hz1
  have HZ2 := Lib.hid hz2
  clear hi hz0 hz1 hz2
  obtain ⟨h1, hh1⟩ : ∃ h1, sumF (t :: l) = h1 := ⟨_, rfl⟩
  have H1 := Lib.hid hh1
  clear hh1
  obtain ⟨h2, hh2⟩ : ∃ h2, sumF (t :: (nmL x ++ nmL y)) = h2 := ⟨_, rfl⟩
  have H2 := Lib.hid hh2
  clear hh2
  have e1 := nmEq_self h1
  have e2 := nmEq_self h2
  obtain ⟨hbx, hby, hF0⟩ := twoW_facts w x y
  have hob0 := ob_build (twoW w x y) 5 t (g := w.heap.size + 1 + 1) (by simp [twoW])
  have hr0 := (carry HR.out (Fr.refl w) (hF0.alloc (.cells #[B t] 5)))
  have HR0 := Lib.hid hr0
  clear hr0
  go_enter Try.func4, Try.ntmps4
  go_wp2_with (first
    | (at_builtin; refine wpList_append_ob rfl (.tmp 12) (.tmp 13) 22 rfl (w.heap.size + 1 + 1) 5 i0 Try.underlying22 HI.out HZ0.out HZ1.out HZ2.out _ [t] rfl hob0 _ A l l.length c rfl rfl HR0.out (by (have : [t].length = 1 := rfl; omega)) (by simp) ?_; intro v1 w1 hob1 hg1 hat1; have hF1 := (hF0.alloc _).grown hg1 (fun k hk => by (have := hob0.own k hk; omega)); have hbx1 := (hbx.old _).grown hg1 (fun k hk => by (have := hob0.own k hk; omega)); have hby1 := (hby.old _).grown hg1 (fun k hk => by (have := hob0.own k hk; omega)); clear hg1 hat1; obtain ⟨A1, n1, c1, rfl, HN1, hc1, hm1, HR1⟩ := (tag_whole hob1).form_n; clear hob1)
    | fail)
  clear hob0 hbx hby hF0 HR0
  have hobB := ob_build w1.drew 5 t (g := w1.heap.size) rfl
  go_region_held3 (fun _ => True) (trivial) (first
    | (refine step_append_ob rfl (.tmp 16) (.tmp 17) 22 rfl w1.heap.size 5 i0 Try.underlying22 HI.out HZ0.out HZ1.out HZ2.out _ [t] (by rfl) hobB _ (some ⟨w.heap.size, 0, none⟩) (nmL x) 8 8 (by rfl) rfl (is_rb (n := w.heap.size + 1) (hbx1.drew.old _) (by omega)) (by simp [nmL_len]) (by simp) ?_; intro v2 w2 hob2 hg2 hat2; have hF2 := (hF1.drew.alloc _).grown hg2 (fun k hk => by (have := hobB.own k hk; have := hF1.2; omega)); have hbx2 := (hbx1.drew.old _).grown hg2 (fun k hk => by (have := hobB.own k hk; have := hF1.2; omega)); have hby2 := (hby1.drew.old _).grown hg2 (fun k hk => by (have := hobB.own k hk; have := hF1.2; omega)); have hW2 : Below w1.heap.size w1 w2 := (((Below.refl w1.heap.size w1).drew).alloc (Nat.le_refl _) _).grown hg2 (by simp) (fun k hk => hobB.own k hk); clear hg2 hat2)
    | (refine step_append_ob rfl (.tmp 18) (.tmp 19) 22 rfl w1.heap.size 5 i0 Try.underlying22 HI.out HZ0.out HZ1.out HZ2.out _ ([t] ++ nmL x) (by rfl) hob2 _ (some ⟨w.heap.size + 1, 0, none⟩) (nmL y) 8 8 (by rfl) rfl (is_rb (n := w.heap.size + 1 + 1) hby2 (by omega)) (by simp [nmL_len]) hW2.size ?_; intro v3 w3 hob3 hg3 hat3; have hF3 := hF2.grown hg3 (fun k hk => by (have := hob2.own k hk; have := hF1.2; omega)); have hbx3 := hbx2.grown hg3 (fun k hk => by (have := hob2.own k hk; have := hF1.2; omega)); have hby3 := hby2.grown hg3 (fun k hk => by (have := hob2.own k hk; have := hF1.2; omega)); have hW3 := hW2.grown hg3 hW2.size (fun k hk => hob2.own k hk); clear hg3 hat3))
  obtain ⟨A3, n3, c3, rfl, HN3, hc3, hm3, HR3⟩ := (tag_pair hob3).form_n
  have HR1b := Lib.hid ((HR1.out.keep hW3).mono hW3.size)
  have HRb := Lib.hid ((carry HR.out (Fr.refl w) hF3).mono (m := w3.heap.size) (by have := hF3.2; omega))
  clear hobB hob2 hob3 hF1 hF2 hbx1 hbx2 hby1 hby2 hW2 hW3 HR1
  have HBX := hbx3
  go_wp2_with fail
  refine (tagged_any t A l c H1 hc (by omega) _ HRb.out).mono ?_; rintro e w4 ⟨rfl, hb⟩
  have HRw := RB.next HR1b hb; have HRp := RB.next HR3 hb; have HRb4 := RB.next HRb hb; have hF4 := hF3.next hb; have hx4 := hbx3.next hb; have hy4 := hby3.next hb
  clear hb HR1b HR3 HRb hF3 hbx3 hby3 HBX
  go_wp2_with fail
  refine (sum_n _ (t :: l) _ _ HN1 H1 hc1 hm1 _ HRw.out).mono ?_; rintro e w5 ⟨rfl, hb⟩
  have HRp5 := RB.next HRp hb; have HRb5 := RB.next HRb4 hb; have hF5 := hF4.next hb; have hx5 := hx4.next hb; have hy5 := hy4.next hb
  clear hb HRw HRp HRb4 hF4 hx4 hy4
  have cx := hx5.cell
  have cy := hy5.cell
  go_wp2_with fail
  refine (pair_any t x y H2 _).mono ?_; rintro e w6 ⟨rfl, hb⟩
  have HRp6 := RB.next HRp5 hb; have HRb6 := RB.next HRb5 hb; have hF6 := hF5.next hb
  clear hb HRp5 HRb5 hF5 hx5 hy5 cx cy
  go_wp2_with fail
  refine (sum_n _ (t :: (nmL x ++ nmL y)) _ _ HN3 H2 hc3 hm3 _ HRp6.out).mono ?_; rintro e w7 ⟨rfl, hb⟩
  have HRb7 := RB.next HRb6 hb; have hF7 := hF6.next hb
  clear hb HRp6 HRb6 hF6
  go_wp2_with fail
  refine (tagged_any t A l c H1 hc (by omega) _ HRb7.out).mono ?_; rintro e w8 ⟨rfl, hb⟩
  have HRb8 := RB.next HRb7 hb; have hF8 := hF7.next hb
  clear hb HRb7 hF7
  go_wp2_with fail
  refine (rtagged_any t A l c H1 hc hm _ HRb8.out).mono ?_; rintro e w9 ⟨rfl, hb⟩
  have hF9 := hF8.next hb
  clear hb HRb8 hF8
  go_wp2_with fail
  refine (awake_any _).mono ?_; rintro e w10 ⟨rfl, hb⟩
  have hF10 := hF9.next hb
  go_wp2_with fail
  go_ret
  exact ⟨rfl, hF10.1⟩

set_option maxRecDepth 100000 in
theorem lifted (os : Os) (started : os.Started) (H : Type) (enc : TypeId × Value → H) :
    ReturnsInHanded {} Try.checked os 4 .any (Rows.hashTaggedSpec.pre6 enc Try.prog Try.f4 Rows.hashTaggedRow.domain false) (Rows.hashTaggedSpec.post enc Try.prog Try.f4 false true false false) := by
  refine law_lifted (C := Try.checked) (n := 4) (tb := 4) own started (by kernel_rfl) Try.func4 rfl (by kernel_rfl)
    (by intro t ht; simp [Try.params4] at ht; rcases ht with rfl | rfl | rfl <;> exact ⟨by kernel_rfl, of_decide_eq_true (by kernel_rfl)⟩)
    (by kernel_rfl) (by kernel_rfl) Try.underlying4
    (fun ds hd => by match ds, hd with | [_, _, _, _], _ => rfl)
    (ChangeSpec.witness6 (enc := enc) (C := Try.checked) false ⟨#[], #[.int .u8 0, .slice none 0 0, .agg #[.int .u8 0, .int .u8 0, .int .u8 0, .int .u8 0, .int .u8 0, .int .u8 0, .int .u8 0, .int .u8 0], .agg #[.int .u8 0, .int .u8 0, .int .u8 0, .int .u8 0, .int .u8 0, .int .u8 0, .int .u8 0, .int .u8 0]], []⟩ 8 (by kernel_rfl) (by kernel_rfl) (by kernel_rfl) (by kernel_rfl)) ?_
  intro W base args ds ps hval hA hlt hsz
  rw [Try.params4] at hA hval
  obtain ⟨v0, vs0, d0, ds0, p0, q0, hargs, rfl, rfl, h0, r0⟩ := trodAll_cons hA
  obtain ⟨v1, vs1, d1, ds1, p1, q1, rfl, rfl, rfl, h1, r1⟩ := trodAll_cons r0
  obtain ⟨v2, vs2, d2, ds2, p2, q2, rfl, rfl, rfl, h2, r2⟩ := trodAll_cons r1
  obtain ⟨v3, vs3, d3, ds3, p3, q3, rfl, rfl, rfl, h3, r3⟩ := trodAll_cons r2
  obtain ⟨rfl, rfl, rfl⟩ := trodAll_nil r3
  obtain rfl : args = #[v0, v1, v2, v3] := by cases args; simp_all
  obtain ⟨t, rfl, _, rfl⟩ := open_byte Try.underlying5 (hval 0 _ v0 rfl rfl) h0
  obtain ⟨A, l, c, rfl, hc, hm, hr⟩ := open_bytes Try.underlying22 Try.underlying5 cells1 bytes1 (hval 1 _ v1 rfl rfl) h1 (fun x hx => hlt x (by simp [hx])) hsz (j := 1) (by rw [Try.params4]; rfl) rfl
  obtain ⟨x, rfl, rfl⟩ := open_name Try.underlying24 Try.underlying5 cells1 cells8 (hval 2 _ v2 rfl rfl) h2
  obtain ⟨y, rfl, rfl⟩ := open_name Try.underlying24 Try.underlying5 cells1 cells8 (hval 3 _ v3 rfl rfl) h3
  exact walk t A l c x y hc hm W hr

theorem proved : Rows.HashTaggedSaid :=
  OpenClaim.holds_of_wide 4 Try.f4 rfl rfl rfl rfl rfl rfl rfl ⟨rfl, rfl, rfl, rfl, rfl⟩ rfl rfl rfl rfl rfl (by kernel_rfl) Try.func4 (by kernel_rfl)
    (of_decide_eq_true (by kernel_rfl)) (by unfold Func.isWrapper; first | (rw [if_pos (by decide +kernel)]; kernel_rfl) | (rw [if_neg (by decide +kernel)]; exact ⟨rfl, rfl⟩))
    (fun os started H enc _ => lifted os started H enc)
#print axioms proved
end Go.Proofs.Ytfmhfkmigfhleaa.hashTagged
