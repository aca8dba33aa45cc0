/-
  The statement HashPure, proved for every two slices of bytes, with no condition: Sum leaves its argument as it is, does not look behind its length, and agrees with the reference.
-/
import Derived.Test.YtfmhfkmigfhleaaRTagged
namespace Go.Proofs.Ytfmhfkmigfhleaa.hashPure
open Go.ChangeShapes Go.WideShapes Go.ChangeAt Go.RowKit Go.Fl

theorem own : ownKnob Try.prog.godebug = none := by kernel_rfl
theorem cells1 : Try.prog.cellsOf 5 = 1 := by kernel_rfl
theorem cells8 : Try.prog.cellsOf 24 = 8 := by kernel_rfl

attribute [local go_sem] equal_nm eqGuard_nm bsOf_toList

theorem bytes1 : Try.prog.bytesOf 5 = 1 := by kernel_rfl

/-- Bytes that lie in memory, nil let in, as a string. -/
theorem run_convert_rb {n : Nat} {A : Option Addr} {l : List UInt8} (m c : Nat) (hm : m = l.length) (w : World) (h : RB w n A l) :
    (convert 22 9 (.slice A m c)).run Try.prog w = .ok (.string (bsOf l)) w := by
  subst hm
  cases A with
  | none =>
    obtain rfl := rb_none w h
    rw [run_convert_bytes_string w 22 9 5 none _ c Try.underlying22 Try.underlying5 Try.underlying9]
    rfl
  | some ad => exact run_convert_bytes Try.underlying22 Try.underlying5 Try.underlying9 ad l c w (fun i b hb => rb_news w h i (B b) (by simp [hb]))
theorem bsOf_append (l m : List UInt8) : bsOf l ++ bsOf m = bsOf (l ++ m) := by
  apply ByteArray.ext
  simp [bsOf]
theorem bsOf_size (l : List UInt8) : (bsOf l).size = l.length := by simp [bsOf, ByteArray.size]
attribute [local go_sem] bsOf_append bsOf_size

/-- What stays as it is while the call goes on: both arguments, the room, the first hash. -/
def Good (w : World) (k g g6 : Nat) (A A2 : Option Addr) (l m : List UInt8) (h : BitVec 64) (w' : World) : Prop :=
  Fr w k w' ∧ RB w' w.heap.size A l ∧ RB w' w.heap.size A2 m ∧ RB w' (g + 1) (some ⟨g, 0, none⟩) (l ++ m) ∧ Is w' g6 24 (nmC h) ∧ g < g6
section
variable {w w' W : World} {k g g6 : Nat} {A A2 : Option Addr} {l m : List UInt8} {h : BitVec 64}
theorem Good.step (hG : Good w k g g6 A A2 l m h W) (hb : Below W.heap.size W w') : Good w k g g6 A A2 l m h w' := by
  obtain ⟨h1, h2, h3, h4, h5, h6⟩ := hG
  have hs := h1.2
  have hl := h5.lt
  exact ⟨h1.next hb, h2.keep (hb.mono (by omega)), h3.keep (hb.mono (by omega)), h4.keep (hb.mono (by omega)), h5.next hb, h6⟩
theorem Good.alloc (hG : Good w k g g6 A A2 l m h W) (o : Obj) : Good w k g g6 A A2 l m h (W.alloc o) := hG.step ((Below.refl _ _).alloc (Nat.le_refl _) _)
theorem Good.drew (hG : Good w k g g6 A A2 l m h W) : Good w k g g6 A A2 l m h W.drew := hG.step ((Below.refl _ _).drew)
theorem Good.cell (hG : Good w k g g6 A A2 l m h W) : ∀ i, W.cell? ⟨g6, i, none⟩ = (nmC h)[i]? := hG.2.2.2.2.1.cell
end
theorem Good.alloc_ {w W : World} {k g : Nat} {A A2 : Option Addr} {l m : List UInt8} {h : BitVec 64} (h1 : Fr w k W) (h2 : RB W w.heap.size A l) (h3 : RB W w.heap.size A2 m) (h4 : RB W (g + 1) (some ⟨g, 0, none⟩) (l ++ m)) (hg : g < W.heap.size) :
    Good w k g W.heap.size A A2 l m h (W.alloc (.cells (nmC h) 24)) := by
  have hb : Below W.heap.size W (W.alloc (.cells (nmC h) 24)) := (Below.refl _ _).alloc (Nat.le_refl _) _
  have hs := h1.2
  exact ⟨h1.next hb, h2.keep (hb.mono (by omega)), h3.keep (hb.mono (by omega)), h4.keep (hb.mono (by omega)), Is.new _ _ _, hg⟩
theorem ob_empty (w : World) (tb : TypeId) {g : Nat} (hg : g = w.heap.size) : OB (w.alloc (.cells #[] tb)) g tb (.slice (some ⟨g, 0, none⟩) 0 0) [] := by
  subst hg
  exact ⟨rfl, .inr ⟨w.heap.size, 0, #[], rfl, Nat.le_refl _, heap_alloc_new w _, by simp, by simp [maxLen], rfl, rfl⟩⟩
theorem take_room {w : World} {n : Nat} {A : Option Addr} {l m : List UInt8} (h : RB w n A (l ++ m)) : RB w n A l := by
  have := h.take l.length
  simpa using this

theorem OB.lt_ {w : World} {base g n c : Nat} {tb : TypeId} {l : List UInt8} (h : OB w base tb (.slice (some ⟨g, 0, none⟩) n c) l) : g < w.heap.size := by
  rcases h.2 with ⟨h0, _⟩ | ⟨g', cap, cur, hv, _, hh, _⟩
  · cases h0
  · cases hv
    exact (Array.getElem?_eq_some_iff.1 hh).1
theorem OB.rb_ {w : World} {base g n c : Nat} {tb : TypeId} {l : List UInt8} (h : OB w base tb (.slice (some ⟨g, 0, none⟩) n c) l) : RB w (g + 1) (some ⟨g, 0, none⟩) l := fun hp => by
  obtain ⟨A, c', hv, _, _, hr⟩ := h.form
  cases hv
  obtain ⟨g', off, e, _, hc⟩ := hr hp
  cases e
  exact ⟨g, 0, rfl, by omega, hc⟩
theorem nil_ob {w : World} {b c : Nat} {t : TypeId} {A : Option Addr} {l : List UInt8} (h : OB w b t (.slice A ([] ++ l).length c) ([] ++ l)) : OB w b t (.slice A l.length c) l := h
theorem nil_ob2 {w : World} {b : Nat} {t : TypeId} {v : Value} {l : List UInt8} (h : OB w b t v ([] ++ l)) : OB w b t v l := h
theorem Good.rb {w W : World} {k g g6 : Nat} {A A2 : Option Addr} {l m : List UInt8} {h : BitVec 64} (hG : Good w k g g6 A A2 l m h W) : RB W W.heap.size A l := hG.2.1.mono (by have := hG.1.2; omega)

set_option maxHeartbeats 4000000 in
theorem walk (A : Option Addr) (l : List UInt8) (c : Nat) (A2 : Option Addr) (m : List UInt8) (c2 : Nat) (hc : l.length ≤ c) (hm : c ≤ 140737488351232) (hc2 : m.length ≤ c2) (hm2 : c2 ≤ 140737488351232) (w : World) (hr : RB w w.heap.size A l) (hr2 : RB w w.heap.size A2 m) :
    Calls Try.prog 8 #[.slice A l.length c, .slice A2 m.length c2] w fun e w' => e = .returned (.bool true) ∧ Below w.heap.size w w' := by
  obtain ⟨i0, hi, hz0, hz1, hz2⟩ := info_parts info_byte
  have HR := Lib.hid hr
  have HR2 := Lib.hid hr2
  clear hr hr2
  have HI := Lib.hid hi
  have HZ0 := Lib.hid hz0
  have HZ1 := Lib.hid hz1
  have HZ2 := Lib.hid hz2
  clear hi hz0 hz1 hz2
  obtain ⟨h, hh⟩ : ∃ h, sumF l = h := ⟨_, rfl⟩
  have HH := Lib.hid hh
  clear hh
  have e1 := nmEq_self h
  have hF := Fr.refl w
  go_enter Try.func8, Try.ntmps8
  go_wp2_with (first
    | (at_make; go_loud (refine wpList_make_own _ rfl _ _ 22 rfl w.heap.size 5 i0 (.int .u8 0) 1 Try.underlying22 HI.out HZ0.out HZ1.out .i64 .i64 _ (l.length + m.length + 8) rfl rfl (by simp) (by (rw [HZ2.out]; omega)) (by (simp only [maxLen]; omega)) (Nat.le_refl _) ?_; intro w1 ho1 hg1; have hob1 := ob_make ho1 rfl; have hF1 := hF.grown hg1 (by simp); clear ho1 hg1))
    | (at_builtin; (refine wpList_append_ob_room rfl (.tmp 13) (.tmp 14) 22 rfl w.heap.size 5 i0 Try.underlying22 HI.out HZ1.out w.heap.size (l.length + m.length + 8) [] rfl hob1 _ A l l.length c rfl rfl (carry HR.out (Fr.refl w) hF1) (by (have : ([] : List UInt8).length = 0 := rfl; omega)) ?_; intro w2 ho2 hg2; have hob2 := nil_ob ho2; have hF2 := hF1.grown hg2 (fun k hk => by (injection hk; omega)); clear ho2 hg2))
    | (at_builtin; go_loud (refine wpList_append_ob_room rfl (.tmp 15) (.tmp 16) 22 rfl w.heap.size 5 i0 Try.underlying22 HI.out HZ1.out w.heap.size (l.length + m.length + 8) l rfl hob2 _ A2 m m.length c2 rfl rfl (carry HR2.out (Fr.refl w) hF2) (by omega) ?_; intro w3 hob3 hg3; have hF3 := hF2.grown hg3 (fun k hk => by (injection hk; omega)); clear hg3; have HRR := Lib.hid (OB.rb_ hob3); have hlt3 := OB.lt_ hob3; clear hob3; have HRT := Lib.hid ((take_room HRR.out).mono (m := w3.heap.size) (by omega))))
    | (go_at_call 9; refine (sum_is _ l _ HH (by omega) (by omega) _ HRT.out).mono ?_; rintro e w4 ⟨rfl, hb4⟩))
  have hF4 := hF3.next hb4
  have hG0 : Good w 0 w.heap.size w4.heap.size A A2 l m h (w4.alloc (.cells (nmC h) 24)) :=
    Good.alloc_ hF4 ((carry HR.out (Fr.refl w) hF4)) (carry HR2.out (Fr.refl w) hF4) (HRR.out.keep (hb4.mono hlt3)) (by have := hb4.size; omega)
  have hcell := fun (w' : World) (hG : Good w 0 w.heap.size w4.heap.size A A2 l m h w') => hG.cell
  have hcv1 := fun (w' : World) (hG : Good w 0 w.heap.size w4.heap.size A A2 l m h w') => run_convert_rb (l.length + m.length) (l.length + m.length + 8) (by simp) w' hG.2.2.2.1
  have hcv2 := fun (w' : World) (hG : Good w 0 w.heap.size w4.heap.size A A2 l m h w') => run_convert_rb l.length c rfl w' hG.2.1
  have hcv3 := fun (w' : World) (hG : Good w 0 w.heap.size w4.heap.size A A2 l m h w') => run_convert_rb m.length c2 rfl w' hG.2.2.1
  clear HR HR2 hF hF1 hF2 hF3 hob1 hob2 HRR HRT hb4 hF4
  generalize w4.alloc (.cells (nmC h) 24) = W at *
  have hlm : ¬ (9223372036854775807 < l.length + m.length) := by omega
  have hobE := ob_empty W.drew 5 (g := W.heap.size) rfl
  have hG1 := hG0.drew.alloc (.cells #[] 5)
  go_region_held3 (fun w' => Good w 0 w.heap.size w4.heap.size A A2 l m h w')
    (first | exact hG0.drew | assumption | exact Good.alloc (by assumption) _ | exact Good.step (by assumption) hb)
    (first
      | (refine step_append_ob rfl (.tmp 24) (.tmp 25) 22 rfl W.heap.size 5 i0 Try.underlying22 HI.out HZ0.out HZ1.out HZ2.out _ [] (by rfl) hobE _ A l l.length c (by rfl) rfl hG1.rb (by (have : ([] : List UInt8).length = 0 := rfl; omega)) (by simp) ?_; intro v5 w5 hob5 hg5 hat5; have hB5 : Below W.heap.size W w5 := (((Below.refl W.heap.size W).drew).alloc (Nat.le_refl _) _).grown hg5 (by simp) (fun k hk => hobE.own k hk); have hG5 := hG0.step hB5; clear hg5 hat5 hB5; obtain ⟨A5, n5, c5, rfl, HN5, hc5, hm5, HR5⟩ := (nil_ob2 hob5).form_n; clear hob5)
      | (go_at_call 9; refine (sum_n _ l _ _ HN5 HH hc5 hm5 _ HR5.out).mono ?_; rintro e w' ⟨rfl, hb⟩)
      | (go_at_call 10; refine (rsum_is _ l _ HH hc (by omega) (by omega) _ (Good.rb (by assumption))).mono ?_; rintro e w' ⟨rfl, hb⟩)
      | (go_at_call 11; refine (awake_any _).mono ?_; rintro e w' ⟨rfl, hb⟩))
  go_goals
  all_goals go_wp2
  all_goals go_ret
  all_goals exact ⟨rfl, (by assumption : Good w 0 w.heap.size w4.heap.size A A2 l m h _).1.1⟩

set_option maxRecDepth 100000 in
theorem lifted (os : Os) (started : os.Started) (H : Type) (enc : TypeId × Value → H) :
    ReturnsInHanded {} Try.checked os 8 .any (Rows.hashPureSpec.pre6 enc Try.prog Try.f8 Rows.hashPureRow.domain false) (Rows.hashPureSpec.post enc Try.prog Try.f8 false true false false) := by
  refine law_lifted (C := Try.checked) (n := 2) (tb := 4) own started (by kernel_rfl) Try.func8 rfl (by kernel_rfl)
    (by intro t ht; simp [Try.params8] at ht; obtain rfl := ht; exact ⟨by kernel_rfl, of_decide_eq_true (by kernel_rfl)⟩)
    (by kernel_rfl) (by kernel_rfl) Try.underlying4
    (fun ds hd => by match ds, hd with | [_, _], _ => rfl)
    (ChangeSpec.witness6 (enc := enc) (C := Try.checked) false ⟨#[], #[.slice none 0 0, .slice none 0 0], []⟩ 8 (by kernel_rfl) (by kernel_rfl) (by kernel_rfl) (by kernel_rfl)) ?_
  intro W base args ds ps hval hA hlt hsz
  rw [Try.params8] at hA hval
  obtain ⟨v0, vs0, d0, ds0, p0, q0, hargs, rfl, rfl, h0, r0⟩ := trodAll_cons hA
  obtain ⟨v1, vs1, d1, ds1, p1, q1, rfl, rfl, rfl, h1, r1⟩ := trodAll_cons r0
  obtain ⟨rfl, rfl, rfl⟩ := trodAll_nil r1
  obtain rfl : args = #[v0, v1] := by cases args; simp_all
  obtain ⟨A, l, c, rfl, hc, hm, hr⟩ := open_bytes Try.underlying22 Try.underlying5 cells1 bytes1 (hval 0 _ v0 rfl rfl) h0 (fun x hx => hlt x (by simp [hx])) hsz (j := 0) (by rw [Try.params8]; rfl) rfl
  obtain ⟨A2, m, c2, rfl, hc2, hm2, hr2⟩ := open_bytes Try.underlying22 Try.underlying5 cells1 bytes1 (hval 1 _ v1 rfl rfl) h1 (fun x hx => hlt x (by simp [hx])) hsz (j := 1) (by rw [Try.params8]; rfl) rfl
  exact walk A l c A2 m c2 hc hm hc2 hm2 W hr hr2

theorem proved : Rows.HashPureSaid :=
  OpenClaim.holds_of_wide 8 Try.f8 rfl rfl rfl rfl rfl rfl rfl ⟨rfl, rfl, rfl, rfl, rfl⟩ rfl rfl rfl rfl rfl (by kernel_rfl) Try.func8 (by kernel_rfl)
    (of_decide_eq_true (by kernel_rfl)) (by unfold Func.isWrapper; first | (rw [if_pos (by decide +kernel)]; kernel_rfl) | (rw [if_neg (by decide +kernel)]; exact ⟨rfl, rfl⟩))
    (fun os started H enc _ => lifted os started H enc)
#print axioms proved
end Go.Proofs.Ytfmhfkmigfhleaa.hashPure
