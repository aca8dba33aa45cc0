/-
  forkledgerref1.Pair.
-/
import Derived.Test.YtllciohpphngiaaR1Tag
import Derived.Test.YtllciohpphngiaaHeld
namespace Go.Proofs.Ytllciohpphngiaa
open Go.ChangeShapes Go.WideShapes Go.ChangeAt Go.RowKit Go.Fl

def pairB (w : World) (y z : BitVec 64) : World := ((w.alloc (.cells (nmC y) 27)).alloc (.cells (nmC z) 27)).alloc (.cells #[B 0, B 0, B 0, B 0, B 0, B 0, B 0, B 0] 27)
theorem pairB_facts (w : World) (y z : BitVec 64) : Is (pairB w y z) w.heap.size 27 (nmC y) ∧ Is (pairB w y z) (w.heap.size + 1) 27 (nmC z) ∧ Is (pairB w y z) (w.heap.size + 1 + 1) 27 #[B 0, B 0, B 0, B 0, B 0, B 0, B 0, B 0] ∧ Fr w 3 (pairB w y z) :=
  ⟨((Is.new w _ _).old _).old _, (Is.newAt _ _ _ (by simp)).old _, Is.newAt _ _ _ (by simp), (((Fr.refl w).alloc _).alloc _).alloc _⟩

set_option maxHeartbeats 1000000 in
theorem rpair_any {x : BitVec 64} (t : UInt8) (y z : BitVec 64) (hx : Hid (sumF (t :: (nmL y ++ nmL z)) = x)) (w : World) :
    Calls Try.prog 32 #[B t, nm y, nm z] w fun e w' => e = .returned (nm x) ∧ Below w.heap.size w w' := by
  obtain ⟨i0, hi, hz0, hz1, hz2⟩ := info_parts info_byte
  have HI := Lib.hid hi
  have HZ0 := Lib.hid hz0
  have HZ1 := Lib.hid hz1
  have HZ2 := Lib.hid hz2
  clear hi hz0 hz1 hz2
  obtain ⟨h1, h2, h3, hF⟩ := pairB_facts w y z
  go_enter Try.func32, Try.ntmps32
  go_wp2
  change Code.wp _ _ _ _ (pairB w y z)
  have hsz : (pairB w y z).heap.size = w.heap.size + 3 := by simp [pairB]
  generalize pairB w y z = W at *
  refine wp_region_held_drew (S := fun _ => True) (by kernel_rfl) trivial (fun _ => ?_)
  refine held_pure 0 7 (B t) rfl (fun _ => rfl) trivial ?_
  refine held_pure 2 9 (.slice (some ⟨w.heap.size, 0, none⟩) 8 8) rfl (fun W => by go_simp) trivial ?_
  refine held_pure 4 11 (.slice (some ⟨w.heap.size + 1, 0, none⟩) 8 8) rfl (fun W => by go_simp) trivial ?_
  try simp only [Act.put, List.setIfInBounds_toArray, List.set_cons_zero, List.set_cons_succ]
  refine held_one (i := 1) (by kernel_rfl) rfl (by rfl) (fun K hK => ?_)
  go_wp2_with fail
  refine hK.out _ _ trivial (fun _ => ?_)
  clear hK K
  have hob0 : OB (W.alloc (.cells #[] 5)).drew (w.heap.size + 3) 5 (.slice (some ⟨w.heap.size + 3, 0, none⟩) 0 0) [] := by
    have := ob_empty W 5 (g := W.heap.size) rfl
    rw [hsz] at this
    exact this.drew
  have hF0 := (hF.alloc (.cells #[] 5)).drew
  have h10 := (h1.old (.cells #[] 5)).drew
  have h20 := (h2.old (.cells #[] 5)).drew
  have h30 := (h3.old (.cells #[] 5)).drew
  refine held_one (i := 3) (by kernel_rfl) rfl (by rfl) (fun K hK => ?_)
  refine oper_append_ob (.tmp 8) (.tmp 9) 51 rfl (w.heap.size + 3) 5 i0 Try.underlying51 HI.out HZ0.out HZ1.out HZ2.out (.slice (some ⟨w.heap.size + 3, 0, none⟩) 0 0) [] rfl hob0 _ (some ⟨w.heap.size, 0, none⟩) (nmL y) 8 8 rfl rfl (is_rb h10 h10.lt) (by rw [nmL_len]; simp) (by (have := hF0.2; omega)) ?_
  intro v1 w1 hob1 hg1
  have hF1 := hF0.grown hg1 (fun q hq => by have := hob0.own q hq; omega)
  have h21 := h20.grown hg1 (fun q hq => by have := hob0.own q hq; omega)
  have h31 := h30.grown hg1 (fun q hq => by have := hob0.own q hq; omega)
  refine hK.out _ _ trivial (fun _ => ?_)
  clear hK K hg1 hob0 hF0 h10 h20 h30
  refine held_one (i := 5) (by kernel_rfl) rfl (by rfl) (fun K hK => ?_)
  refine oper_append_ob (.tmp 10) (.tmp 11) 51 rfl (w.heap.size + 3) 5 i0 Try.underlying51 HI.out HZ0.out HZ1.out HZ2.out _ ([] ++ nmL y) rfl hob1 _ (some ⟨w.heap.size + 1, 0, none⟩) (nmL z) 8 8 rfl rfl (is_rb h21 h21.lt) (by simp [nmL_len]) (by (have := hF1.2; omega)) ?_
  intro v2 w2 hob2 hg2
  have hF2 := hF1.grown hg2 (fun q hq => by have := hob1.own q hq; omega)
  have h32 := h31.grown hg2 (fun q hq => by have := hob1.own q hq; omega)
  refine hK.out _ _ trivial (fun _ => ?_)
  clear hK K hg2 hob1 h21 h31 hF1
  have hob3 : OB w2 (w.heap.size + 3) 5 v2 (nmL y ++ nmL z) := hob2
  clear hob2
  obtain ⟨A3, c3, rfl, hc3, hm3, hr3⟩ := hob3.form
  have hl : (nmL y ++ nmL z).length = 16 := rfl
  rw [hl] at hc3
  refine held_one (i := 6) (by kernel_rfl) rfl (by rfl) (fun K hK => ?_)
  go_wp2_with fail
  refine (rtagged_n t A3 (nmL y ++ nmL z) _ c3 rfl hx (by rw [hl]; exact hc3) (by rw [hl]; omega) _ hr3).mono ?_
  rintro e w3 ⟨rfl, hb3⟩
  have hF3 := hF2.next hb3
  have h33 := h32.next hb3
  go_wp2_with fail
  refine hK.out _ _ trivial (fun _ => ?_)
  clear hK K
  refine held_one (i := 7) (by kernel_rfl) rfl (by rfl) (fun K hK => ?_)
  refine oper_store_is 27 (.tmp 6) (.tmp 13) rfl (w.heap.size + 1 + 1) 27 _ (nmC x) rfl rfl h33 (nmC_size _) name_info (nmC_one _) ?_
  intro w4 hz4 hb4 _
  refine hK.out _ _ trivial (fun _ => wpAnyH_done (by kernel_rfl) ?_ _)
  clear hK K
  go_wp2_with fail
  exact ret_is rfl (w.heap.size + 1 + 1) 27 _ rfl hz4 Try.underlying27 rfl name_info rfl ⟨rfl, hF3.1.trans (hb4.mono (by omega))⟩
end Go.Proofs.Ytllciohpphngiaa
