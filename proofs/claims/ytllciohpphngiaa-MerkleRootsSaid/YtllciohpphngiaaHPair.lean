/-
  hash.Pair: the name of sumF of the tag followed by the bytes of both names.
-/
import Derived.Test.YtllciohpphngiaaHTag
import Derived.Deep.RegionHeld3
namespace Go.Proofs.Ytllciohpphngiaa
open Go.ChangeShapes Go.WideShapes Go.ChangeAt Go.RowKit Go.Fl

/-- The world in which Pair has laid its four blocks. -/
def pairW (w : World) (x y : BitVec 64) : World := ((((w.alloc (.cells (nmC x) 27)).alloc (.cells (nmC y) 27)).alloc (.cells #[B 0, B 0, B 0, B 0, B 0, B 0, B 0, B 0] 27)).alloc (.cells #[B 0, B 0, B 0, B 0, B 0, B 0, B 0, B 0, B 0, B 0, B 0, B 0, B 0, B 0, B 0, B 0] 53))

theorem pairW_facts (w : World) (x y : BitVec 64) : Is (pairW w x y) w.heap.size 27 (nmC x) ∧ Is (pairW w x y) (w.heap.size + 1) 27 (nmC y) ∧ Is (pairW w x y) (w.heap.size + 1 + 1) 27 #[B 0, B 0, B 0, B 0, B 0, B 0, B 0, B 0] ∧
    Is (pairW w x y) (w.heap.size + 1 + 1 + 1) 53 Z16.toArray ∧ Fr w 4 (pairW w x y) :=
  ⟨(((Is.new w _ _).old _).old _).old _, ((Is.newAt _ _ _ (by simp)).old _).old _, (Is.newAt _ _ _ (by simp)).old _, Is.newAt _ _ _ (by simp), ((((Fr.refl w).alloc _).alloc _).alloc _).alloc _⟩

set_option maxHeartbeats 1000000 in
theorem pair_any {h : BitVec 64} (t : UInt8) (x y : BitVec 64) (hx : Hid (sumF (t :: (nmL x ++ nmL y)) = h)) (w : World) :
    Calls Try.prog 23 #[B t, nm x, nm y] w fun e w' => e = .returned (nm h) ∧ Below w.heap.size w w' := by
  have hl : (nmL x ++ nmL y).length = 16 := rfl
  have HL := Lib.hid hl
  clear hl
  go_enter Try.func23, Try.ntmps23
  go_wp2
  obtain ⟨h1, h2, h3, h4, hF⟩ := pairW_facts w x y
  have e : pairW w x y = ((((w.alloc (.cells (nmC x) 27)).alloc (.cells (nmC y) 27)).alloc (.cells #[B 0, B 0, B 0, B 0, B 0, B 0, B 0, B 0] 27)).alloc (.cells #[B 0, B 0, B 0, B 0, B 0, B 0, B 0, B 0, B 0, B 0, B 0, B 0, B 0, B 0, B 0, B 0] 53)) := rfl
  change Code.wp _ _ _ _ (pairW w x y)
  clear e
  generalize pairW w x y = W at *
  go_region_held3 (fun _ => True) (trivial) ((refine step_copy_splice rfl (.tmp 8) (.tmp 9) 51 51 rfl 5 Try.underlying51 byte_info _ _ _ _ _ _ (by rfl) (by rfl) (w.heap.size + 1 + 1 + 1) 0 Z16 53 h4 ((nmL x).map B) rfl (fun _ => ⟨rfl, _, rfl, is_src h1.drew⟩) (by simp [nmL_len]) (bytes_one _) (w.heap.size + 1 + 1 + 1) _ (Below.refl _ _) (Nat.le_refl _) ?_; intro w2 HG hb2))
  have h22 := h2.drew.keep hb2 (by omega)
  have h32 := h3.drew.keep hb2 (by omega)
  have hF2 := hF.drew.step hb2 (by omega)
  clear h1 h2 h3 h4 hF hb2
  go_wp2
  go_region_held3 (fun _ => True) (trivial) ((refine step_copy_splice rfl (.tmp 11) (.tmp 12) 51 51 rfl 5 Try.underlying51 byte_info _ _ _ _ _ _ (by rfl) (by rfl) (w.heap.size + 1 + 1 + 1) 8 (splice Z16 0 ((nmL x).map B)) 53 HG.out ((nmL y).map B) rfl (fun _ => ⟨rfl, _, rfl, is_src h22.drew⟩) (by rw [pair_len]; simp [nmL_len]) (bytes_one _) (w.heap.size + 1 + 1 + 1) _ (Below.refl _ _) (Nat.le_refl _) ?_; intro w3 HG3 hb3))
  have h33 := h32.drew.keep hb3 (by omega)
  have hF3 := hF2.drew.step hb3 (by omega)
  have hr := is_list_rb (n := w3.heap.size) (pair_cells HG3) (by have := hF3.2; omega)
  have HR := Lib.hid hr
  clear hr HG HG3 h22 h32 hF2 hb3
  go_wp2_with (first
    | (go_at_call 28; refine (tagged_n _ _ (nmL x ++ nmL y) _ _ rfl hx (by rw [HL.out]; omega) (by omega) _ HR.out).mono ?_; rintro e w4 ⟨rfl, hb⟩; have h34 := h33.next hb; have hF4 := hF3.next hb; clear hb)
    | (refine wpList_store_is rfl 27 (.tmp 6) (.tmp 16) rfl (w.heap.size + 1 + 1) 27 _ (nmC _) rfl rfl h34 (nmC_size _) name_info (nmC_one _) ?_; intro w6 hz7 hb6))
  exact ret_is rfl (w.heap.size + 1 + 1) 27 _ rfl hz7 Try.underlying27 rfl name_info rfl ⟨rfl, hF4.1.trans (hb6.mono (by omega))⟩
end Go.Proofs.Ytllciohpphngiaa
