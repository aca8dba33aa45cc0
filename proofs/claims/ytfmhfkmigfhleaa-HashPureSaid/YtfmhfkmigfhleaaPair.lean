/-
  hash.Pair and the reference's Tagged.
-/
import Derived.Test.YtfmhfkmigfhleaaTagged
namespace Go.Proofs.Ytfmhfkmigfhleaa
open Go.ChangeShapes Go.WideShapes Go.ChangeAt Go.RowKit Go.Fl

theorem tagged_n {x : BitVec 64} (t : UInt8) (A : Option Addr) (l : List UInt8) (n c : Nat) (hn : n = l.length) (hx : Hid (sumF (t :: l) = x)) (hc : l.length ≤ c) (hm : c ≤ 281474976710656) (w : World) (hr : RB w w.heap.size A l) :
    Calls Try.prog 12 #[B t, .slice A n c] w fun e w' => e = .returned (nm x) ∧ Below w.heap.size w w' := by
  rw [hn]
  exact tagged_any t A l c hx hc hm w hr

theorem splice_two (x y : BitVec 64) : (splice (splice [B 0, B 0, B 0, B 0, B 0, B 0, B 0, B 0, B 0, B 0, B 0, B 0, B 0, B 0, B 0, B 0] 0 ((nmL x).map B)) 8 ((nmL y).map B)) = (nmL x ++ nmL y).map B := rfl

abbrev Z16 : List Value := [B 0, B 0, B 0, B 0, B 0, B 0, B 0, B 0, B 0, B 0, B 0, B 0, B 0, B 0, B 0, B 0]
theorem is_list_rb {w : World} {g n : Nat} {ty : TypeId} {l : List UInt8} (h : Hid (w.heap[g]? = some (.cells (l.map B).toArray ty (0, 0)))) (hn : g < n) : RB w n (some ⟨g, 0, none⟩) l := fun _ =>
  ⟨g, 0, rfl, hn, fun i b hi => by rw [cell_of_row w g (0 + i) _ ty (0, 0) h.out, Nat.zero_add]; simp [hi]⟩

theorem nmC_list (x : BitVec 64) : ∀ (j : Nat) (v : Value), ((nmL x).map B)[j]? = some v → (nmC x)[j]? = some v := fun (j : Nat) (v : Value) hv => by
  obtain ⟨b, hb, rfl⟩ : ∃ b, (nmL x)[j]? = some b ∧ B b = v := by simpa using hv
  exact nmL_get x j b hb
theorem is_src {w : World} {g : Nat} {ty : TypeId} {x : BitVec 64} (h : Is w g ty (nmC x)) : ∀ j v, ((nmL x).map B)[j]? = some v → w.cell? ((⟨g, 0, none⟩ : Addr).add j) = some v := fun j v hv => by
  rw [add_plain, Nat.zero_add, h.cell]
  exact nmC_list x j v hv

theorem pair_len (x : BitVec 64) : (splice Z16 0 ((nmL x).map B)).length = 16 := rfl
theorem pair_cells {w : World} {g : Nat} {ty : TypeId} {x y : BitVec 64} (h : Hid (w.heap[g]? = some (.cells (splice (splice Z16 0 ((nmL x).map B)) 8 ((nmL y).map B)).toArray ty (0, 0)))) : Hid (w.heap[g]? = some (.cells ((nmL x ++ nmL y).map B).toArray ty (0, 0))) := by
  have k := h.out
  rw [splice_two] at k
  exact k
/-- The world in which Pair has laid its four blocks. -/
def pairW (w : World) (x y : BitVec 64) : World := ((((w.alloc (.cells (nmC x) 24)).alloc (.cells (nmC y) 24)).alloc (.cells #[B 0, B 0, B 0, B 0, B 0, B 0, B 0, B 0] 24)).alloc (.cells #[B 0, B 0, B 0, B 0, B 0, B 0, B 0, B 0, B 0, B 0, B 0, B 0, B 0, B 0, B 0, B 0] 43))
theorem pairW_facts (w : World) (x y : BitVec 64) : Is (pairW w x y) w.heap.size 24 (nmC x) ∧ Is (pairW w x y) (w.heap.size + 1) 24 (nmC y) ∧ Is (pairW w x y) (w.heap.size + 1 + 1) 24 #[B 0, B 0, B 0, B 0, B 0, B 0, B 0, B 0] ∧
    Is (pairW w x y) (w.heap.size + 1 + 1 + 1) 43 Z16.toArray ∧ Fr w 4 (pairW w x y) :=
  ⟨(((Is.new w _ _).old _).old _).old _, ((Is.newAt _ _ _ (by simp)).old _).old _, (Is.newAt _ _ _ (by simp)).old _, Is.newAt _ _ _ (by simp), ((((Fr.refl w).alloc _).alloc _).alloc _).alloc _⟩

set_option maxHeartbeats 1000000 in
theorem pair_any {h : BitVec 64} (t : UInt8) (x y : BitVec 64) (hx : Hid (sumF (t :: (nmL x ++ nmL y)) = h)) (w : World) :
    Calls Try.prog 13 #[B t, nm x, nm y] w fun e w' => e = .returned (nm h) ∧ Below w.heap.size w w' := by
  have hl : (nmL x ++ nmL y).length = 16 := rfl
  have HL := Lib.hid hl
  clear hl
  go_enter Try.func13, Try.ntmps13
  go_wp2
  obtain ⟨h1, h2, h3, h4, hF⟩ := pairW_facts w x y
  have e : pairW w x y = ((((w.alloc (.cells (nmC x) 24)).alloc (.cells (nmC y) 24)).alloc (.cells #[B 0, B 0, B 0, B 0, B 0, B 0, B 0, B 0] 24)).alloc (.cells #[B 0, B 0, B 0, B 0, B 0, B 0, B 0, B 0, B 0, B 0, B 0, B 0, B 0, B 0, B 0, B 0] 43)) := rfl
  change Code.wp _ _ _ _ (pairW w x y)
  clear e
  generalize pairW w x y = W at *
  go_region_held3 (fun _ => True) (trivial) ((refine step_copy_splice rfl (.tmp 8) (.tmp 9) 22 22 rfl 5 Try.underlying22 byte_info _ _ _ _ _ _ (by rfl) (by rfl) (w.heap.size + 1 + 1 + 1) 0 Z16 43 h4 ((nmL x).map B) rfl (fun _ => ⟨rfl, _, rfl, is_src h1.drew⟩) (by simp [nmL_len]) (bytes_one _) (w.heap.size + 1 + 1 + 1) _ (Below.refl _ _) (Nat.le_refl _) ?_; intro w2 HG hb2))
  have h22 := h2.drew.keep hb2 (by omega)
  have h32 := h3.drew.keep hb2 (by omega)
  have hF2 := hF.drew.step hb2 (by omega)
  clear h1 h2 h3 h4 hF hb2
  go_wp2
  go_region_held3 (fun _ => True) (trivial) ((refine step_copy_splice rfl (.tmp 11) (.tmp 12) 22 22 rfl 5 Try.underlying22 byte_info _ _ _ _ _ _ (by rfl) (by rfl) (w.heap.size + 1 + 1 + 1) 8 (splice Z16 0 ((nmL x).map B)) 43 HG.out ((nmL y).map B) rfl (fun _ => ⟨rfl, _, rfl, is_src h22.drew⟩) (by rw [pair_len]; simp [nmL_len]) (bytes_one _) (w.heap.size + 1 + 1 + 1) _ (Below.refl _ _) (Nat.le_refl _) ?_; intro w3 HG3 hb3))
  have h33 := h32.drew.keep hb3 (by omega)
  have hF3 := hF2.drew.step hb3 (by omega)
  have hr := is_list_rb (n := w3.heap.size) (pair_cells HG3) (by have := hF3.2; omega)
  have HR := Lib.hid hr
  clear hr HG HG3 h22 h32 hF2 hb3
  go_wp2_with (first
    | (go_at_call 12; refine (tagged_n _ _ (nmL x ++ nmL y) _ _ rfl hx (by rw [HL.out]; omega) (by omega) _ HR.out).mono ?_; rintro e w4 ⟨rfl, hb⟩; have h34 := h33.next hb; have hF4 := hF3.next hb; clear hb)
    | (refine wpList_store_is rfl 24 (.tmp 6) (.tmp 16) rfl (w.heap.size + 1 + 1) 24 _ (nmC _) rfl rfl h34 (nmC_size _) name_info (nmC_one _) ?_; intro w6 hz7 hb6))
  exact ret_is rfl (w.heap.size + 1 + 1) 24 _ rfl hz7 Try.underlying24 rfl name_info rfl ⟨rfl, hF4.1.trans (hb6.mono (by omega))⟩
end Go.Proofs.Ytfmhfkmigfhleaa
