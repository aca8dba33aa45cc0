/-
  The program's codec: lists of names behind their number, written and read.
-/
import Derived.Test.YtnpbohndhgnfjaaCodec3
import Derived.Deep.RegionHeld3
namespace Go.Fl
open Go.ChangeShapes Go.WideShapes Go.ChangeAt Go.RowKit
theorem on_full {w : World} {g M base : Nat} {tn : TypeId} {Z : List Value} {m : List (BitVec 64)} (hz : Is w g tn Z.toArray) (hl : Z.length = M * 8) (ht : Z.take (M * 8) = nsC m) (hm : m.length = M) (h63 : M ≤ 9223372036854775807) (hb : base ≤ g) :
    ON w base tn (.slice (some ⟨g, 0, none⟩) M M) m := by
  subst hm
  refine ⟨nsC_len m, .inr ⟨g, m.length, _, rfl, hb, hz, Nat.le_refl _, by simp only [maxLen]; omega, by simpa using hl, by simpa using ht⟩⟩
theorem splice_name {M k : Nat} {Z cs : List Value} {m : List (BitVec 64)} {y : BitVec 64} (hl : Z.length = M * 8) (hk : k < M) (hcs : cs = (nmL y).map B) (ht : Z.take (k * 8) = nsC m) :
    (splice Z (k * 8) cs).length = M * 8 ∧ (splice Z (k * 8) cs).take ((k + 1) * 8) = nsC (m ++ [y]) := by
  subst hcs
  have h8 : ((nmL y).map B).length = 8 := by rw [List.length_map, nmL_len]
  refine ⟨by rw [length_splice _ _ _ (by rw [h8]; omega), hl], ?_⟩
  have e2 : nsC (m ++ [y]) = nsC m ++ (nmL y).map B := by rw [nsC_append]; simp [nsC]
  have h9 : (Z.take (k * 8)).length = k * 8 := by rw [List.length_take]; omega
  rw [e2, ← ht]
  unfold splice
  rw [← List.append_assoc, List.take_append_of_le_length (by rw [List.length_append, h9, h8]; omega)]
  exact List.take_of_length_le (by rw [List.length_append, h9, h8]; omega)
end Go.Fl
namespace Go.Proofs.Ytnpbohndhgnfjaa
open Go.ChangeShapes Go.WideShapes Go.ChangeAt Go.RowKit Go.Fl

theorem appnames_no (A A2 : Option Addr) (l : List UInt8) (m : List (BitVec 64)) (c c2 : Nat) (h : 255 < m.length) (hm : m.length ≤ 281474976710656) (w : World) :
    Calls Try.prog 19 #[.slice A l.length c, .slice A2 m.length c2] w fun e w' => e = .returned (.tuple #[.slice none 0 0, .bool false]) ∧ w = w' := by
  have h1 : (255 : Int) < (m.length : Int) := by omega
  go_enter Try.func19, Try.ntmps19
  go_wp2
  go_ret2
  exact ⟨rfl, rfl⟩

set_option maxHeartbeats 1000000 in
theorem appnames_yes (A A2 : Option Addr) (l : List UInt8) (m : List (BitVec 64)) (c c2 : Nat) (h : m.length ≤ 255) (hl : l.length + 65545 ≤ 160000000000000) (w : World) (hr : RB w w.heap.size A l) (hr2 : RN w w.heap.size A2 m) :
    Calls Try.prog 19 #[.slice A l.length c, .slice A2 m.length c2] w (RetOBok w 5 (l ++ tailB (ofn m.length) 1 ++ nsB m)) := by
  obtain ⟨i0, hi, hz0, hz1, hz2⟩ := info_parts info_byte
  have HI := Lib.hid hi
  have HZ0 := Lib.hid hz0
  have HZ1 := Lib.hid hz1
  have HZ2 := Lib.hid hz2
  have HR := Lib.hid hr
  have HR2 := Lib.hid hr2
  have h1 : (m.length : Int) ≤ 255 := by omega
  have H2 := Lib.hid (tailB_len (ofn m.length) 1 (by omega))
  have H3 := Lib.hid (iu_ofn m.length (by omega))
  clear hi hz0 hz1 hz2 hr hr2
  go_enter Try.func19, Try.ntmps19
  go_wp2_with (first
    | (go_at_call 30; refine (room_any A l c _ (1 + m.length * 8) (by go_num) (by omega) _ HR.out).mono ?_; rintro e w1 ⟨v1, rfl, hob1, hb1⟩; have hF1 := (Fr.refl w).next hb1)
    | (go_at_call 29; refine (put_any (w0 := w) v1 l _ (ofn m.length) H3.out.symm _ 1 rfl (by omega) (by omega) _ hF1 hob1).mono ?_; rintro e w2 ⟨v2, rfl, hob2, hF2⟩)
    | fail)
  go_loopw [6, 25] (fun v i wr => ∃ k : Nat, k ≤ m.length ∧ i = .int .i64 k ∧ OB wr w.heap.size 5 v (l ++ tailB (ofn m.length) 1 ++ nsB (m.take k)) ∧ Fr w 0 wr) (fun _ i _ => m.length - (intOf i).toNat)
  case atStart => exact ⟨0, by omega, rfl, by rw [List.take_zero]; simpa [nsB] using hob2, hF2⟩
  case round =>
    clear hob1 hb1 hF1 hob2 hF2
    obtain ⟨k, hk, rfl, hob, hF⟩ := hrel
    by_cases hlt : k < m.length
    · obtain ⟨y, hy⟩ : ∃ y, m[k]? = some y := ⟨_, List.getElem?_eq_getElem hlt⟩
      have HRa := HR2.out.keep hF.1
      obtain ⟨g, off, rfl, hg, hcell⟩ := HRa.at_ hy
      have a0 : wr.cell? ⟨g, off + k * 8, none⟩ = some (B (nb y 0)) := hcell 0 (by omega)
      have a1 : wr.cell? ⟨g, off + k * 8 + 1, none⟩ = some (B (nb y 1)) := hcell 1 (by omega)
      have a2 : wr.cell? ⟨g, off + k * 8 + 2, none⟩ = some (B (nb y 2)) := hcell 2 (by omega)
      have a3 : wr.cell? ⟨g, off + k * 8 + 3, none⟩ = some (B (nb y 3)) := hcell 3 (by omega)
      have a4 : wr.cell? ⟨g, off + k * 8 + 4, none⟩ = some (B (nb y 4)) := hcell 4 (by omega)
      have a5 : wr.cell? ⟨g, off + k * 8 + 5, none⟩ = some (B (nb y 5)) := hcell 5 (by omega)
      have a6 : wr.cell? ⟨g, off + k * 8 + 6, none⟩ = some (B (nb y 6)) := hcell 6 (by omega)
      have a7 : wr.cell? ⟨g, off + k * 8 + 7, none⟩ = some (B (nb y 7)) := hcell 7 (by omega)
      have HSN := Lib.hid (nsB_snoc m k y hy)
      have hlen : (l ++ tailB (ofn m.length) 1 ++ nsB (m.take k)).length + (nmL y).length ≤ 160000000000000 := by have := H2.out; rw [List.length_append, List.length_append, nsB_len, nmL_len, List.length_take]; omega
      have HLEN := Lib.hid hlen
      have k1 : (k : Int) < (m.length : Int) := by omega
      have hz : Is (wr.alloc (.cells #[B 0, B 0, B 0, B 0, B 0, B 0, B 0, B 0] 55)) wr.heap.size 55 #[B 0, B 0, B 0, B 0, B 0, B 0, B 0, B 0] := Is.new _ _ _
      have hF1 : Fr w 1 (wr.alloc (.cells #[B 0, B 0, B 0, B 0, B 0, B 0, B 0, B 0] 55)) := hF.alloc _
      have hb0 : Below wr.heap.size wr (wr.alloc (.cells #[B 0, B 0, B 0, B 0, B 0, B 0, B 0, B 0] 55)) := (Below.refl _ _).alloc (Nat.le_refl _) _
      clear hlen hcell hy HRa
      go_wp2_with (first
        | (refine wpList_store_is rfl 55 (.tmp 8) (.tmp 28) rfl wr.heap.size 55 _ (nmC y) rfl rfl hz rfl name_info (nmC_one _) ?_; intro w2 hz2 hb2; have hF2 := hF1.step hb2 (by (have := hF.2; omega)); have hobk := hob.keep (hb0.trans hb2); have HRB := Lib.hid (is_rb (n := w2.heap.size) hz2 hz2.lt))
        | (at_builtin; refine wpList_append_ob rfl (.tmp 29) (.tmp 30) 22 rfl w.heap.size 5 i0 Try.underlying22 HI.out HZ0.out HZ1.out HZ2.out _ (l ++ tailB (ofn m.length) 1 ++ nsB (m.take k)) rfl hobk _ (some ⟨wr.heap.size, 0, none⟩) (nmL y) 8 8 rfl rfl HRB.out HLEN.out (by (have := hF2.2; omega)) ?_; intro v3 w3 hob3 hg3 hat3; have hF3 := (hF2.grown hg3 (fun k hk => hobk.own k hk)).le (Nat.zero_le _))
        | fail)
      go_roundw
      case rel => exact ⟨k + 1, by omega, by go_num, by rw [List.append_assoc, HSN.out] at hob3; exact hob3, hF3⟩
      case measure => simp [intOf]; omega
    · obtain rfl : k = m.length := by omega
      go_wp2
      go_ret2
      exact ⟨_, rfl, by rw [List.take_length] at hob; exact hob, hF.1⟩

theorem names_no1 (A : Option Addr) (l : List UInt8) (c : Nat) (p : Int) (h : p < 0 ∨ (l.length : Int) - 1 < p) (hm : l.length ≤ 281474976710656) (hp : I64 p) (w : World) :
    Calls Try.prog 21 #[.slice A l.length c, .int .i64 p] w fun e w' => e = .returned (.tuple #[.slice none 0 0, .int .i64 0, .bool false]) ∧ w = w' := by
  go_enter Try.func21, Try.ntmps21
  go_wp2_with fail
  refine (uint_no A l c p 1 (by omega) hm hp _).mono ?_
  rintro e w1 ⟨rfl, rfl⟩
  go_wp2
  go_ret3
  exact ⟨rfl, rfl⟩

set_option maxHeartbeats 1000000 in
theorem names_no2 (A : Option Addr) (l : List UInt8) (c : Nat) (q : Nat) (h : q + 1 ≤ l.length) (h2 : l.length < q + 1 + 8 * cntAt l q) (hc : l.length ≤ c) (hm : l.length ≤ 281474976710656) (w : World) (hr : RB w w.heap.size A l) :
    Calls Try.prog 21 #[.slice A l.length c, .int .i64 q] w fun e w' => e = .returned (.tuple #[.slice none 0 0, .int .i64 0, .bool false]) ∧ w = w' := by
  obtain ⟨x, hx⟩ : ∃ x, uintV ((l.drop q).take 1) = x := ⟨_, rfl⟩
  obtain ⟨hl, hl2⟩ := cntAt_iu l q h
  rw [hx] at hl
  have HX := Lib.hid hx
  have HR := Lib.hid hr
  clear hx hr
  generalize cntAt l q = M at *
  have k1 : (l.length : Int) - (q : Int) - 1 < 8 * (M : Int) := by omega
  have k2 : (l.length : Int) ≤ 281474976710656 := by omega
  have k3 : (q : Int) + 1 ≤ (l.length : Int) := by omega
  have k4 : (M : Int) ≤ 255 := by omega
  go_enter Try.func21, Try.ntmps21
  go_wp2_with (first
    | (go_at_call 9; refine (uint_yes_i A l c _ q 1 rfl (by omega) (by omega) h hc hm _ HR.out HX _ rfl).mono ?_; rintro e w1 ⟨rfl, rfl⟩)
    | (go_at_call 28; refine (has_no A l c _ _ hm ⟨by omega, by omega⟩ (by omega) _).mono ?_; rintro e w1 ⟨rfl, rfl⟩)
    | fail)
  go_ret3
  exact ⟨rfl, rfl⟩

set_option maxHeartbeats 2000000 in
theorem names_yes (A : Option Addr) (l : List UInt8) (c : Nat) (q : Nat) (h : q + 1 + 8 * cntAt l q ≤ l.length) (h0 : q + 1 ≤ l.length) (hc : l.length ≤ c) (hm : l.length ≤ 281474976710656) (w : World) (hr : RB w w.heap.size A l) :
    Calls Try.prog 21 #[.slice A l.length c, .int .i64 q] w (RetONat w 55 (namesAt l (q + 1) (cntAt l q)) (q + 1 + 8 * cntAt l q)) := by
  obtain ⟨x, hx⟩ : ∃ x, uintV ((l.drop q).take 1) = x := ⟨_, rfl⟩
  obtain ⟨hl, hl2⟩ := cntAt_iu l q (by omega)
  obtain ⟨i0, hi, hz0, hz1, hz2⟩ := info_parts info_name
  obtain ⟨gb, ob, rfl, hgb, hcellb⟩ := hr (by omega)
  rw [hx] at hl
  have HX := Lib.hid hx
  have HR := Lib.hid hr
  have HI := Lib.hid hi
  have HZ0 := Lib.hid hz0
  have HZ1 := Lib.hid hz1
  have HZ2 := Lib.hid hz2
  clear hx hr hi hz0 hz1 hz2 hcellb
  generalize cntAt l q = M at *
  have k1 : 8 * (M : Int) ≤ (l.length : Int) - (q : Int) - 1 := by omega
  have k2 : (l.length : Int) ≤ 281474976710656 := by omega
  have k3 : (q : Int) + 1 ≤ (l.length : Int) := by omega
  have k4 : (M : Int) ≤ 255 := by omega
  go_enter Try.func21, Try.ntmps21
  go_wp2_with (first
    | (go_at_call 9; refine (uint_yes_i _ l c _ q 1 rfl (by omega) (by omega) h0 hc hm _ HR.out HX _ rfl).mono ?_; rintro e w1 ⟨rfl, rfl⟩)
    | (go_at_call 28; refine (has_yes _ l c _ _ hm (by omega) (by omega) (by omega) _).mono ?_; rintro e w1 ⟨rfl, rfl⟩)
    | (at_make; refine wpList_make_sl rfl _ _ 35 rfl 55 i0 _ 8 8 Try.underlying35 HI.out HZ0.out HZ1.out HZ2.out _ _ _ _ M M rfl rfl (by go_num) (by go_num) (by omega) (by omega) (by omega) ?_; intro Z0 w1 hZ0 hz hF1)
    | fail)
  go_loopw [1, 32] (fun a i wr => ∃ k : Nat, k ≤ M ∧ i = .int .i64 k ∧ ∃ X : Int, a = .int .i64 X ∧ Hid (X = ((q + 1 + 8 * k : Nat) : Int)) ∧ ∃ Z : List Value, Hid (Z.length = M * 8) ∧ Hid (Z.take (k * 8) = nsC (namesAt l (q + 1) k)) ∧ Is wr w.heap.size 55 Z.toArray ∧ Fr w 1 wr) (fun _ i _ => M - (intOf i).toNat)
  case atStart => exact ⟨0, by omega, rfl, _, rfl, Lib.hid (by omega), Z0, hZ0, Lib.hid (by simp [namesAt, nsC]), hz, hF1⟩
  case round =>
    clear hz hF1 hZ0
    obtain ⟨k, hk, rfl, X, rfl, HXX, Z, hZ, hZt, hz, hF⟩ := hrel
    by_cases hlt : k < M
    · obtain ⟨y, hy⟩ : ∃ y, uintV ((l.drop (q + 1 + 8 * k)).take 8) = y := ⟨_, rfl⟩
      have hsn := namesAt_snoc l (q + 1) k
      rw [hy] at hsn
      have hyl : nmL y = (l.drop (q + 1 + 8 * k)).take 8 := by rw [← hy]; exact nmL_uintV _ (part_len l _ 8 (by omega))
      obtain ⟨i1, hi1, _, hi11, _⟩ := info_parts info_byte
      have hsl := fun (W : World) => run_from_at (P := Try.prog) Try.underlying22 hi1 hi11 gb ob l.length c (q + 1 + 8 * k) HXX (by omega) (by omega) W
      have hrb : RB w w.heap.size (some ⟨gb, ob + (q + 1 + 8 * k), none⟩) ((l.drop (q + 1 + 8 * k)).take 8) := by simpa [add_plain] using (HR.out.drop (q + 1 + 8 * k)).take 8
      obtain ⟨K, hK⟩ : ∃ K, q + 1 + 8 * k = K := ⟨_, rfl⟩
      rw [hK] at hsl hrb hyl
      obtain rfl : X = (K : Int) := by have := HXX.out; omega
      have hkl : K + 8 ≤ l.length := by omega
      have hkc : K < c := by omega
      obtain ⟨cs, hcs⟩ : ∃ cs, cs = (nmL y).map B := ⟨_, rfl⟩
      have hcl : cs.length = 8 := by rw [hcs, List.length_map, nmL_len]
      have HN : Hid (cs.length = Nat.min (l.length - K) 8) := Lib.hid (by rw [hcl]; exact (Nat.min_eq_right (by omega)).symm)
      have H1 : Hid (∀ v ∈ cs, v.oneCell' = true) := Lib.hid (by rw [hcs]; exact bytes_one _)
      have HSP := Lib.hid (splice_name (Z := Z) (M := M) hZ.out hlt hcs hZt.out)
      rw [← hyl] at hrb
      have HP := Lib.hid hrb
      have HCS := Lib.hid hcs
      have HSN := Lib.hid hsn
      have hfit : k * 8 + cs.length ≤ Z.length := by have := hZ.out; omega
      have HFIT := Lib.hid hfit
      have s1 : (k : Int) < (M : Int) := by omega
      have HK := Lib.hid hK
      have x0 : 0 ≤ (K : Int) := by omega
      have x1 : (K : Int) + 8 ≤ (l.length : Int) := by omega
      clear hy hsn hyl hi1 hi11 hrb hcs hfit hK
      go_wp2
      go_region_held3 (fun _ => True) (trivial) ((refine step_copy_splice rfl (.tmp 39) (.tmp 42) 22 22 rfl 5 Try.underlying22 byte_info _ _ _ _ _ _ (by rfl) (by rfl) w.heap.size (k * 8) Z 55 hz cs HN.out (fun hp => ⟨rfl, rb_src HP.out hF.drew.1 HCS.out hp⟩) HFIT.out H1.out w.heap.size _ (Below.refl _ _) (Nat.le_refl _) ?_; intro w2 HG hb2))
      have hF2 := hF.drew.step hb2 (by omega)
      go_wp2
      go_roundw
      case rel => exact ⟨k + 1, by omega, by go_num, _, rfl, Lib.hid (by have h1 := HK.out; have h2 : IntKind.i64.wrap ((K : Int) + 8) = (K : Int) + 8 := (by rw [IntKind.wrap_i64]; omega); omega), splice Z (k * 8) cs, Lib.hid HSP.out.1, Lib.hid (by rw [HSP.out.2, HSN.out]), HG.out, hF2⟩
      case measure => simp [intOf]; omega
    · obtain rfl : k = M := by omega
      have hX2 := HXX.out
      go_wp2
      go_ret3
      exact ⟨_, by rw [hX2]; rfl, on_full hz hZ.out hZt.out (namesAt_len _ _ _) (by omega) (Nat.le_refl _), hF.1⟩
end Go.Proofs.Ytnpbohndhgnfjaa
