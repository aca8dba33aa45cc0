/-
  The small functions beside the laws of layer 2: same, names, awake.
-/
import Derived.Test.YtnpbohndhgnfjaaCodec
import Derived.BigQuiet
import Derived.Laws.OwnMore
import Derived.Lib.SlBytesConst
import Derived.Lib.SmallJoins
namespace Go.Fl
open Go.ChangeShapes Go.WideShapes Go.ChangeAt Go.RowKit
/-- Are two byte strings equal? -/
def bsEq (l m : List UInt8) : Bool := decide (l = m)
theorem beq_bsEq (l m : List UInt8) : (l == m) = bsEq l m := by
  rw [Bool.eq_iff_iff]
  simp [bsEq]
theorem bsEq_self (l : List UInt8) : bsEq l l = true := by simp [bsEq]
def nsEq (l m : List (BitVec 64)) : Bool := decide (l = m)
theorem take_snoc {α : Type} (l : List α) (k : Nat) (x : α) (h : l[k]? = some x) : l.take k ++ [x] = l.take (k + 1) := by
  rw [List.take_add_one, h]
  rfl
theorem vb_two (w : World) (t : TypeId) (a b : UInt8) : VB (w.alloc (.cells #[B a, B b] t (2, 3))) (.slice (some ⟨w.heap.size, 0, none⟩) 2 2) [a, b] :=
  ⟨_, 2, rfl, by simp, by omega, fun _ => ⟨w.heap.size, 0, rfl, by simp, fun i x hi => by
    rw [World.cell?_alloc_mark, Nat.zero_add]
    rcases i with _ | _ | i <;> simp at hi ⊢
    · rw [hi]
    · rw [hi]⟩⟩
theorem nsEq_self (l : List (BitVec 64)) : nsEq l l = true := by simp [nsEq]
/-- The length that a law takes where it makes a long value of its own. -/
theorem long_len (c : Int) (h0 : 0 ≤ c) (hc : c ≤ 70000) (n : Int) : ∃ k : Nat, (k : Int) ≤ c + 2 ∧ (k : Int) = wrap64 (c + wrap64 ((IntKind.u64.wrap n).tmod 3)) := by
  have h1 : 0 ≤ IntKind.u64.wrap n := by rw [IntKind.wrap_u64]; omega
  have h2 : (IntKind.u64.wrap n).tmod 3 = (IntKind.u64.wrap n) % 3 := Int.tmod_eq_emod_of_nonneg h1
  have h3 : 0 ≤ (IntKind.u64.wrap n) % 3 ∧ (IntKind.u64.wrap n) % 3 < 3 := by omega
  rw [h2]
  generalize (IntKind.u64.wrap n) % 3 = r at h3
  refine ⟨(c + r).toNat, by omega, ?_⟩
  unfold wrap64
  omega
theorem made_bytes (w : World) {P : Program} {ts tb : TypeId} {i : TypeInfo} (hs : P.underlying ts = some (.slice tb)) (hi : P.info? tb = some i) (hz0 : i.zero = some (.int .u8 0)) (hz1 : i.size = 1) (hz2 : i.bytes = 1) (k : Nat) (hk : k ≤ 70000) {X : Int} (hX : (k : Int) = X) :
    (Instr.makeSlice ts (.int .i64 X) (.int .i64 X)).run P w = .ok (.slice (some ⟨w.heap.size, 0, none⟩) k k) (w.alloc (.cells (madeCells #[.int .u8 0] k) tb)) := by
  subst hX
  have h := run_make (P := P) w ts tb i (.int .u8 0) hs hi hz0 .i64 .i64 (k : Int) (k : Int) (by omega) (Int.le_refl _) (by rw [hz2]; omega) (by omega)
  have e : ((k : Nat) : Int).toNat = k := by omega
  rw [e] at h
  simpa [hz1, Value.cells] using h
theorem vb_made (w : World) (tb : TypeId) (k : Nat) (hk : k ≤ 9223372036854775807) : VB (w.alloc (.cells (madeCells #[.int .u8 0] k) tb)) (.slice (some ⟨w.heap.size, 0, none⟩) k k) (List.replicate k 0) :=
  ⟨some ⟨w.heap.size, 0, none⟩, k, by simp, by simp, hk, fun _ => ⟨w.heap.size, 0, rfl, by simp, fun i b hi => by
    rw [Nat.zero_add, (Is.new w tb _).cell i, ← Array.getElem?_toList, toList_madeCells_one]
    rw [List.getElem?_replicate] at hi ⊢
    split at hi
    · rename_i h
      rw [if_pos h]
      cases hi
      rfl
    · cases hi⟩⟩
theorem made_names (w : World) {P : Program} {ts tb : TypeId} {i : TypeInfo} (hs : P.underlying ts = some (.slice tb)) (hi : P.info? tb = some i) (hz0 : i.zero = some (nm 0)) (hz1 : i.size = 8) (hz2 : i.bytes = 8) (k : Nat) (hk : k ≤ 70000) {X : Int} (hX : (k : Int) = X) :
    (Instr.makeSlice ts (.int .i64 X) (.int .i64 X)).run P w = .ok (.slice (some ⟨w.heap.size, 0, none⟩) k k) (w.alloc (.cells (madeCells (nmC 0) (k * 8)) tb)) := by
  subst hX
  have h := run_make (P := P) w ts tb i (nm 0) hs hi hz0 .i64 .i64 (k : Int) (k : Int) (by omega) (Int.le_refl _) (by rw [hz2]; omega) (by omega)
  have e : ((k : Nat) : Int).toNat = k := by omega
  rw [e, hz1] at h
  exact h
theorem made_at (k i j : Nat) (hi : i < k) (hj : j < 8) : (madeCells (nmC 0) (k * 8))[i * 8 + j]? = (nmC 0)[j]? := by
  have hlt : i * 8 + j < k * 8 := by omega
  have hm : (i * 8 + j) % 8 = j := by omega
  have hz : (nmC (0 : BitVec 64)).size = 8 := rfl
  unfold madeCells
  rw [Array.getElem?_map, Array.getElem?_range, if_pos hlt, Option.map_some, hz, hm]
  have hj' : j < (nmC (0 : BitVec 64)).size := hj
  rw [Array.getElem?_eq_getElem hj', getElem!_pos (nmC (0 : BitVec 64)) j hj']
theorem vn_made (w : World) (tn : TypeId) (k : Nat) (hk : k ≤ 9223372036854775807) : VN (w.alloc (.cells (madeCells (nmC 0) (k * 8)) tn)) (.slice (some ⟨w.heap.size, 0, none⟩) k k) (List.replicate k 0) :=
  ⟨some ⟨w.heap.size, 0, none⟩, k, by simp, by simp, hk, fun _ => ⟨w.heap.size, 0, rfl, by simp, fun i b hi j hj => by
    rw [List.getElem?_replicate] at hi
    split at hi
    · rename_i h
      cases hi
      rw [Nat.zero_add, (Is.new w tn _).cell (i * 8 + j), made_at k i j h hj]
    · cases hi⟩⟩
end Go.Fl
namespace Go.Proofs.Ytnpbohndhgnfjaa
open Go.ChangeShapes Go.WideShapes Go.ChangeAt Go.RowKit Go.Fl
section
attribute [local go_sem] equal_nm eqGuard_nm bsOf_toList bsOf_append bsOf_size

theorem same_any (w : World) (v u : Value) (l m : List UInt8) (h : VB w v l) (h2 : VB w u m) :
    Calls Try.prog 11 #[v, u] w fun e w' => e = .returned (.bool (bsEq l m)) ∧ w = w' := by
  obtain ⟨A, c, rfl, h1, h3, hr⟩ := h
  obtain ⟨A2, c2, rfl, h4, h5, hr2⟩ := h2
  have hc1 := fun (w' : World) (hw : w' = w) => by subst hw; exact run_convert_rb l.length c rfl w' hr
  have hc2 := fun (w' : World) (hw : w' = w) => by subst hw; exact run_convert_rb m.length c2 rfl w' hr2
  go_enter Try.func11, Try.ntmps11
  go_wp2
  all_goals go_ret
  all_goals exact ⟨by rw [beq_bsEq]; rfl, rfl⟩

theorem names_any (w : World) (v u : Value) (l m : List (BitVec 64)) (h : VN w v l) (h2 : VN w u m) (hl : l.length ≤ 281474976710656) (hm : m.length ≤ 281474976710656) :
    Calls Try.prog 23 #[v, u] w fun e w' => e = .returned (.bool (nsEq l m)) ∧ Below w.heap.size w w' := by
  obtain ⟨A, c, rfl, h1, h3, hr⟩ := h
  obtain ⟨A2, c2, rfl, h4, h5, hr2⟩ := h2
  have HR := Lib.hid hr
  have HR2 := Lib.hid hr2
  clear hr hr2
  by_cases hne : l.length = m.length
  · have e1 : (l.length : Int) = (m.length : Int) := by omega
    go_enter Try.func23, Try.ntmps23
    go_wp2
    go_loopw [5] (fun i wr => ∃ k : Nat, k ≤ l.length ∧ i = .int .i64 k ∧ l.take k = m.take k ∧ Fr w 0 wr) (fun i _ => l.length - (intOf i).toNat)
    case atStart => exact ⟨0, by omega, rfl, rfl, Fr.refl w⟩
    case round =>
      obtain ⟨k, hk, rfl, hp, hF⟩ := hrel
      by_cases hlt : k < l.length
      · obtain ⟨y, hy⟩ : ∃ y, l[k]? = some y := ⟨_, List.getElem?_eq_getElem hlt⟩
        obtain ⟨z, hz⟩ : ∃ z, m[k]? = some z := ⟨_, List.getElem?_eq_getElem (by omega)⟩
        have HRa := HR.out.keep hF.1
        have HRb := HR2.out.keep hF.1
        obtain ⟨g, off, rfl, hg, hcell⟩ := HRa.at_ hy
        obtain ⟨g2, off2, rfl, hg2, hcell2⟩ := HRb.at_ hz
        have s1 : (k : Int) < (l.length : Int) := by omega
        have s2 : (k : Int) < (m.length : Int) := by omega
        have a0 : wr.cell? ⟨g, off + k * 8, none⟩ = some (B (nb y 0)) := hcell 0 (by omega)
        have a1 : wr.cell? ⟨g, off + k * 8 + 1, none⟩ = some (B (nb y 1)) := hcell 1 (by omega)
        have a2 : wr.cell? ⟨g, off + k * 8 + 2, none⟩ = some (B (nb y 2)) := hcell 2 (by omega)
        have a3 : wr.cell? ⟨g, off + k * 8 + 3, none⟩ = some (B (nb y 3)) := hcell 3 (by omega)
        have a4 : wr.cell? ⟨g, off + k * 8 + 4, none⟩ = some (B (nb y 4)) := hcell 4 (by omega)
        have a5 : wr.cell? ⟨g, off + k * 8 + 5, none⟩ = some (B (nb y 5)) := hcell 5 (by omega)
        have a6 : wr.cell? ⟨g, off + k * 8 + 6, none⟩ = some (B (nb y 6)) := hcell 6 (by omega)
        have a7 : wr.cell? ⟨g, off + k * 8 + 7, none⟩ = some (B (nb y 7)) := hcell 7 (by omega)
        have b0 : wr.cell? ⟨g2, off2 + k * 8, none⟩ = some (B (nb z 0)) := hcell2 0 (by omega)
        have b1 : wr.cell? ⟨g2, off2 + k * 8 + 1, none⟩ = some (B (nb z 1)) := hcell2 1 (by omega)
        have b2 : wr.cell? ⟨g2, off2 + k * 8 + 2, none⟩ = some (B (nb z 2)) := hcell2 2 (by omega)
        have b3 : wr.cell? ⟨g2, off2 + k * 8 + 3, none⟩ = some (B (nb z 3)) := hcell2 3 (by omega)
        have b4 : wr.cell? ⟨g2, off2 + k * 8 + 4, none⟩ = some (B (nb z 4)) := hcell2 4 (by omega)
        have b5 : wr.cell? ⟨g2, off2 + k * 8 + 5, none⟩ = some (B (nb z 5)) := hcell2 5 (by omega)
        have b6 : wr.cell? ⟨g2, off2 + k * 8 + 6, none⟩ = some (B (nb z 6)) := hcell2 6 (by omega)
        have b7 : wr.cell? ⟨g2, off2 + k * 8 + 7, none⟩ = some (B (nb z 7)) := hcell2 7 (by omega)
        clear hcell hcell2
        by_cases hyz : y = z
        · subst hyz
          have e3 := nmEq_self y
          have hstep : l.take (k + 1) = m.take (k + 1) := by rw [← take_snoc l k y hy, ← take_snoc m k y hz, hp]
          go_wp2
          go_quiet (fail)
          go_wp2
          go_roundw
          case rel => exact ⟨k + 1, by omega, by go_num, hstep, hF.drewN _⟩
          case measure => simp [intOf]; omega
        · have e3 := nmEq_ne hyz
          have e4 : nsEq l m = false := by
            unfold nsEq
            rw [decide_eq_false_iff_not]
            intro h
            subst h
            rw [hy] at hz
            exact hyz (Option.some.inj hz)
          go_wp2
          go_quiet (fail)
          go_wp2
          go_ret
          exact ⟨by rw [e4]; rfl, (hF.drewN _).1⟩
      · obtain rfl : k = l.length := by omega
        go_wp2
        go_ret
        refine ⟨?_, hF.1⟩
        rw [List.take_length, hne, List.take_length] at hp
        subst hp
        rw [nsEq_self]
        rfl
  · have e1 : (l.length : Int) ≠ (m.length : Int) := by omega
    have e2 : nsEq l m = false := by
      unfold nsEq
      rw [decide_eq_false_iff_not]
      intro h
      exact hne (by rw [h])
    go_enter Try.func23, Try.ntmps23
    go_wp2
    go_ret
    exact ⟨by rw [e2]; rfl, Below.refl _ _⟩

theorem awake_val : appBytesF (appUintF [] (ofn 258) 2) [97, 98] = ([1, 2, 0, 2, 97, 98], true) := by decide +kernel
/-- The fixed encodings are as they must be. -/
theorem awake_any (w : World) : Calls Try.prog 14 #[] w fun e w' => e = .returned (.bool true) ∧ Below w.heap.size w w' := by
  have hu : (258 : Int) = iu (ofn 258) := by decide +kernel
  have hv := awake_val
  obtain ⟨l1, hl1⟩ : ∃ l, appUintF [] (ofn 258) 2 = l := ⟨_, rfl⟩
  have hlen := appUintF_len [] (ofn 258) 2
  rw [hl1] at hv hlen
  have HV := Lib.hid hv
  have HU := Lib.hid hu
  have HL1 := Lib.hid hl1
  clear hv hu hl1
  go_enter Try.func14, Try.ntmps14
  go_wp2_with fail
  rw [HU.out]
  refine (codecS.appUint w (.slice none 0 0) [] (ofn 258) 2 (VB.nil w) (by simp) (by unfold I64; omega)).mono ?_
  rintro e w1 ⟨v1, rfl, ho1, hb1⟩
  rw [HL1.out] at ho1
  have kc := fun (u : World) (C : Array Value) (n c : Nat) => Lib.run_convert_bytes_const (P := Try.prog) u 22 5 C n c Try.underlying22 Try.underlying5
  go_wp2_with fail
  have hb2 : Below w1.heap.size w1 (w1.alloc (.cells #[Value.int IntKind.u8 97, Value.int IntKind.u8 98] 5 (2, 3))) := (Below.refl _ _).alloc (Nat.le_refl _) _
  refine (codecS.appBytes _ v1 (.slice (some ⟨w1.heap.size, 0, none⟩) 2 2) l1 [97, 98] (ho1.vb.next hb2) (vb_two w1 5 97 98) (by simp at hlen; omega) (by simp)).mono ?_
  rintro e w2 ⟨v2, rfl, ho2, hb3⟩
  rw [HV.out] at ho2
  rw [HV.out]
  obtain ⟨A, n, c, rfl, hn, -, -, hr⟩ := ho2.form_n
  have hcv := fun (w' : World) (hw : w' = w2) => by subst hw; exact run_convert_rb n c hn.out w' hr.out
  have hB := (hb1.trans (hb2.mono hb1.size)).trans (hb3.mono (by have := hb1.size; have := hb2.size; omega))
  clear ho1 ho2 hn hr
  go_wp2
  go_ret
  exact ⟨rfl, hB⟩
end
end Go.Proofs.Ytnpbohndhgnfjaa
