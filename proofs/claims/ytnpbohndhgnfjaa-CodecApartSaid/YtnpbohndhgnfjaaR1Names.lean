/-
  forkledgerref1.AppendNames and forkledgerref1.Names: a list of names behind its number, written and read.
-/
import Derived.Test.YtnpbohndhgnfjaaR1Bytes
import Derived.Test.YtnpbohndhgnfjaaR1Of
import Derived.Test.YtnpbohndhgnfjaaNames
namespace Go.Fl
open Go.ChangeShapes Go.WideShapes Go.ChangeAt Go.RowKit

/-- The bytes of names, one after the other. -/
def nsB (l : List (BitVec 64)) : List UInt8 := l.flatMap nmL
theorem nsB_len (l : List (BitVec 64)) : (nsB l).length = l.length * 8 := by
  induction l with
  | nil => rfl
  | cons x l ih =>
    have : nsB (x :: l) = nmL x ++ nsB l := rfl
    rw [this, List.length_append, ih, nmL_len, List.length_cons]
    omega
theorem nsB_snoc (l : List (BitVec 64)) (k : Nat) (x : BitVec 64) (h : l[k]? = some x) : nsB (l.take k) ++ nmL x = nsB (l.take (k + 1)) := by
  rw [List.take_add_one, h]
  simp [nsB]
/-- The number that one byte at an offset spells. -/
def cntAt (l : List UInt8) (q : Nat) : Nat := (beI ((l.drop q).take 1)).toNat
theorem cntAt_iu (l : List UInt8) (q : Nat) (h : q + 1 ≤ l.length) : iu (uintV ((l.drop q).take 1)) = (cntAt l q : Int) ∧ cntAt l q ≤ 255 := by
  have h1 := part_len l q 1 h
  have h2 := beI_range ((l.drop q).take 1)
  rw [h1] at h2
  rw [uintV_iu _ (by omega)]
  unfold cntAt
  omega
/-- M names from an offset on. -/
def namesAt (l : List UInt8) (p M : Nat) : List (BitVec 64) := (List.range M).map fun i => uintV ((l.drop (p + 8 * i)).take 8)
theorem namesAt_len (l : List UInt8) (p M : Nat) : (namesAt l p M).length = M := by simp [namesAt]
theorem namesAt_snoc (l : List UInt8) (p k : Nat) : namesAt l p k ++ [uintV ((l.drop (p + 8 * k)).take 8)] = namesAt l p (k + 1) := by
  simp [namesAt, List.range_succ]
/-- What a function that returns names of its own, an offset and true answers. -/
def RetONat (w : World) (tn : TypeId) (l : List (BitVec 64)) (n : Nat) (e : Ending) (w' : World) : Prop := ∃ v, e = .returned (.tuple #[v, .int .i64 n, .bool true]) ∧ ON w' w.heap.size tn v l ∧ Below w.heap.size w w'
end Go.Fl
namespace Go.Proofs.Ytnpbohndhgnfjaa
open Go.ChangeShapes Go.WideShapes Go.ChangeAt Go.RowKit Go.Fl

theorem info_name : (Try.prog.info? 55).map (fun i => (i.zero, i.size, i.bytes)) = some (some (.agg #[.int .u8 0, .int .u8 0, .int .u8 0, .int .u8 0, .int .u8 0, .int .u8 0, .int .u8 0, .int .u8 0]), 8, 8) := by kernel_rfl

theorem rappnames_no (A A2 : Option Addr) (l : List UInt8) (m : List (BitVec 64)) (c c2 : Nat) (h : 255 < m.length) (hm : m.length ≤ 281474976710656) (w : World) :
    Calls Try.prog 20 #[.slice A l.length c, .slice A2 m.length c2] w fun e w' => e = .returned (.tuple #[.slice none 0 0, .bool false]) ∧ w = w' := by
  have h1 : (255 : Int) < (m.length : Int) := by omega
  go_enter Try.func20, Try.ntmps20
  go_wp2
  go_ret2
  exact ⟨rfl, rfl⟩

set_option maxHeartbeats 1000000 in
theorem rappnames_yes (A A2 : Option Addr) (l : List UInt8) (m : List (BitVec 64)) (c c2 : Nat) (h : m.length ≤ 255) (hl : l.length + 65545 ≤ 160000000000000) (w : World) (hr : RB w w.heap.size A l) (hr2 : RN w w.heap.size A2 m) :
    Calls Try.prog 20 #[.slice A l.length c, .slice A2 m.length c2] w (RetOBok w 5 (l ++ tailB (ofn m.length) 1 ++ nsB m)) := by
  obtain ⟨i0, hi, hz0, hz1, hz2⟩ := info_parts info_byte
  have HI := Lib.hid hi
  have HZ0 := Lib.hid hz0
  have HZ1 := Lib.hid hz1
  have HZ2 := Lib.hid hz2
  have HR := Lib.hid hr
  have HR2 := Lib.hid hr2
  have h1 : (m.length : Int) ≤ 255 := by omega
  have h2 := tailB_len (ofn m.length) 1 (by omega)
  have H2 := Lib.hid h2
  have h3 := iu_ofn m.length (by omega)
  have H3 := Lib.hid h3
  clear hi hz0 hz1 hz2 hr hr2 h2 h3
  go_enter Try.func20, Try.ntmps20
  go_wp2_with fail
  refine (rappuint_n A l c _ (ofn m.length) H3.out.symm 1 1 rfl (by omega) _ HR.out).mono ?_
  rintro e w1 ⟨v1, rfl, hob1, hb1⟩
  go_wp2
  go_loopw [6, 7] (fun v i wr => ∃ k : Nat, k ≤ m.length ∧ i = .int .i64 k ∧ OB wr w.heap.size 5 v (l ++ tailB (ofn m.length) 1 ++ nsB (m.take k)) ∧ Fr w 0 wr) (fun _ i _ => m.length - (intOf i).toNat)
  case atStart => exact ⟨0, by omega, rfl, by rw [List.take_zero]; simpa [nsB] using hob1, (Fr.refl w).next hb1⟩
  case round =>
    clear hob1 hb1
    obtain ⟨k, hk, rfl, hob, hF⟩ := hrel
    by_cases hlt : k < m.length
    · obtain ⟨y, hy⟩ : ∃ y, m[k]? = some y := ⟨_, List.getElem?_eq_getElem hlt⟩
      obtain ⟨g, off, rfl, hg, hcell⟩ := HR2.out.at_ hy
      have hrb : RB w w.heap.size (some ⟨g, off + k * 8, none⟩) (nmL y) := HR2.out.rb rfl hy
      have HRB := Lib.hid (carry hrb (Fr.refl w) hF)
      have hsn := nsB_snoc m k y hy
      have HSN := Lib.hid hsn
      have hlen : (l ++ tailB (ofn m.length) 1 ++ nsB (m.take k)).length + (nmL y).length ≤ 160000000000000 := by have := H2.out; rw [List.length_append, List.length_append, nsB_len, nmL_len, List.length_take]; omega
      have HLEN := Lib.hid hlen
      have k1 : (k : Int) < (m.length : Int) := by omega
      clear hrb hsn hlen hcell hy
      go_wp2_with (first
        | (at_builtin; refine wpList_append_ob rfl (.tmp 22) (.tmp 26) 22 rfl w.heap.size 5 i0 Try.underlying22 HI.out HZ0.out HZ1.out HZ2.out _ (l ++ tailB (ofn m.length) 1 ++ nsB (m.take k)) rfl hob _ (some ⟨g, off + k * 8, none⟩) (nmL y) 8 8 rfl rfl HRB.out HLEN.out (by (have := hF.2; omega)) ?_; intro v2 w2 hob2 hg2 hat2; have hF2 := hF.grown hg2 (fun k hk => hob.own k hk))
        | fail)
      go_roundw
      case rel => exact ⟨k + 1, by omega, by go_num, by rw [List.append_assoc, HSN.out] at hob2; exact hob2, hF2⟩
      case measure => simp [intOf]; omega
    · obtain rfl : k = m.length := by omega
      go_wp2
      go_ret2
      exact ⟨_, rfl, by rw [List.take_length] at hob; exact hob, hF.1⟩

theorem rnames_no1 (A : Option Addr) (l : List UInt8) (c : Nat) (p : Int) (h : p < 0 ∨ (l.length : Int) - 1 < p) (hm : l.length ≤ 281474976710656) (w : World) :
    Calls Try.prog 22 #[.slice A l.length c, .int .i64 p] w fun e w' => e = .returned (.tuple #[.slice none 0 0, .int .i64 0, .bool false]) ∧ w = w' := by
  go_enter Try.func22, Try.ntmps22
  go_wp2_with fail
  refine (ruint_no A l c p 1 (by omega) hm _).mono ?_
  rintro e w1 ⟨rfl, rfl⟩
  go_wp2
  go_ret3
  exact ⟨rfl, rfl⟩

set_option maxHeartbeats 1000000 in
theorem rnames_no2 (A : Option Addr) (l : List UInt8) (c : Nat) (q : Nat) (h : q + 1 ≤ l.length) (h2 : l.length < q + 1 + 8 * cntAt l q) (hm : l.length ≤ 281474976710656) (w : World) (hr : RB w w.heap.size A l) :
    Calls Try.prog 22 #[.slice A l.length c, .int .i64 q] w fun e w' => e = .returned (.tuple #[.slice none 0 0, .int .i64 0, .bool false]) ∧ w = w' := by
  obtain ⟨x, hx⟩ : ∃ x, uintV ((l.drop q).take 1) = x := ⟨_, rfl⟩
  obtain ⟨hl, hl2⟩ := cntAt_iu l q h
  rw [hx] at hl
  have HX := Lib.hid hx
  have HR := Lib.hid hr
  clear hx hr
  generalize cntAt l q = M at *
  have k1 : (l.length : Int) - (q : Int) - 1 < 8 * (M : Int) := by omega
  have k2 : (l.length : Int) ≤ 281474976710656 := by omega
  have k3 : (q : Int) + 1 ≤ (l.length : Int) := by omega
  have k4 : (M : Int) ≤ 255 := by omega
  go_enter Try.func22, Try.ntmps22
  go_wp2_with fail
  refine (ruint_yes_i A l c _ q 1 rfl (by omega) (by omega) h hm _ HR.out HX _ rfl).mono ?_
  rintro e w1 ⟨rfl, rfl⟩
  go_wp2
  go_ret3
  exact ⟨rfl, rfl⟩

set_option maxHeartbeats 2000000 in
theorem rnames_yes (A : Option Addr) (l : List UInt8) (c : Nat) (q : Nat) (h : q + 1 + 8 * cntAt l q ≤ l.length) (h0 : q + 1 ≤ l.length) (hm : l.length ≤ 281474976710656) (w : World) (hr : RB w w.heap.size A l) :
    Calls Try.prog 22 #[.slice A l.length c, .int .i64 q] w (RetONat w 55 (namesAt l (q + 1) (cntAt l q)) (q + 1 + 8 * cntAt l q)) := by
  obtain ⟨x, hx⟩ : ∃ x, uintV ((l.drop q).take 1) = x := ⟨_, rfl⟩
  obtain ⟨hl, hl2⟩ := cntAt_iu l q (by omega)
  obtain ⟨i0, hi, hz0, hz1, hz2⟩ := info_parts info_name
  rw [hx] at hl
  have HX := Lib.hid hx
  have HR := Lib.hid hr
  have HI := Lib.hid hi
  have HZ0 := Lib.hid hz0
  have HZ1 := Lib.hid hz1
  have HZ2 := Lib.hid hz2
  clear hx hr hi hz0 hz1 hz2
  generalize cntAt l q = M at *
  have k1 : 8 * (M : Int) ≤ (l.length : Int) - (q : Int) - 1 := by omega
  have k2 : (l.length : Int) ≤ 281474976710656 := by omega
  have k3 : (q : Int) + 1 ≤ (l.length : Int) := by omega
  have k4 : (M : Int) ≤ 255 := by omega
  go_enter Try.func22, Try.ntmps22
  go_wp2_with fail
  refine (ruint_yes_i A l c _ q 1 rfl (by omega) (by omega) h0 hm _ HR.out HX _ rfl).mono ?_
  rintro e w1 ⟨rfl, rfl⟩
  go_wp2
  go_loopw [9, 10] (fun v i wr => ∃ k : Nat, k ≤ M ∧ i = .int .i64 k ∧ ON wr w.heap.size 55 v (namesAt l (q + 1) k) ∧ Fr w 0 wr) (fun _ i _ => M - (intOf i).toNat)
  case atStart => exact ⟨0, by omega, rfl, ON.nil _ _ _, Fr.refl w⟩
  case round =>
    obtain ⟨k, hk, rfl, hob, hF⟩ := hrel
    by_cases hlt : k < M
    · obtain ⟨y, hy⟩ : ∃ y, uintV ((l.drop (q + 1 + 8 * k)).take 8) = y := ⟨_, rfl⟩
      have hsn := namesAt_snoc l (q + 1) k
      rw [hy] at hsn
      have HY := Lib.hid hy
      have HSN := Lib.hid hsn
      have HRW := Lib.hid ((carry HR.out (Fr.refl w) hF).mono (m := wr.heap.size) (by have := hF.2; omega))
      have HLEN := Lib.hid (namesAt_len l (q + 1) k)
      have s1 : (k : Int) < (M : Int) := by omega
      clear hy hsn
      go_wp2_with fail
      refine (ruint_yes_i A l c _ (q + 1 + 8 * k) 8 (by omega) (by omega) (by omega) (by omega) hm _ HRW.out HY _ rfl).mono ?_
      rintro e w2 ⟨rfl, rfl⟩
      go_wp2_with (first
        | (go_at_call 31; refine (rof_any _ _).mono ?_; rintro e w2 ⟨rfl, hb⟩; have hF2 := hF.next hb; have hob2 := hob.keep hb; clear hb)
        | (at_builtin; refine wpList_append_on rfl (.tmp 48) (.tmp 51) 35 rfl w.heap.size 55 i0 _ Try.underlying35 HI.out HZ0.out rfl HZ1.out HZ2.out _ (namesAt l (q + 1) k) rfl (hob2.keep ((Below.refl _ _).alloc (Nat.le_refl _) _)) _ ⟨w2.heap.size, 0, none⟩ 1 1 y rfl rfl (rn_build w2 55 y) (by (have := HLEN.out; omega)) (by (have := hF2.2; simp; omega)) ?_; intro v3 w3 hob3 hg3 hat3; have hF3 := (((hF2.alloc _).grown hg3 (fun k hk => hob2.own k hk))).le (Nat.zero_le _))
        | fail)
      go_roundw
      case rel => exact ⟨k + 1, by omega, by go_num, by rw [HSN.out] at hob3; exact hob3, hF3⟩
      case measure => simp [intOf]; omega
    · obtain rfl : k = M := by omega
      go_wp2
      go_ret3
      exact ⟨_, by go_num, hob, hF.1⟩
end Go.Proofs.Ytnpbohndhgnfjaa
