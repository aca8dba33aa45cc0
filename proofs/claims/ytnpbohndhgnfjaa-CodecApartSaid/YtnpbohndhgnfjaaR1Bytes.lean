/-
  forkledgerref1.AppendBytes and forkledgerref1.Bytes: a byte string behind its length, written and read.
-/
import Derived.Test.YtnpbohndhgnfjaaR1App
import Derived.Test.YtnpbohndhgnfjaaR1Uint
namespace Go.Fl
open Go.ChangeShapes Go.WideShapes Go.ChangeAt Go.RowKit

/-- What a function that returns bytes of its own and true answers. -/
def RetOBok (w : World) (tb : TypeId) (l : List UInt8) (e : Ending) (w' : World) : Prop := ∃ v, e = .returned (.tuple #[v, .bool true]) ∧ OB w' w.heap.size tb v l ∧ Below w.heap.size w w'
/-- What a function that returns bytes of its own, an offset and true answers. -/
def RetOBat (w : World) (tb : TypeId) (l : List UInt8) (n : Nat) (e : Ending) (w' : World) : Prop := ∃ v, e = .returned (.tuple #[v, .int .i64 n, .bool true]) ∧ OB w' w.heap.size tb v l ∧ Below w.heap.size w w'
theorem iu_ofn (n : Nat) (h : n < 18446744073709551616) : iu (ofn n) = (n : Int) := by
  unfold iu ofn
  rw [BitVec.toNat_ofNat]
  omega
/-- The length that two bytes at an offset spell. -/
def lenAt (l : List UInt8) (q : Nat) : Nat := (beI ((l.drop q).take 2)).toNat
theorem lenAt_iu (l : List UInt8) (q : Nat) (h : q + 2 ≤ l.length) : iu (uintV ((l.drop q).take 2)) = (lenAt l q : Int) ∧ lenAt l q ≤ 65535 := by
  have h1 := part_len l q 2 h
  have h2 := beI_range ((l.drop q).take 2)
  rw [h1] at h2
  rw [uintV_iu _ (by omega)]
  unfold lenAt
  omega
end Go.Fl
namespace Go.Proofs.Ytnpbohndhgnfjaa
open Go.ChangeShapes Go.WideShapes Go.ChangeAt Go.RowKit Go.Fl

theorem rappuint_n (A : Option Addr) (l : List UInt8) (c : Nat) (v : Int) (x : BitVec 64) (hv : v = iu x) (n : Int) (k : Nat) (hk : clampW n = k) (hm : l.length + 8 ≤ 160000000000000) (w : World) (hr : RB w w.heap.size A l) :
    Calls Try.prog 13 #[.slice A l.length c, .int .u64 v, .int .i64 n] w (RetOB w 5 (l ++ tailB x k)) := by
  subst hv
  exact rappuint_any A l c x n k hk hm w hr

theorem rappbytes_no (A A2 : Option Addr) (l m : List UInt8) (c c2 : Nat) (h : 65535 < m.length) (hm : m.length ≤ 281474976710656) (w : World) :
    Calls Try.prog 16 #[.slice A l.length c, .slice A2 m.length c2] w fun e w' => e = .returned (.tuple #[.slice none 0 0, .bool false]) ∧ w = w' := by
  have h1 : (65535 : Int) < (m.length : Int) := by omega
  go_enter Try.func16, Try.ntmps16
  go_wp2
  go_ret2
  exact ⟨rfl, rfl⟩

set_option maxHeartbeats 1000000 in
theorem rappbytes_yes (A A2 : Option Addr) (l m : List UInt8) (c c2 : Nat) (h : m.length ≤ 65535) (hl : l.length + 65545 ≤ 160000000000000) (w : World) (hr : RB w w.heap.size A l) (hr2 : RB w w.heap.size A2 m) :
    Calls Try.prog 16 #[.slice A l.length c, .slice A2 m.length c2] w (RetOBok w 5 (l ++ tailB (ofn m.length) 2 ++ m)) := by
  obtain ⟨i0, hi, hz0, hz1, hz2⟩ := info_parts info_byte
  have HI := Lib.hid hi
  have HZ0 := Lib.hid hz0
  have HZ1 := Lib.hid hz1
  have HZ2 := Lib.hid hz2
  have HR := Lib.hid hr
  have HR2 := Lib.hid hr2
  have h1 : (m.length : Int) ≤ 65535 := by omega
  have h2 := tailB_len (ofn m.length) 2 (by omega)
  have H2 := Lib.hid h2
  have h3 := iu_ofn m.length (by omega)
  have H3 := Lib.hid h3
  clear hi hz0 hz1 hz2 hr hr2 h2 h3
  go_enter Try.func16, Try.ntmps16
  go_wp2_with fail
  refine (rappuint_n A l c _ (ofn m.length) H3.out.symm 2 2 rfl (by omega) _ HR.out).mono ?_
  rintro e w1 ⟨v1, rfl, hob1, hb1⟩
  go_wp2_with (first
    | (at_builtin; refine wpList_append_ob rfl (.tmp 13) (.tmp 14) 22 rfl w.heap.size 5 i0 Try.underlying22 HI.out HZ0.out HZ1.out HZ2.out v1 (l ++ tailB (ofn m.length) 2) rfl hob1 _ A2 m m.length c2 rfl rfl (carry HR2.out (Fr.refl w) ((Fr.refl w).next hb1)) (by (have := H2.out; simp; omega)) hb1.size ?_; intro v2 w2 hob2 hg2 hat2)
    | fail)
  go_ret2
  exact ⟨v2, rfl, hob2, hb1.grown hg2 hb1.size (fun k hk => hob1.own k hk)⟩

theorem ruint_yes_i (A : Option Addr) (l : List UInt8) (c : Nat) (p : Int) (q n : Nat) (hq : p = (q : Int)) (h1 : 1 ≤ n) (h8 : n ≤ 8) (hp : q + n ≤ l.length) (hm : l.length ≤ 281474976710656) (w : World) (hr : RB w w.heap.size A l) {x : BitVec 64} (hx : Hid (uintV ((l.drop q).take n) = x)) (m : Int) (hm2 : m = (n : Int)) :
    Calls Try.prog 10 #[.slice A l.length c, .int .i64 p, .int .i64 m] w fun e w' => e = .returned (.tuple #[U x, .bool true]) ∧ w = w' := by
  subst hq
  subst hm2
  have h := hx.out
  subst h
  exact ruint_yes A l c q n h1 h8 hp hm w hr

theorem rbytes_no1 (A : Option Addr) (l : List UInt8) (c : Nat) (p : Int) (h : p < 0 ∨ (l.length : Int) - 2 < p) (hm : l.length ≤ 281474976710656) (w : World) :
    Calls Try.prog 18 #[.slice A l.length c, .int .i64 p] w fun e w' => e = .returned (.tuple #[.slice none 0 0, .int .i64 0, .bool false]) ∧ w = w' := by
  go_enter Try.func18, Try.ntmps18
  go_wp2_with fail
  refine (ruint_no A l c p 2 (by omega) hm _).mono ?_
  rintro e w1 ⟨rfl, rfl⟩
  go_wp2
  go_ret3
  exact ⟨rfl, rfl⟩

set_option maxHeartbeats 1000000 in
theorem rbytes_no2 (A : Option Addr) (l : List UInt8) (c : Nat) (q : Nat) (h : q + 2 ≤ l.length) (h2 : l.length < q + 2 + lenAt l q) (hm : l.length ≤ 281474976710656) (w : World) (hr : RB w w.heap.size A l) :
    Calls Try.prog 18 #[.slice A l.length c, .int .i64 q] w fun e w' => e = .returned (.tuple #[.slice none 0 0, .int .i64 0, .bool false]) ∧ w = w' := by
  obtain ⟨x, hx⟩ : ∃ x, uintV ((l.drop q).take 2) = x := ⟨_, rfl⟩
  obtain ⟨hl, hl2⟩ := lenAt_iu l q h
  rw [hx] at hl
  have HX := Lib.hid hx
  have HR := Lib.hid hr
  clear hx hr
  generalize lenAt l q = M at *
  have k1 : (l.length : Int) - (q : Int) - 2 < (M : Int) := by omega
  have k2 : (l.length : Int) ≤ 281474976710656 := by omega
  have k3 : (q : Int) + 2 ≤ (l.length : Int) := by omega
  have k4 : (M : Int) ≤ 65535 := by omega
  go_enter Try.func18, Try.ntmps18
  go_wp2_with fail
  refine (ruint_yes_i A l c _ q 2 rfl (by omega) (by omega) h hm _ HR.out HX _ rfl).mono ?_
  rintro e w1 ⟨rfl, rfl⟩
  go_wp2
  go_ret3
  exact ⟨rfl, rfl⟩

set_option maxHeartbeats 1000000 in
theorem rbytes_yes (A : Option Addr) (l : List UInt8) (c : Nat) (q : Nat) (h : q + 2 + lenAt l q ≤ l.length) (hc : l.length ≤ c) (hm : l.length ≤ 281474976710656) (w : World) (hr : RB w w.heap.size A l) :
    Calls Try.prog 18 #[.slice A l.length c, .int .i64 q] w (RetOBat w 5 ((l.drop (q + 2)).take (lenAt l q)) (q + 2 + lenAt l q)) := by
  obtain ⟨x, hx⟩ : ∃ x, uintV ((l.drop q).take 2) = x := ⟨_, rfl⟩
  obtain ⟨hl, hl2⟩ := lenAt_iu l q (by omega)
  obtain ⟨i0, hi, hz0, hz1, hz2⟩ := info_parts info_byte
  have hsl := fun (lo hi' : Int) (ha : lo = ((q + 2 : Nat) : Int)) (hb : hi' = ((q + 2 + lenAt l q : Nat) : Int)) (W : World) => run_slice_range (P := Try.prog) Try.underlying22 hi hz1 A l.length c lo hi' (q + 2) (q + 2 + lenAt l q) ha hb (by omega) (by omega) W
  have hsl2 := hsl ((q : Int) + 2) ((q : Int) + 2 + (lenAt l q : Int)) (by omega) (by omega)
  have hpart := rb_part hr (q + 2) (lenAt l q) c hc
  have hplen : ((l.drop (q + 2)).take (lenAt l q)).length = lenAt l q := part_len l (q + 2) _ (by omega)
  generalize (if c = q + 2 then A else A.map (·.add (q + 2))) = A' at hsl2 hpart
  have e1 : q + 2 + lenAt l q - (q + 2) = lenAt l q := by omega
  rw [e1] at hsl2
  rw [hx] at hl
  have HX := Lib.hid hx
  have HR := Lib.hid hr
  have HP := Lib.hid hpart
  have HL := Lib.hid hplen
  have HI := Lib.hid hi
  have HZ0 := Lib.hid hz0
  have HZ1 := Lib.hid hz1
  have HZ2 := Lib.hid hz2
  clear hx hr hsl hpart hplen e1 hi hz0 hz1 hz2
  generalize lenAt l q = M at *
  have k1 : (M : Int) ≤ (l.length : Int) - (q : Int) - 2 := by omega
  have k2 : (l.length : Int) ≤ 281474976710656 := by omega
  have k3 : (q : Int) + 2 ≤ (l.length : Int) := by omega
  have k4 : (M : Int) ≤ 65535 := by omega
  go_enter Try.func18, Try.ntmps18
  go_wp2_with fail
  refine (ruint_yes_i A l c _ q 2 rfl (by omega) (by omega) (by omega) hm _ HR.out HX _ rfl).mono ?_
  rintro e w1 ⟨rfl, rfl⟩
  have hob0 := ob_empty w 5 rfl
  have hF0 := (Fr.refl w).alloc (.cells #[] 5)
  go_wp2_with (first
    | (at_builtin; refine wpList_append_ob rfl (.tmp 33) (.tmp 38) 22 rfl w.heap.size 5 i0 Try.underlying22 HI.out HZ0.out HZ1.out HZ2.out _ [] rfl hob0 _ A' ((l.drop (q + 2)).take M) M _ rfl HL.out (HP.out.keep hF0.1) (by (have : ([] : List UInt8).length = 0 := rfl; have := HL.out; omega)) (by simp) ?_; intro v2 w2 hob2 hg2 hat2; have hF2 := hF0.grown hg2 (fun k hk => hob0.own k hk))
    | fail)
  go_ret3
  exact ⟨v2, by go_num, nil_ob2 hob2, hF2.1⟩
end Go.Proofs.Ytnpbohndhgnfjaa
