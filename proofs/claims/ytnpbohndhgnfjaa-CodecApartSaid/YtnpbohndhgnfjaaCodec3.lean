/-
  The program's codec: byte strings behind their length, written and read.
-/
import Derived.Test.YtnpbohndhgnfjaaCodec2
namespace Go.Proofs.Ytnpbohndhgnfjaa
open Go.ChangeShapes Go.WideShapes Go.ChangeAt Go.RowKit Go.Fl

theorem appbytes_no (A A2 : Option Addr) (l m : List UInt8) (c c2 : Nat) (h : 65535 < m.length) (hm : m.length ≤ 281474976710656) (w : World) :
    Calls Try.prog 15 #[.slice A l.length c, .slice A2 m.length c2] w fun e w' => e = .returned (.tuple #[.slice none 0 0, .bool false]) ∧ w = w' := by
  have h1 : (65535 : Int) < (m.length : Int) := by omega
  go_enter Try.func15, Try.ntmps15
  go_wp2
  go_ret2
  exact ⟨rfl, rfl⟩

set_option maxHeartbeats 1000000 in
theorem appbytes_yes (A A2 : Option Addr) (l m : List UInt8) (c c2 : Nat) (h : m.length ≤ 65535) (hl : l.length + 65545 ≤ 160000000000000) (w : World) (hr : RB w w.heap.size A l) (hr2 : RB w w.heap.size A2 m) :
    Calls Try.prog 15 #[.slice A l.length c, .slice A2 m.length c2] w (RetOBok w 5 (l ++ tailB (ofn m.length) 2 ++ m)) := by
  obtain ⟨i0, hi, hz0, hz1, hz2⟩ := info_parts info_byte
  have HI := Lib.hid hi
  have HZ0 := Lib.hid hz0
  have HZ1 := Lib.hid hz1
  have HZ2 := Lib.hid hz2
  have HR := Lib.hid hr
  have HR2 := Lib.hid hr2
  have h1 : (m.length : Int) ≤ 65535 := by omega
  have H2 := Lib.hid (tailB_len (ofn m.length) 2 (by omega))
  have H3 := Lib.hid (iu_ofn m.length (by omega))
  clear hi hz0 hz1 hz2 hr hr2
  go_enter Try.func15, Try.ntmps15
  go_wp2_with (first
    | (go_at_call 30; refine (room_any A l c _ (2 + m.length) (by go_num) (by omega) _ HR.out).mono ?_; rintro e w1 ⟨v1, rfl, hob1, hb1⟩; have hF1 := (Fr.refl w).next hb1)
    | (go_at_call 29; refine (put_any (w0 := w) v1 l _ (ofn m.length) H3.out.symm _ 2 rfl (by omega) (by omega) _ hF1 hob1).mono ?_; rintro e w2 ⟨v2, rfl, hob2, hF2⟩)
    | (at_builtin; refine wpList_append_ob rfl (.tmp 20) (.tmp 21) 22 rfl w.heap.size 5 i0 Try.underlying22 HI.out HZ0.out HZ1.out HZ2.out v2 (l ++ tailB (ofn m.length) 2) rfl hob2 _ A2 m m.length c2 rfl rfl (HR2.out.keep hF2.1) (by have := H2.out; simp; omega) (by have := hF2.2; omega) ?_; intro v3 w3 hob3 hg3 hat3)
    | fail)
  go_ret2
  exact ⟨v3, rfl, hob3, (hF2.grown hg3 (fun k hk => hob2.own k hk)).1⟩

theorem uint_yes_i (A : Option Addr) (l : List UInt8) (c : Nat) (p : Int) (q n : Nat) (hq : p = (q : Int)) (h1 : 1 ≤ n) (h8 : n ≤ 8) (hp : q + n ≤ l.length) (hc : l.length ≤ c) (hm : l.length ≤ 281474976710656) (w : World) (hr : RB w w.heap.size A l) {x : BitVec 64} (hx : Hid (uintV ((l.drop q).take n) = x)) (m : Int) (hm2 : m = (n : Int)) :
    Calls Try.prog 9 #[.slice A l.length c, .int .i64 p, .int .i64 m] w fun e w' => e = .returned (.tuple #[U x, .bool true]) ∧ w = w' := by
  subst hq
  subst hm2
  have h := hx.out
  subst h
  exact uint_yes A l c q n h1 h8 hp hc hm w hr

theorem bytes_no1 (A : Option Addr) (l : List UInt8) (c : Nat) (p : Int) (h : p < 0 ∨ (l.length : Int) - 2 < p) (hm : l.length ≤ 281474976710656) (hp : I64 p) (w : World) :
    Calls Try.prog 17 #[.slice A l.length c, .int .i64 p] w fun e w' => e = .returned (.tuple #[.slice none 0 0, .int .i64 0, .bool false]) ∧ w = w' := by
  go_enter Try.func17, Try.ntmps17
  go_wp2_with fail
  refine (uint_no A l c p 2 (by omega) hm hp _).mono ?_
  rintro e w1 ⟨rfl, rfl⟩
  go_wp2
  go_ret3
  exact ⟨rfl, rfl⟩

set_option maxHeartbeats 1000000 in
theorem bytes_no2 (A : Option Addr) (l : List UInt8) (c : Nat) (q : Nat) (h : q + 2 ≤ l.length) (h2 : l.length < q + 2 + lenAt l q) (hc : l.length ≤ c) (hm : l.length ≤ 281474976710656) (w : World) (hr : RB w w.heap.size A l) :
    Calls Try.prog 17 #[.slice A l.length c, .int .i64 q] w fun e w' => e = .returned (.tuple #[.slice none 0 0, .int .i64 0, .bool false]) ∧ w = w' := by
  obtain ⟨x, hx⟩ : ∃ x, uintV ((l.drop q).take 2) = x := ⟨_, rfl⟩
  obtain ⟨hl, hl2⟩ := lenAt_iu l q h
  rw [hx] at hl
  have HX := Lib.hid hx
  have HR := Lib.hid hr
  clear hx hr
  generalize lenAt l q = M at *
  have k1 : (l.length : Int) - (q : Int) - 2 < (M : Int) := by omega
  have k2 : (l.length : Int) ≤ 281474976710656 := by omega
  have k3 : (q : Int) + 2 ≤ (l.length : Int) := by omega
  have k4 : (M : Int) ≤ 65535 := by omega
  go_enter Try.func17, Try.ntmps17
  go_wp2_with (first
    | (go_at_call 9; refine (uint_yes_i A l c _ q 2 rfl (by omega) (by omega) h hc hm _ HR.out HX _ rfl).mono ?_; rintro e w1 ⟨rfl, rfl⟩)
    | (go_at_call 28; refine (has_no A l c _ _ hm ⟨by omega, by omega⟩ (by omega) _).mono ?_; rintro e w1 ⟨rfl, rfl⟩)
    | fail)
  go_ret3
  exact ⟨rfl, rfl⟩

set_option maxHeartbeats 1000000 in
theorem bytes_yes (A : Option Addr) (l : List UInt8) (c : Nat) (q : Nat) (h : q + 2 + lenAt l q ≤ l.length) (hc : l.length ≤ c) (hm : l.length ≤ 281474976710656) (w : World) (hr : RB w w.heap.size A l) :
    Calls Try.prog 17 #[.slice A l.length c, .int .i64 q] w (RetOBat w 5 ((l.drop (q + 2)).take (lenAt l q)) (q + 2 + lenAt l q)) := by
  obtain ⟨x, hx⟩ : ∃ x, uintV ((l.drop q).take 2) = x := ⟨_, rfl⟩
  obtain ⟨hl, hl2⟩ := lenAt_iu l q (by omega)
  obtain ⟨i0, hi, hz0, hz1, hz2⟩ := info_parts info_byte
  have hsl := fun (X : Int) (hX : X = ((q + 2 : Nat) : Int)) (W : World) => by
    have h := run_slice_from (P := Try.prog) Try.underlying22 hi hz1 A l.length c (q + 2) (by omega) W
    rw [← hX] at h
    exact h
  have hsl2 := hsl ((q : Int) + 2) (by omega)
  have hpart : RB w w.heap.size (if c = q + 2 then A else A.map (·.add (q + 2))) (l.drop (q + 2)) := fun hp => by
    rw [if_neg (by simp at hp; omega)]
    exact hr.drop (q + 2) hp
  have hplen : ((l.drop (q + 2)).take (lenAt l q)).length = lenAt l q := part_len l (q + 2) _ (by omega)
  generalize (if c = q + 2 then A else A.map (·.add (q + 2))) = A' at hsl2 hpart
  obtain ⟨N, hN⟩ : ∃ N, l.length - (q + 2) = N := ⟨_, rfl⟩
  rw [hN] at hsl2
  obtain ⟨cs, hcs⟩ : ∃ cs, cs = ((l.drop (q + 2)).take (lenAt l q)).map B := ⟨_, rfl⟩
  have hcl : cs.length = lenAt l q := by rw [hcs, List.length_map, hplen]
  have HN : Hid (cs.length = Nat.min N (lenAt l q)) := Lib.hid (by rw [hcl]; exact (Nat.min_eq_right (by omega)).symm)
  have H1 : Hid (∀ v ∈ cs, v.oneCell' = true) := Lib.hid (by rw [hcs]; exact bytes_one _)
  have HCS := Lib.hid hcs
  rw [hx] at hl
  have HX := Lib.hid hx
  have HR := Lib.hid hr
  have HP := Lib.hid (hpart.take (lenAt l q))
  have HL := Lib.hid hplen
  have HI := Lib.hid hi
  have HZ0 := Lib.hid hz0
  have HZ1 := Lib.hid hz1
  have HZ2 := Lib.hid hz2
  clear hx hr hsl hpart hplen hi hz0 hz1 hz2 hcs
  generalize lenAt l q = M at *
  have k1 : (M : Int) ≤ (l.length : Int) - (q : Int) - 2 := by omega
  have k2 : (l.length : Int) ≤ 281474976710656 := by omega
  have k3 : (q : Int) + 2 ≤ (l.length : Int) := by omega
  have k4 : (M : Int) ≤ 65535 := by omega
  go_enter Try.func17, Try.ntmps17
  go_wp2_with (first
    | (go_at_call 9; refine (uint_yes_i A l c _ q 2 rfl (by omega) (by omega) (by omega) hc hm _ HR.out HX _ rfl).mono ?_; rintro e w1 ⟨rfl, rfl⟩)
    | (go_at_call 28; refine (has_yes A l c _ _ hm (by omega) (by omega) (by omega) _).mono ?_; rintro e w1 ⟨rfl, rfl⟩)
    | (at_make; refine wpList_make_sl rfl _ _ 22 rfl 5 i0 _ 1 1 Try.underlying22 HI.out HZ0.out HZ1.out HZ2.out _ _ _ _ M M rfl rfl (by go_num) (by go_num) (by omega) (by omega) (by omega) ?_; intro Z w1 hZ hz hF1)
    | (refine wpList_copy_splice rfl (.tmp 29) (.tmp 32) 22 22 rfl 5 Try.underlying22 byte_info _ _ _ _ _ _ rfl rfl w.heap.size 0 Z 5 hz cs HN.out (fun hp => ⟨rfl, rb_src HP.out hF1.1 HCS.out hp⟩) (by (have := hZ.out; omega)) H1.out w.heap.size _ (Below.refl _ _) (Nat.le_refl _) ?_; intro w2 HG hb2)
    | fail)
  go_ret3
  exact ⟨_, by go_num, ob_splice HG hZ HCS.out HL.out.symm (Nat.le_refl _) (by omega) (Nat.le_refl _), hF1.1.trans hb2⟩
end Go.Proofs.Ytnpbohndhgnfjaa
