/-
  5 texts in one file: Codec2, R1Of, R1Sum, R1Tag, Chain.
-/
import Derived.Deep.QuietTactic
import Derived.BigQuiet
import Derived.Test.YtjghengkpbokaaaG2
import Derived.Test.YtjghengkpbokaaaG3

/-
  The program's codec: putUint (bytes of a number appended in place) and AppendUint.
-/
namespace Go.Proofs.Ytjghengkpbokaaa
open Go.ChangeShapes Go.WideShapes Go.ChangeAt Go.RowKit Go.Fl

set_option maxRecDepth 10000 in
set_option maxHeartbeats 2000000 in
/-- putUint: the lowest bytes of the number appended to bytes of the call's own. -/
theorem put_any {w0 : World} (v : Value) (l : List UInt8) (X : Int) (x : BitVec 64) (hX : X = iu x) (K : Int) (k : Nat) (hK : K = (k : Int)) (hk : k ≤ 8) (hm : l.length + 8 ≤ 160000000000000) (w : World) (hF : Fr w0 0 w) (ho : OB w w0.heap.size 5 v l) :
    Calls Try.prog 60 #[v, .int .u64 X, .int .i64 K] w fun e w' => ∃ v', e = .returned v' ∧ OB w' w0.heap.size 5 v' (l ++ tailB x k) ∧ Fr w0 0 w' := by
  subst hX hK
  obtain ⟨i0, hi, hz0, hz1, hz2⟩ := info_parts info_byte
  have HI := Lib.hid hi
  have HZ0 := Lib.hid hz0
  have HZ1 := Lib.hid hz1
  have HZ2 := Lib.hid hz2
  have HT := Lib.hid (tailB_len x k hk)
  have xlo := iu_lo x
  have xhi := iu_hi x
  have kint : (k : Int) ≤ 8 := by omega
  clear hi hz0 hz1 hz2
  go_enter Try.func60, Try.ntmps60
  go_wp2
  go_loopw [0, 9] (fun v i wr => ∃ j : Nat, j ≤ k ∧ i = .int .i64 (j : Int) ∧ OB wr w0.heap.size 5 v (l ++ (tailB x k).take j) ∧ Fr w0 0 wr) (fun _ i _ => k - (intOf i).toNat)
  case atStart => exact ⟨0, Nat.zero_le _, rfl, by rw [List.take_zero, List.append_nil]; exact ho, hF⟩
  case round =>
    clear ho hF
    obtain ⟨j, hj, rfl, hob, hF⟩ := hrel
    by_cases hj0 : j = k
    · subst hj0
      go_wp2
      go_ret
      exact ⟨_, rfl, by rw [List.take_of_length_le (by rw [HT.out]; exact Nat.le_refl _)] at hob; exact hob, hF⟩
    · have s1 : (j : Int) < (k : Int) := by omega
      obtain ⟨d, hd⟩ : ∃ d : Nat, j + d + 1 = k := ⟨k - j - 1, by omega⟩
      have hlen : (l ++ (tailB x k).take j).length + 1 ≤ 160000000000000 := by have := HT.out; simp; omega
      have HLEN := Lib.hid hlen
      obtain ⟨b0, b1, b2, b3, b4, b5, b6, b7⟩ := iu_bytes x
      have hds : d = 0 ∨ d = 1 ∨ d = 2 ∨ d = 3 ∨ d = 4 ∨ d = 5 ∨ d = 6 ∨ d = 7 := by omega
      have hdi : (k : Int) - 1 - (j : Int) = (d : Int) := by omega
      have HD := Lib.hid hd
      clear hlen
      rcases hds with rfl | rfl | rfl | rfl | rfl | rfl | rfl | rfl
      · have HST := Lib.hid (tailB_up x k j 0 7 hk hd rfl)
        have hdj : (k : Int) - 1 - (j : Int) = 0 := by omega
        clear hd hdi
        go_wp2_with (first
          | (at_builtin; refine wpList_append_ob rfl (.tmp 12) (.tmp 21) 22 rfl w0.heap.size 5 i0 Try.underlying22 HI.out HZ0.out HZ1.out HZ2.out _ (l ++ (tailB x k).take j) rfl (hob.keep ((Below.refl _ _).alloc (Nat.le_refl _) _)) _ (some ⟨wr.heap.size, 0, none⟩) [nb x 7] 1 1 rfl rfl (rb_build wr 5 (nb x 7)) HLEN.out (by (have := hF.2; simp; omega)) ?_; intro v2 w2 hob2 hg2 hat2; have hF2 := ((hF.alloc _).grown hg2 (fun k hk => hob.own k hk)).le (Nat.zero_le _); clear hg2 hat2)
          | fail)
        go_roundw
        case rel => exact ⟨j + 1, by omega, by go_num, by rw [List.append_assoc, HST.out] at hob2; exact hob2, hF2⟩
        case measure => simp [intOf]; omega
      · have HST := Lib.hid (tailB_up x k j 1 6 hk hd rfl)
        have hdj : (k : Int) - 1 - (j : Int) = 1 := by omega
        clear hd hdi
        go_wp2_with (first
          | (at_builtin; refine wpList_append_ob rfl (.tmp 12) (.tmp 21) 22 rfl w0.heap.size 5 i0 Try.underlying22 HI.out HZ0.out HZ1.out HZ2.out _ (l ++ (tailB x k).take j) rfl (hob.keep ((Below.refl _ _).alloc (Nat.le_refl _) _)) _ (some ⟨wr.heap.size, 0, none⟩) [nb x 6] 1 1 rfl rfl (rb_build wr 5 (nb x 6)) HLEN.out (by (have := hF.2; simp; omega)) ?_; intro v2 w2 hob2 hg2 hat2; have hF2 := ((hF.alloc _).grown hg2 (fun k hk => hob.own k hk)).le (Nat.zero_le _); clear hg2 hat2)
          | fail)
        go_roundw
        case rel => exact ⟨j + 1, by omega, by go_num, by rw [List.append_assoc, HST.out] at hob2; exact hob2, hF2⟩
        case measure => simp [intOf]; omega
      · have HST := Lib.hid (tailB_up x k j 2 5 hk hd rfl)
        have hdj : (k : Int) - 1 - (j : Int) = 2 := by omega
        clear hd hdi
        go_wp2_with (first
          | (at_builtin; refine wpList_append_ob rfl (.tmp 12) (.tmp 21) 22 rfl w0.heap.size 5 i0 Try.underlying22 HI.out HZ0.out HZ1.out HZ2.out _ (l ++ (tailB x k).take j) rfl (hob.keep ((Below.refl _ _).alloc (Nat.le_refl _) _)) _ (some ⟨wr.heap.size, 0, none⟩) [nb x 5] 1 1 rfl rfl (rb_build wr 5 (nb x 5)) HLEN.out (by (have := hF.2; simp; omega)) ?_; intro v2 w2 hob2 hg2 hat2; have hF2 := ((hF.alloc _).grown hg2 (fun k hk => hob.own k hk)).le (Nat.zero_le _); clear hg2 hat2)
          | fail)
        go_roundw
        case rel => exact ⟨j + 1, by omega, by go_num, by rw [List.append_assoc, HST.out] at hob2; exact hob2, hF2⟩
        case measure => simp [intOf]; omega
      · have HST := Lib.hid (tailB_up x k j 3 4 hk hd rfl)
        have hdj : (k : Int) - 1 - (j : Int) = 3 := by omega
        clear hd hdi
        go_wp2_with (first
          | (at_builtin; refine wpList_append_ob rfl (.tmp 12) (.tmp 21) 22 rfl w0.heap.size 5 i0 Try.underlying22 HI.out HZ0.out HZ1.out HZ2.out _ (l ++ (tailB x k).take j) rfl (hob.keep ((Below.refl _ _).alloc (Nat.le_refl _) _)) _ (some ⟨wr.heap.size, 0, none⟩) [nb x 4] 1 1 rfl rfl (rb_build wr 5 (nb x 4)) HLEN.out (by (have := hF.2; simp; omega)) ?_; intro v2 w2 hob2 hg2 hat2; have hF2 := ((hF.alloc _).grown hg2 (fun k hk => hob.own k hk)).le (Nat.zero_le _); clear hg2 hat2)
          | fail)
        go_roundw
        case rel => exact ⟨j + 1, by omega, by go_num, by rw [List.append_assoc, HST.out] at hob2; exact hob2, hF2⟩
        case measure => simp [intOf]; omega
      · have HST := Lib.hid (tailB_up x k j 4 3 hk hd rfl)
        have hdj : (k : Int) - 1 - (j : Int) = 4 := by omega
        clear hd hdi
        go_wp2_with (first
          | (at_builtin; refine wpList_append_ob rfl (.tmp 12) (.tmp 21) 22 rfl w0.heap.size 5 i0 Try.underlying22 HI.out HZ0.out HZ1.out HZ2.out _ (l ++ (tailB x k).take j) rfl (hob.keep ((Below.refl _ _).alloc (Nat.le_refl _) _)) _ (some ⟨wr.heap.size, 0, none⟩) [nb x 3] 1 1 rfl rfl (rb_build wr 5 (nb x 3)) HLEN.out (by (have := hF.2; simp; omega)) ?_; intro v2 w2 hob2 hg2 hat2; have hF2 := ((hF.alloc _).grown hg2 (fun k hk => hob.own k hk)).le (Nat.zero_le _); clear hg2 hat2)
          | fail)
        go_roundw
        case rel => exact ⟨j + 1, by omega, by go_num, by rw [List.append_assoc, HST.out] at hob2; exact hob2, hF2⟩
        case measure => simp [intOf]; omega
      · have HST := Lib.hid (tailB_up x k j 5 2 hk hd rfl)
        have hdj : (k : Int) - 1 - (j : Int) = 5 := by omega
        clear hd hdi
        go_wp2_with (first
          | (at_builtin; refine wpList_append_ob rfl (.tmp 12) (.tmp 21) 22 rfl w0.heap.size 5 i0 Try.underlying22 HI.out HZ0.out HZ1.out HZ2.out _ (l ++ (tailB x k).take j) rfl (hob.keep ((Below.refl _ _).alloc (Nat.le_refl _) _)) _ (some ⟨wr.heap.size, 0, none⟩) [nb x 2] 1 1 rfl rfl (rb_build wr 5 (nb x 2)) HLEN.out (by (have := hF.2; simp; omega)) ?_; intro v2 w2 hob2 hg2 hat2; have hF2 := ((hF.alloc _).grown hg2 (fun k hk => hob.own k hk)).le (Nat.zero_le _); clear hg2 hat2)
          | fail)
        go_roundw
        case rel => exact ⟨j + 1, by omega, by go_num, by rw [List.append_assoc, HST.out] at hob2; exact hob2, hF2⟩
        case measure => simp [intOf]; omega
      · have HST := Lib.hid (tailB_up x k j 6 1 hk hd rfl)
        have hdj : (k : Int) - 1 - (j : Int) = 6 := by omega
        clear hd hdi
        go_wp2_with (first
          | (at_builtin; refine wpList_append_ob rfl (.tmp 12) (.tmp 21) 22 rfl w0.heap.size 5 i0 Try.underlying22 HI.out HZ0.out HZ1.out HZ2.out _ (l ++ (tailB x k).take j) rfl (hob.keep ((Below.refl _ _).alloc (Nat.le_refl _) _)) _ (some ⟨wr.heap.size, 0, none⟩) [nb x 1] 1 1 rfl rfl (rb_build wr 5 (nb x 1)) HLEN.out (by (have := hF.2; simp; omega)) ?_; intro v2 w2 hob2 hg2 hat2; have hF2 := ((hF.alloc _).grown hg2 (fun k hk => hob.own k hk)).le (Nat.zero_le _); clear hg2 hat2)
          | fail)
        go_roundw
        case rel => exact ⟨j + 1, by omega, by go_num, by rw [List.append_assoc, HST.out] at hob2; exact hob2, hF2⟩
        case measure => simp [intOf]; omega
      · have HST := Lib.hid (tailB_up x k j 7 0 hk hd rfl)
        have hdj : (k : Int) - 1 - (j : Int) = 7 := by omega
        clear hd hdi
        go_wp2_with (first
          | (at_builtin; refine wpList_append_ob rfl (.tmp 12) (.tmp 21) 22 rfl w0.heap.size 5 i0 Try.underlying22 HI.out HZ0.out HZ1.out HZ2.out _ (l ++ (tailB x k).take j) rfl (hob.keep ((Below.refl _ _).alloc (Nat.le_refl _) _)) _ (some ⟨wr.heap.size, 0, none⟩) [nb x 0] 1 1 rfl rfl (rb_build wr 5 (nb x 0)) HLEN.out (by (have := hF.2; simp; omega)) ?_; intro v2 w2 hob2 hg2 hat2; have hF2 := ((hF.alloc _).grown hg2 (fun k hk => hob.own k hk)).le (Nat.zero_le _); clear hg2 hat2)
          | fail)
        go_roundw
        case rel => exact ⟨j + 1, by omega, by go_num, by rw [List.append_assoc, HST.out] at hob2; exact hob2, hF2⟩
        case measure => simp [intOf]; omega

set_option maxRecDepth 10000 in
set_option maxHeartbeats 1000000 in
theorem appuint_any (A : Option Addr) (l : List UInt8) (c : Nat) (x : BitVec 64) (n : Int) (hm : l.length + 8 ≤ 160000000000000) (hn : I64 n) (w : World) (hr : RB w w.heap.size A l) :
    Calls Try.prog 38 #[.slice A l.length c, U x, .int .i64 n] w (RetOB w 5 (appUintF l x n)) := by
  obtain ⟨k, hk⟩ : ∃ k, clampW n = k := ⟨_, rfl⟩
  have hk8 : k ≤ 8 := by have := clampW_cases n; omega
  have e : appUintF l x n = l ++ tailB x k := by unfold appUintF; rw [hk]
  rw [e]
  have hn1 := hn.1
  have hn2 := hn.2
  have HR := Lib.hid hr
  have hc : (n < 0 ∧ k = 0) ∨ (8 < n ∧ k = 8) ∨ (0 ≤ n ∧ n ≤ 8 ∧ (k : Int) = n) := by have := clampW_cases n; omega
  clear hr hk hn e
  rcases hc with ⟨h1, rfl⟩ | ⟨h1, rfl⟩ | ⟨h1, h2, h3⟩
  · go_enter Try.func38, Try.ntmps38
    go_wp2_with (first
      | (go_at_call 61; refine (room_any A l c _ 0 (by omega) (by omega) _ HR.out).mono ?_; rintro e w1 ⟨v1, rfl, hob1, hb1⟩; have hF1 := (Fr.refl w).next hb1)
      | (go_at_call 60; refine (put_any (w0 := w) v1 l _ x rfl _ 0 (by omega) (by omega) hm _ hF1 hob1).mono ?_; rintro e w2 ⟨v2, rfl, hob2, hF2⟩)
      | fail)
    go_ret
    exact ⟨_, rfl, hob2, hF2.1⟩
  · go_enter Try.func38, Try.ntmps38
    go_wp2_with (first
      | (go_at_call 61; refine (room_any A l c _ 8 (by omega) (by omega) _ HR.out).mono ?_; rintro e w1 ⟨v1, rfl, hob1, hb1⟩; have hF1 := (Fr.refl w).next hb1)
      | (go_at_call 60; refine (put_any (w0 := w) v1 l _ x rfl _ 8 (by omega) (by omega) hm _ hF1 hob1).mono ?_; rintro e w2 ⟨v2, rfl, hob2, hF2⟩)
      | fail)
    go_ret
    exact ⟨_, rfl, hob2, hF2.1⟩
  · go_enter Try.func38, Try.ntmps38
    go_wp2_with (first
      | (go_at_call 61; refine (room_any A l c _ k (by omega) (by omega) _ HR.out).mono ?_; rintro e w1 ⟨v1, rfl, hob1, hb1⟩; have hF1 := (Fr.refl w).next hb1)
      | (go_at_call 60; refine (put_any (w0 := w) v1 l _ x rfl _ k (by omega) (by omega) hm _ hF1 hob1).mono ?_; rintro e w2 ⟨v2, rfl, hob2, hF2⟩)
      | fail)
    go_ret
    exact ⟨_, rfl, hob2, hF2.1⟩
end Go.Proofs.Ytjghengkpbokaaa

/-
  forkledgerref1.Of.
-/
namespace Go.Proofs.Ytjghengkpbokaaa
open Go.ChangeShapes Go.WideShapes Go.ChangeAt Go.RowKit Go.Fl

theorem rof_any (x : BitVec 64) (w : World) :
    Calls Try.prog 56 #[U x] w fun e w' => e = .returned (nm x) ∧ Below w.heap.size w w' := by
  have lo := iu_lo x
  have hi := iu_hi x
  go_enter Try.func56, Try.ntmps56
  go_wp2
  refine bodyPost_ret (v := nm x) ?_ rfl ⟨rfl, (Below.refl _ _).alloc (Nat.le_refl _) _⟩
  obtain ⟨b0, b1, b2, b3, b4, b5, b6, b7⟩ := iu_bytes x
  rw [b0, b1, b2, b3, b4, b5, b6, b7]
  simp [results, Try.results56, go_sem]
end Go.Proofs.Ytjghengkpbokaaa

/-
  forkledgerref1: rotl, mix, word and Sum.
-/
namespace Go.Proofs.Ytjghengkpbokaaa
open Go.ChangeShapes Go.WideShapes Go.ChangeAt Go.RowKit Go.Fl

attribute [local go_sem] bits_xor_iu bits_xor_iu_nat wrap_add_iu

theorem rrotl13_any (x : BitVec 64) (w : World) : Calls Try.prog 85 #[U x, .int .u64 13] w fun e w' => e = .returned (U (rot13 x)) ∧ w = w' := by
  have h0 := iu_lo x
  have h1 := iu_hi x
  go_enter Try.func85, Try.ntmps85
  go_wp2
  go_ret
  exact ⟨by rw [rot13_iu]; rfl, rfl⟩

theorem rrotl32_any (x : BitVec 64) (w : World) : Calls Try.prog 85 #[U x, .int .u64 32] w fun e w' => e = .returned (U (rot32 x)) ∧ w = w' := by
  have h0 := iu_lo x
  have h1 := iu_hi x
  go_enter Try.func85, Try.ntmps85
  go_wp2
  go_ret
  exact ⟨by rw [rot32_iu]; rfl, rfl⟩

theorem rmix_any (x y : BitVec 64) (w : World) : Calls Try.prog 78 #[U x, U y] w fun e w' => e = .returned (.tuple #[U (mixX x y), U (mixY x y)]) ∧ w = w' := by
  go_enter Try.func78, Try.ntmps78
  go_wp2_with fail
  refine (rrotl13_any _ _).mono ?_; rintro e w1 ⟨rfl, rfl⟩
  go_wp2_with fail
  refine (rrotl32_any _ _).mono ?_; rintro e w1 ⟨rfl, rfl⟩
  go_wp2_with fail
  go_ret2
  exact ⟨by rw [mixX_iu]; rfl, rfl⟩

theorem word_long (A : Option Addr) (l : List UInt8) (c : Nat) (hc : l.length ≤ c) (hm : c ≤ 9223372036854775807) (h8 : 8 ≤ l.length) (w : World) (hr : RB w w.heap.size A l) :
    Calls Try.prog 77 #[.slice A l.length c] w fun e w' => e = .returned (U (wordOf l)) ∧ Below w.heap.size w w' := by
  obtain ⟨g, off, rfl, hg, hcell⟩ := hr (by omega)
  have hcs : ∀ i, i < 8 → w.cell? ⟨g, off + i, none⟩ = some (B (nb (wordOf l) i)) := fun i hi => by
    rw [nb_wordOf l i hi, List.getD_eq_getElem?_getD, List.getElem?_eq_getElem (by omega)]
    exact hcell i _ (List.getElem?_eq_getElem _)
  clear hcell hr
  have c0 : w.cell? ⟨g, off, none⟩ = some (B (nb (wordOf l) 0)) := hcs 0 (by omega)
  have c1 := hcs 1 (by omega); have c2 := hcs 2 (by omega); have c3 := hcs 3 (by omega)
  have c4 := hcs 4 (by omega); have c5 := hcs 5 (by omega); have c6 := hcs 6 (by omega); have c7 := hcs 7 (by omega)
  clear hcs
  generalize wordOf l = x at *
  have l0 := ub_lo (nb x 0); have u0 := ub_hi (nb x 0)
  have l1 := ub_lo (nb x 1); have u1 := ub_hi (nb x 1)
  have l2 := ub_lo (nb x 2); have u2 := ub_hi (nb x 2)
  have l3 := ub_lo (nb x 3); have u3 := ub_hi (nb x 3)
  have l4 := ub_lo (nb x 4); have u4 := ub_hi (nb x 4)
  have l5 := ub_lo (nb x 5); have u5 := ub_hi (nb x 5)
  have l6 := ub_lo (nb x 6); have u6 := ub_hi (nb x 6)
  have l7 := ub_lo (nb x 7); have u7 := ub_hi (nb x 7)
  have i0 : (0 : Int) < (l.length : Int) := by omega
  have i1 : (1 : Int) < (l.length : Int) := by omega
  have i2 : (2 : Int) < (l.length : Int) := by omega
  have i3 : (3 : Int) < (l.length : Int) := by omega
  have i4 : (4 : Int) < (l.length : Int) := by omega
  have i5 : (5 : Int) < (l.length : Int) := by omega
  have i6 : (6 : Int) < (l.length : Int) := by omega
  have i7 : (7 : Int) < (l.length : Int) := by omega
  have i8 : (8 : Int) ≤ (l.length : Int) := by omega
  go_enter Try.func77, Try.ntmps77
  go_wp2
  go_quiet (fail)
  go_wp2
  go_ret
  exact ⟨by rw [or_bytes]; rfl, fl_drewN _ _ _⟩

set_option maxRecDepth 10000 in
set_option maxHeartbeats 1000000 in
theorem word_short (A : Option Addr) (l : List UInt8) (c : Nat) (_hc : l.length ≤ c) (_hm : c ≤ 9223372036854775807) (h8 : l.length < 8) (w : World) (hr : RB w w.heap.size A l) :
    Calls Try.prog 77 #[.slice A l.length c] w fun e w' => e = .returned (U (wordOf l)) ∧ Below w.heap.size w w' := by
  have i8 : (l.length : Int) < 8 := by omega
  go_enter Try.func77, Try.ntmps77
  go_wp2
  go_loop [3, 4] (fun v i => ∃ k : Nat, k ≤ l.length ∧ i = .int .i64 k ∧ v = .int .u64 (wsum l k)) (fun _ i => l.length - (intOf i).toNat)
  case atStart => exact ⟨0, by omega, rfl, rfl⟩
  case round =>
    obtain ⟨k, hk, rfl, rfl⟩ := hrel
    by_cases h : k < l.length
    · obtain ⟨g, off, rfl, hg, hcell⟩ := hr (by omega)
      have hk1 : (k : Int) < (l.length : Int) := by omega
      have hcc := hcell k _ (List.getElem?_eq_getElem h)
      have hgd : l.getD k 0 = l[k] := by rw [List.getD_eq_getElem?_getD, List.getElem?_eq_getElem h]; rfl
      have hs := wsum_step l k (by omega)
      rw [hgd] at hs
      have HS := Lib.hid hs
      clear hs hgd hcell hr
      have lo := ub_lo l[k]
      have hi := ub_hi l[k]
      generalize l[k] = b at *
      have : k = 0 ∨ k = 1 ∨ k = 2 ∨ k = 3 ∨ k = 4 ∨ k = 5 ∨ k = 6 := by omega
      rcases this with rfl | rfl | rfl | rfl | rfl | rfl | rfl
      all_goals try simp only [Nat.add_zero] at hcc
      all_goals go_wp2
      · go_round
        case rel => exact ⟨1, by omega, rfl, by (have hs := HS.out; simp at hs; rw [hs])⟩
        case measure => simp [intOf]; omega
      · go_round
        case rel => exact ⟨2, by omega, rfl, by (have hs := HS.out; simp at hs; rw [hs])⟩
        case measure => simp [intOf]; omega
      · go_round
        case rel => exact ⟨3, by omega, rfl, by (have hs := HS.out; simp at hs; rw [hs])⟩
        case measure => simp [intOf]; omega
      · go_round
        case rel => exact ⟨4, by omega, rfl, by (have hs := HS.out; simp at hs; rw [hs])⟩
        case measure => simp [intOf]; omega
      · go_round
        case rel => exact ⟨5, by omega, rfl, by (have hs := HS.out; simp at hs; rw [hs])⟩
        case measure => simp [intOf]; omega
      · go_round
        case rel => exact ⟨6, by omega, rfl, by (have hs := HS.out; simp at hs; rw [hs])⟩
        case measure => simp [intOf]; omega
      · go_round
        case rel => exact ⟨7, by omega, rfl, by (have hs := HS.out; simp at hs; rw [hs])⟩
        case measure => simp [intOf]; omega
    · obtain rfl : k = l.length := by omega
      go_wp2
      go_ret
      exact ⟨by rw [← wsum_more l 8 (by omega), wsum_all]; rfl, Below.refl _ _⟩

theorem word_any (A : Option Addr) (l : List UInt8) (c : Nat) (hc : l.length ≤ c) (hm : c ≤ 9223372036854775807) (w : World) (hr : RB w w.heap.size A l) :
    Calls Try.prog 77 #[.slice A l.length c] w fun e w' => e = .returned (U (wordOf l)) ∧ Below w.heap.size w w' := by
  by_cases h : 8 ≤ l.length
  · exact word_long A l c hc hm h w hr
  · exact word_short A l c hc hm (by omega) w hr

theorem word_n (A : Option Addr) (l : List UInt8) (n c : Nat) (hn : n = l.length) (hc : l.length ≤ c) (hm : c ≤ 9223372036854775807) (w : World) (hr : RB w w.heap.size A l) :
    Calls Try.prog 77 #[.slice A n c] w fun e w' => e = .returned (U (wordOf l)) ∧ Below w.heap.size w w' := by
  rw [hn]
  exact word_any A l c hc hm w hr

set_option maxRecDepth 10000 in
set_option maxHeartbeats 1000000 in
theorem rsum_any (A : Option Addr) (l : List UInt8) (c : Nat) (hc : l.length ≤ c) (hm : c ≤ 9223372036854775807) (hl : l.length ≤ 281474976710656) (w : World) (hr : RB w w.heap.size A l) :
    Calls Try.prog 67 #[.slice A l.length c] w fun e w' => e = .returned (nm (sumF l)) ∧ Below w.heap.size w w' := by
  have hz := Is.new w 30 #[B 0, B 0, B 0, B 0, B 0, B 0, B 0, B 0]
  have hF : Fr w 1 (w.alloc (.cells #[B 0, B 0, B 0, B 0, B 0, B 0, B 0, B 0] 30)) := (Fr.refl w).alloc _
  have hm' : (l.length : Int) ≤ 281474976710656 := by omega
  go_enter Try.func67, Try.ntmps67
  go_wp2
  go_loopw [3, 4, 5] (fun x y i wr => ∃ (t : St) (k : Nat), x = U t.1 ∧ y = U t.2 ∧ i = .int .i64 k ∧ k ≤ l.length + 7 ∧ Hid (absorbF t (l.drop k) = absorbF hash0 l) ∧ Fr w 1 wr ∧ Is wr w.heap.size 30 #[B 0, B 0, B 0, B 0, B 0, B 0, B 0, B 0]) (fun _ _ i _ => l.length + 7 - (intOf i).toNat)
  case atStart => exact ⟨hash0, 0, by simp [U, start_fst], by simp [U, start_snd], rfl, by omega, rfl, hF, hz⟩
  case round =>
    clear hz hF
    obtain ⟨t, k, rfl, rfl, rfl, hk, ha, hF, hz⟩ := hrel
    by_cases h : k < l.length
    · obtain ⟨g, off, rfl, hg, hcell⟩ := hr (by omega)
      have hcap : ¬ c = k := by omega
      have hk1 : (k : Int) ≤ (l.length : Int) := by omega
      have hrd : RB wr wr.heap.size (some ⟨g, off + k, none⟩) (l.drop k) := by
        have := ((carry hr (Fr.refl w) hF).drop k).mono (m := wr.heap.size) (by have := hF.2; omega)
        simpa [add_plain] using this
      have HRD := Lib.hid hrd
      have hnext := absorb_at hash0 t l k ha.out h
      have HN := Lib.hid hnext
      clear hrd ha hcell hnext
      go_wp2_with (first
        | (go_at_call 77; refine (word_n _ (l.drop k) _ _ (by simp) (by simp; omega) (by omega) _ HRD.out).mono ?_; rintro e w1 ⟨rfl, hb⟩; have hF1 := hF.next hb; have hz1 := hz.next hb; clear hb)
        | (go_at_call 78; refine (rmix_any _ _ _).mono ?_; rintro e w' ⟨rfl, rfl⟩))
      go_roundw
      case rel => exact ⟨roundS t (wordOf (l.drop k)), k + 8, by rw [roundS_fst], by rw [roundS_snd], by go_num, by omega, HN.out, hF1, hz1⟩
      case measure => simp [intOf]; omega
    · have ha' := ha.out
      rw [List.drop_eq_nil_of_le (by omega), absorbF_nil] at ha'
      obtain rfl := ha'
      clear ha
      go_wp2
      go_loop [3, 4, 6] (fun a b i => ∃ k : Nat, k ≤ 4 ∧ i = .int .i64 k ∧ a = U (mixN k ((absorbF hash0 l).1, (absorbF hash0 l).2 ^^^ ofn l.length)).1 ∧ b = U (mixN k ((absorbF hash0 l).1, (absorbF hash0 l).2 ^^^ ofn l.length)).2) (fun _ _ i => 4 - (intOf i).toNat)
      case atStart => exact ⟨0, by omega, rfl, rfl, rfl⟩
      case round =>
        obtain ⟨j, hj, rfl, rfl, rfl⟩ := hrel
        by_cases h : j < 4
        · go_wp2_with (go_at_call 78; refine (rmix_any _ _ _).mono ?_; rintro e w' ⟨rfl, rfl⟩)
          go_round
          case rel => exact ⟨j + 1, by omega, by go_num, by rw [mixN_fst], by rw [mixN_snd]⟩
          case measure => simp [intOf]; omega
        · obtain rfl : j = 4 := by omega
          go_wp2_with (first
            | (go_at_call 56; refine (rof_any _ _).mono ?_; rintro e w1 ⟨rfl, hb⟩; replace hz := hz.next hb; replace hF := hF.next hb; clear hb)
            | (refine wpList_store_is rfl 30 (.tmp 2) (.tmp 49) rfl w.heap.size 30 _ (nmC _) rfl rfl hz (nmC_size _) name_info (nmC_one _) ?_; intro w3 hz3 hb3))
          exact ret_is rfl w.heap.size 30 _ rfl hz3 Try.underlying30 rfl name_info rfl ⟨by rw [finF_eq, sumF_eq], hF.1.trans hb3⟩

theorem rsum_is {x : BitVec 64} (A : Option Addr) (l : List UInt8) (c : Nat) (hx : Hid (sumF l = x)) (hc : l.length ≤ c) (hm : c ≤ 9223372036854775807) (hl : l.length ≤ 281474976710656) (w : World) (hr : RB w w.heap.size A l) :
    Calls Try.prog 67 #[.slice A l.length c] w fun e w' => e = .returned (nm x) ∧ Below w.heap.size w w' := by
  have h := hx.out
  subst h
  exact rsum_any A l c hc hm hl w hr

theorem rsum_n {x : BitVec 64} (A : Option Addr) (l : List UInt8) (n c : Nat) (hn : Hid (n = l.length)) (hx : Hid (sumF l = x)) (hc : l.length ≤ c) (hm : c ≤ 9223372036854775807) (hl : l.length ≤ 281474976710656) (w : World) (hr : RB w w.heap.size A l) :
    Calls Try.prog 67 #[.slice A n c] w fun e w' => e = .returned (nm x) ∧ Below w.heap.size w w' := by
  rw [hn.out]
  exact rsum_is A l c hx hc hm hl w hr
end Go.Proofs.Ytjghengkpbokaaa

/-
  forkledgerref1.Tagged.
-/
namespace Go.Proofs.Ytjghengkpbokaaa
open Go.ChangeShapes Go.WideShapes Go.ChangeAt Go.RowKit Go.Fl

set_option maxRecDepth 10000 in
set_option maxHeartbeats 1000000 in
theorem rtagged_any {x : BitVec 64} (t : UInt8) (A : Option Addr) (l : List UInt8) (c : Nat) (hx : Hid (sumF (t :: l) = x)) (_hc : l.length ≤ c) (hm : l.length ≤ 140737488351232) (w : World) (hr : RB w w.heap.size A l) :
    Calls Try.prog 49 #[B t, .slice A l.length c] w fun e w' => e = .returned (nm x) ∧ Below w.heap.size w w' := by
  obtain ⟨i0, hi, hz0, hz1, hz2⟩ := info_parts info_byte
  have hz := Is.new w 30 #[B 0, B 0, B 0, B 0, B 0, B 0, B 0, B 0]
  have hF := (Fr.refl w).alloc (.cells #[B 0, B 0, B 0, B 0, B 0, B 0, B 0, B 0] 30)
  have HR := Lib.hid hr
  clear hr
  have HI := Lib.hid hi
  have HZ0 := Lib.hid hz0
  have HZ1 := Lib.hid hz1
  have HZ2 := Lib.hid hz2
  clear hi hz0 hz1 hz2
  go_enter Try.func49, Try.ntmps49
  go_wp2_with (first
    | (at_make; refine wpList_make_own _ rfl _ _ 22 rfl (w.heap.size + 1) 5 i0 (.int .u8 0) 1 Try.underlying22 HI.out HZ0.out HZ1.out .i64 .i64 160 160 rfl rfl rfl (by rw [HZ2.out]; omega) (by simp [maxLen]) (by simp) ?_; intro w1 ho1 hg1; have hob1 := ob_make ho1 (g := w.heap.size + 1) (by simp); have hF1 := hF.grown hg1 (by simp); have hz1 := hz.grown hg1 (by simp); clear ho1 hg1)
    | (at_builtin; refine wpList_append_ob rfl (.tmp 5) (.tmp 7) 22 rfl (w.heap.size + 1) 5 i0 Try.underlying22 HI.out HZ0.out HZ1.out HZ2.out _ [] rfl (hob1.keep ((Below.refl _ _).alloc (Nat.le_refl _) _)) _ (some ⟨w1.heap.size, 0, none⟩) [t] 1 1 rfl rfl (rb_build w1 5 t) (by simp) (by (have := hF1.2; simp; omega)) ?_; intro v2 w2 hob2 hg2 hat2; have hF2 := (hF1.alloc _).grown hg2 (fun k hk => by (have := hob1.own k hk; omega)); have hz2 := (hz1.old _).grown hg2 (fun k hk => by (have := hob1.own k hk; omega)); clear hg2 hat2)
    | (at_builtin; refine wpList_append_ob rfl (.tmp 8) (.tmp 9) 22 rfl (w.heap.size + 1) 5 i0 Try.underlying22 HI.out HZ0.out HZ1.out HZ2.out _ ([] ++ [t]) rfl hob2 _ A l l.length c rfl rfl (carry HR.out (Fr.refl w) hF2) (by simp; omega) (by (have := hF2.2; omega)) ?_; intro v3 w3 hob3 hg3 hat3; have hF3 := hF2.grown hg3 (fun k hk => by (have := hob2.own k hk; omega)); have hz3 := hz2.grown hg3 (fun k hk => by (have := hob2.own k hk; omega)); clear hg3 hat3; obtain ⟨A3, n3, c3, rfl, HN, hc3, hm3, HR3⟩ := (tag_ob hob3).form_n; clear hob3)
    | (go_at_call 67; refine (rsum_n _ (t :: l) _ _ HN hx hc3 hm3 (by simp; omega) _ HR3.out).mono ?_; rintro e w4 ⟨rfl, hb⟩; have hF4 := hF3.next hb; have hz4 := hz3.next hb; clear hb)
    | (refine wpList_store_is rfl 30 (.tmp 4) (.tmp 11) rfl w.heap.size 30 _ (nmC _) rfl rfl hz4 (nmC_size _) name_info (nmC_one _) ?_; intro w6 hz7 hb6))
  exact ret_is rfl w.heap.size 30 _ rfl hz7 Try.underlying30 rfl name_info rfl ⟨rfl, hF4.1.trans hb6⟩

theorem rtagged_n {x : BitVec 64} (t : UInt8) (A : Option Addr) (l : List UInt8) (n c : Nat) (hn : n = l.length) (hx : Hid (sumF (t :: l) = x)) (hc : l.length ≤ c) (hm : l.length ≤ 140737488351232) (w : World) (hr : RB w w.heap.size A l) :
    Calls Try.prog 49 #[B t, .slice A n c] w fun e w' => e = .returned (nm x) ∧ Below w.heap.size w w' := by
  subst hn
  exact rtagged_any t A l c hx hc hm w hr
end Go.Proofs.Ytjghengkpbokaaa

/-
  One-time signatures as plain functions: chains, and what package onetime promises of them.
-/
namespace Go.Fl
open Go.ChangeShapes Go.WideShapes Go.ChangeAt Go.RowKit

/-- One step of chain c from position p. -/
def stepF (v : BitVec 64) (c p : UInt8) : BitVec 64 := sumF (33 :: (nmL v ++ [c, p]))
/-- k steps of chain c from position p on. -/
def chainF (v : BitVec 64) (c : UInt8) (p : Nat) : Nat → BitVec 64
  | 0 => v
  | k + 1 => stepF (chainF v c p k) c (UInt8.ofNat (p + k))
theorem chainF_add (v : BitVec 64) (c : UInt8) (p a b : Nat) : chainF (chainF v c p a) c (p + a) b = chainF v c p (a + b) := by
  induction b with
  | zero => rfl
  | succ b ih =>
    rw [chainF, ih, ← Nat.add_assoc, chainF]
    congr 2
    omega
def startF (seed : BitVec 64) (c : UInt8) : BitVec 64 := sumF (32 :: (nmL seed ++ [c]))
def endsF (l : List (BitVec 64)) : BitVec 64 := sumF (34 :: nsB l)
/-- The values at these positions of all chains. -/
def valsF (seed : BitVec 64) (d : List Nat) : List (BitVec 64) := (List.range 18).map fun c => chainF (startF seed (UInt8.ofNat c)) (UInt8.ofNat c) 0 (d.getD c 0)
def publicF (seed : BitVec 64) : BitVec 64 := endsF (valsF seed (List.replicate 18 15))
/-- The digits of a name. -/
def halfs (m : BitVec 64) : List Nat := (nmL m).flatMap fun b => [b.toNat / 16, b.toNat % 16]
def restF (m : BitVec 64) : Nat := 240 - (halfs m).sum
def digF (m : BitVec 64) : List Nat := halfs m ++ [restF m / 16, restF m % 16]
def recF (m : BitVec 64) (sig : List (BitVec 64)) : List (BitVec 64) := (List.range 18).map fun c => chainF (sig.getD c 0) (UInt8.ofNat c) ((digF m).getD c 0) (15 - (digF m).getD c 0)
def recP (m : BitVec 64) (sig : List (BitVec 64)) : BitVec 64 × Bool := if sig.length = 18 then (endsF (recF m sig), true) else (0, false)
theorem ub_ofNat (c : Nat) (h : c < 256) : ub (UInt8.ofNat c) = (c : Int) := by
  unfold ub
  simp
  omega
end Go.Fl
