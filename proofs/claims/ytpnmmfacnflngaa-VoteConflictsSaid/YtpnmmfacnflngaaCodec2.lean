/-
  The program's codec: putUint (bytes of a number appended in place) and AppendUint.
-/
import Derived.Test.YtpnmmfacnflngaaCodec1
namespace Go.Proofs.Ytpnmmfacnflngaa
open Go.ChangeShapes Go.WideShapes Go.ChangeAt Go.RowKit Go.Fl

set_option maxRecDepth 10000 in
set_option maxHeartbeats 2000000 in
/-- putUint: the lowest bytes of the number appended to bytes of the call's own. -/
theorem put_any {w0 : World} (v : Value) (l : List UInt8) (X : Int) (x : BitVec 64) (hX : X = iu x) (K : Int) (k : Nat) (hK : K = (k : Int)) (hk : k ≤ 8) (hm : l.length + 8 ≤ 160000000000000) (w : World) (hF : Fr w0 0 w) (ho : OB w w0.heap.size 5 v l) :
    Calls Try.prog 42 #[v, .int .u64 X, .int .i64 K] w fun e w' => ∃ v', e = .returned v' ∧ OB w' w0.heap.size 5 v' (l ++ tailB x k) ∧ Fr w0 0 w' := by
  subst hX hK
  obtain ⟨i0, hi, hz0, hz1, hz2⟩ := info_parts info_byte
  have HI := Lib.hid hi
  have HZ0 := Lib.hid hz0
  have HZ1 := Lib.hid hz1
  have HZ2 := Lib.hid hz2
  have HT := Lib.hid (tailB_len x k hk)
  have xlo := iu_lo x
  have xhi := iu_hi x
  have kint : (k : Int) ≤ 8 := by omega
  clear hi hz0 hz1 hz2
  go_enter Try.func42, Try.ntmps42
  go_wp2
  go_loopw [0, 9] (fun v i wr => ∃ j : Nat, j ≤ k ∧ i = .int .i64 (j : Int) ∧ OB wr w0.heap.size 5 v (l ++ (tailB x k).take j) ∧ Fr w0 0 wr) (fun _ i _ => k - (intOf i).toNat)
  case atStart => exact ⟨0, Nat.zero_le _, rfl, by rw [List.take_zero, List.append_nil]; exact ho, hF⟩
  case round =>
    clear ho hF
    obtain ⟨j, hj, rfl, hob, hF⟩ := hrel
    by_cases hj0 : j = k
    · subst hj0
      go_wp2
      go_ret
      exact ⟨_, rfl, by rw [List.take_of_length_le (by rw [HT.out]; exact Nat.le_refl _)] at hob; exact hob, hF⟩
    · have s1 : (j : Int) < (k : Int) := by omega
      obtain ⟨d, hd⟩ : ∃ d : Nat, j + d + 1 = k := ⟨k - j - 1, by omega⟩
      have hlen : (l ++ (tailB x k).take j).length + 1 ≤ 160000000000000 := by have := HT.out; simp; omega
      have HLEN := Lib.hid hlen
      obtain ⟨b0, b1, b2, b3, b4, b5, b6, b7⟩ := iu_bytes x
      have hds : d = 0 ∨ d = 1 ∨ d = 2 ∨ d = 3 ∨ d = 4 ∨ d = 5 ∨ d = 6 ∨ d = 7 := by omega
      have hdi : (k : Int) - 1 - (j : Int) = (d : Int) := by omega
      have HD := Lib.hid hd
      clear hlen
      rcases hds with rfl | rfl | rfl | rfl | rfl | rfl | rfl | rfl
      · have HST := Lib.hid (tailB_up x k j 0 7 hk hd rfl)
        have hdj : (k : Int) - 1 - (j : Int) = 0 := by omega
        clear hd hdi
        go_wp2_with (first
          | (at_builtin; refine wpList_append_ob rfl (.tmp 12) (.tmp 21) 29 rfl w0.heap.size 5 i0 Try.underlying29 HI.out HZ0.out HZ1.out HZ2.out _ (l ++ (tailB x k).take j) rfl (hob.keep ((Below.refl _ _).alloc (Nat.le_refl _) _)) _ (some ⟨wr.heap.size, 0, none⟩) [nb x 7] 1 1 rfl rfl (rb_build wr 5 (nb x 7)) HLEN.out (by (have := hF.2; simp; omega)) ?_; intro v2 w2 hob2 hg2 hat2; have hF2 := ((hF.alloc _).grown hg2 (fun k hk => hob.own k hk)).le (Nat.zero_le _); clear hg2 hat2)
          | fail)
        go_roundw
        case rel => exact ⟨j + 1, by omega, by go_num, by rw [List.append_assoc, HST.out] at hob2; exact hob2, hF2⟩
        case measure => simp [intOf]; omega
      · have HST := Lib.hid (tailB_up x k j 1 6 hk hd rfl)
        have hdj : (k : Int) - 1 - (j : Int) = 1 := by omega
        clear hd hdi
        go_wp2_with (first
          | (at_builtin; refine wpList_append_ob rfl (.tmp 12) (.tmp 21) 29 rfl w0.heap.size 5 i0 Try.underlying29 HI.out HZ0.out HZ1.out HZ2.out _ (l ++ (tailB x k).take j) rfl (hob.keep ((Below.refl _ _).alloc (Nat.le_refl _) _)) _ (some ⟨wr.heap.size, 0, none⟩) [nb x 6] 1 1 rfl rfl (rb_build wr 5 (nb x 6)) HLEN.out (by (have := hF.2; simp; omega)) ?_; intro v2 w2 hob2 hg2 hat2; have hF2 := ((hF.alloc _).grown hg2 (fun k hk => hob.own k hk)).le (Nat.zero_le _); clear hg2 hat2)
          | fail)
        go_roundw
        case rel => exact ⟨j + 1, by omega, by go_num, by rw [List.append_assoc, HST.out] at hob2; exact hob2, hF2⟩
        case measure => simp [intOf]; omega
      · have HST := Lib.hid (tailB_up x k j 2 5 hk hd rfl)
        have hdj : (k : Int) - 1 - (j : Int) = 2 := by omega
        clear hd hdi
        go_wp2_with (first
          | (at_builtin; refine wpList_append_ob rfl (.tmp 12) (.tmp 21) 29 rfl w0.heap.size 5 i0 Try.underlying29 HI.out HZ0.out HZ1.out HZ2.out _ (l ++ (tailB x k).take j) rfl (hob.keep ((Below.refl _ _).alloc (Nat.le_refl _) _)) _ (some ⟨wr.heap.size, 0, none⟩) [nb x 5] 1 1 rfl rfl (rb_build wr 5 (nb x 5)) HLEN.out (by (have := hF.2; simp; omega)) ?_; intro v2 w2 hob2 hg2 hat2; have hF2 := ((hF.alloc _).grown hg2 (fun k hk => hob.own k hk)).le (Nat.zero_le _); clear hg2 hat2)
          | fail)
        go_roundw
        case rel => exact ⟨j + 1, by omega, by go_num, by rw [List.append_assoc, HST.out] at hob2; exact hob2, hF2⟩
        case measure => simp [intOf]; omega
      · have HST := Lib.hid (tailB_up x k j 3 4 hk hd rfl)
        have hdj : (k : Int) - 1 - (j : Int) = 3 := by omega
        clear hd hdi
        go_wp2_with (first
          | (at_builtin; refine wpList_append_ob rfl (.tmp 12) (.tmp 21) 29 rfl w0.heap.size 5 i0 Try.underlying29 HI.out HZ0.out HZ1.out HZ2.out _ (l ++ (tailB x k).take j) rfl (hob.keep ((Below.refl _ _).alloc (Nat.le_refl _) _)) _ (some ⟨wr.heap.size, 0, none⟩) [nb x 4] 1 1 rfl rfl (rb_build wr 5 (nb x 4)) HLEN.out (by (have := hF.2; simp; omega)) ?_; intro v2 w2 hob2 hg2 hat2; have hF2 := ((hF.alloc _).grown hg2 (fun k hk => hob.own k hk)).le (Nat.zero_le _); clear hg2 hat2)
          | fail)
        go_roundw
        case rel => exact ⟨j + 1, by omega, by go_num, by rw [List.append_assoc, HST.out] at hob2; exact hob2, hF2⟩
        case measure => simp [intOf]; omega
      · have HST := Lib.hid (tailB_up x k j 4 3 hk hd rfl)
        have hdj : (k : Int) - 1 - (j : Int) = 4 := by omega
        clear hd hdi
        go_wp2_with (first
          | (at_builtin; refine wpList_append_ob rfl (.tmp 12) (.tmp 21) 29 rfl w0.heap.size 5 i0 Try.underlying29 HI.out HZ0.out HZ1.out HZ2.out _ (l ++ (tailB x k).take j) rfl (hob.keep ((Below.refl _ _).alloc (Nat.le_refl _) _)) _ (some ⟨wr.heap.size, 0, none⟩) [nb x 3] 1 1 rfl rfl (rb_build wr 5 (nb x 3)) HLEN.out (by (have := hF.2; simp; omega)) ?_; intro v2 w2 hob2 hg2 hat2; have hF2 := ((hF.alloc _).grown hg2 (fun k hk => hob.own k hk)).le (Nat.zero_le _); clear hg2 hat2)
          | fail)
        go_roundw
        case rel => exact ⟨j + 1, by omega, by go_num, by rw [List.append_assoc, HST.out] at hob2; exact hob2, hF2⟩
        case measure => simp [intOf]; omega
      · have HST := Lib.hid (tailB_up x k j 5 2 hk hd rfl)
        have hdj : (k : Int) - 1 - (j : Int) = 5 := by omega
        clear hd hdi
        go_wp2_with (first
          | (at_builtin; refine wpList_append_ob rfl (.tmp 12) (.tmp 21) 29 rfl w0.heap.size 5 i0 Try.underlying29 HI.out HZ0.out HZ1.out HZ2.out _ (l ++ (tailB x k).take j) rfl (hob.keep ((Below.refl _ _).alloc (Nat.le_refl _) _)) _ (some ⟨wr.heap.size, 0, none⟩) [nb x 2] 1 1 rfl rfl (rb_build wr 5 (nb x 2)) HLEN.out (by (have := hF.2; simp; omega)) ?_; intro v2 w2 hob2 hg2 hat2; have hF2 := ((hF.alloc _).grown hg2 (fun k hk => hob.own k hk)).le (Nat.zero_le _); clear hg2 hat2)
          | fail)
        go_roundw
        case rel => exact ⟨j + 1, by omega, by go_num, by rw [List.append_assoc, HST.out] at hob2; exact hob2, hF2⟩
        case measure => simp [intOf]; omega
      · have HST := Lib.hid (tailB_up x k j 6 1 hk hd rfl)
        have hdj : (k : Int) - 1 - (j : Int) = 6 := by omega
        clear hd hdi
        go_wp2_with (first
          | (at_builtin; refine wpList_append_ob rfl (.tmp 12) (.tmp 21) 29 rfl w0.heap.size 5 i0 Try.underlying29 HI.out HZ0.out HZ1.out HZ2.out _ (l ++ (tailB x k).take j) rfl (hob.keep ((Below.refl _ _).alloc (Nat.le_refl _) _)) _ (some ⟨wr.heap.size, 0, none⟩) [nb x 1] 1 1 rfl rfl (rb_build wr 5 (nb x 1)) HLEN.out (by (have := hF.2; simp; omega)) ?_; intro v2 w2 hob2 hg2 hat2; have hF2 := ((hF.alloc _).grown hg2 (fun k hk => hob.own k hk)).le (Nat.zero_le _); clear hg2 hat2)
          | fail)
        go_roundw
        case rel => exact ⟨j + 1, by omega, by go_num, by rw [List.append_assoc, HST.out] at hob2; exact hob2, hF2⟩
        case measure => simp [intOf]; omega
      · have HST := Lib.hid (tailB_up x k j 7 0 hk hd rfl)
        have hdj : (k : Int) - 1 - (j : Int) = 7 := by omega
        clear hd hdi
        go_wp2_with (first
          | (at_builtin; refine wpList_append_ob rfl (.tmp 12) (.tmp 21) 29 rfl w0.heap.size 5 i0 Try.underlying29 HI.out HZ0.out HZ1.out HZ2.out _ (l ++ (tailB x k).take j) rfl (hob.keep ((Below.refl _ _).alloc (Nat.le_refl _) _)) _ (some ⟨wr.heap.size, 0, none⟩) [nb x 0] 1 1 rfl rfl (rb_build wr 5 (nb x 0)) HLEN.out (by (have := hF.2; simp; omega)) ?_; intro v2 w2 hob2 hg2 hat2; have hF2 := ((hF.alloc _).grown hg2 (fun k hk => hob.own k hk)).le (Nat.zero_le _); clear hg2 hat2)
          | fail)
        go_roundw
        case rel => exact ⟨j + 1, by omega, by go_num, by rw [List.append_assoc, HST.out] at hob2; exact hob2, hF2⟩
        case measure => simp [intOf]; omega

set_option maxRecDepth 10000 in
set_option maxHeartbeats 1000000 in
theorem appuint_any (A : Option Addr) (l : List UInt8) (c : Nat) (x : BitVec 64) (n : Int) (hm : l.length + 8 ≤ 160000000000000) (hn : I64 n) (w : World) (hr : RB w w.heap.size A l) :
    Calls Try.prog 33 #[.slice A l.length c, U x, .int .i64 n] w (RetOB w 5 (appUintF l x n)) := by
  obtain ⟨k, hk⟩ : ∃ k, clampW n = k := ⟨_, rfl⟩
  have hk8 : k ≤ 8 := by have := clampW_cases n; omega
  have e : appUintF l x n = l ++ tailB x k := by unfold appUintF; rw [hk]
  rw [e]
  have hn1 := hn.1
  have hn2 := hn.2
  have HR := Lib.hid hr
  have hc : (n < 0 ∧ k = 0) ∨ (8 < n ∧ k = 8) ∨ (0 ≤ n ∧ n ≤ 8 ∧ (k : Int) = n) := by have := clampW_cases n; omega
  clear hr hk hn e
  rcases hc with ⟨h1, rfl⟩ | ⟨h1, rfl⟩ | ⟨h1, h2, h3⟩
  · go_enter Try.func33, Try.ntmps33
    go_wp2_with (first
      | (go_at_call 43; refine (room_any A l c _ 0 (by omega) (by omega) _ HR.out).mono ?_; rintro e w1 ⟨v1, rfl, hob1, hb1⟩; have hF1 := (Fr.refl w).next hb1)
      | (go_at_call 42; refine (put_any (w0 := w) v1 l _ x rfl _ 0 (by omega) (by omega) hm _ hF1 hob1).mono ?_; rintro e w2 ⟨v2, rfl, hob2, hF2⟩)
      | fail)
    go_ret
    exact ⟨_, rfl, hob2, hF2.1⟩
  · go_enter Try.func33, Try.ntmps33
    go_wp2_with (first
      | (go_at_call 43; refine (room_any A l c _ 8 (by omega) (by omega) _ HR.out).mono ?_; rintro e w1 ⟨v1, rfl, hob1, hb1⟩; have hF1 := (Fr.refl w).next hb1)
      | (go_at_call 42; refine (put_any (w0 := w) v1 l _ x rfl _ 8 (by omega) (by omega) hm _ hF1 hob1).mono ?_; rintro e w2 ⟨v2, rfl, hob2, hF2⟩)
      | fail)
    go_ret
    exact ⟨_, rfl, hob2, hF2.1⟩
  · go_enter Try.func33, Try.ntmps33
    go_wp2_with (first
      | (go_at_call 43; refine (room_any A l c _ k (by omega) (by omega) _ HR.out).mono ?_; rintro e w1 ⟨v1, rfl, hob1, hb1⟩; have hF1 := (Fr.refl w).next hb1)
      | (go_at_call 42; refine (put_any (w0 := w) v1 l _ x rfl _ k (by omega) (by omega) hm _ hF1 hob1).mono ?_; rintro e w2 ⟨v2, rfl, hob2, hF2⟩)
      | fail)
    go_ret
    exact ⟨_, rfl, hob2, hF2.1⟩
end Go.Proofs.Ytpnmmfacnflngaa
