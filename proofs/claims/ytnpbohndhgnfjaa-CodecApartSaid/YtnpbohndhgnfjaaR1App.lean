/-
  forkledgerref1.AppendUint: the bytes of b followed by the lowest bytes of the number, in memory of the call's own.
-/
import Derived.Test.YtnpbohndhgnfjaaSeat
namespace Go.Fl
open Go.ChangeShapes Go.WideShapes Go.ChangeAt Go.RowKit

/-- The k lowest bytes of a number, the highest first. -/
def tailB (x : BitVec 64) (k : Nat) : List UInt8 := (nmL x).drop (8 - k)
theorem tailB_len (x : BitVec 64) (k : Nat) (h : k ≤ 8) : (tailB x k).length = k := by
  simp [tailB, nmL_len]
  omega
theorem nmL_at (x : BitVec 64) (i : Nat) (h : i < 8) : (nmL x)[i]? = some (nb x i) := by
  have : i = 0 ∨ i = 1 ∨ i = 2 ∨ i = 3 ∨ i = 4 ∨ i = 5 ∨ i = 6 ∨ i = 7 := by omega
  rcases this with rfl | rfl | rfl | rfl | rfl | rfl | rfl | rfl <;> rfl
theorem tailB_step (x : BitVec 64) (k j : Nat) (hk : k ≤ 8) (h0 : 0 < j) (hj : j ≤ k) : (tailB x k).take (k - j) ++ [nb x (8 - j)] = (tailB x k).take (k - (j - 1)) := by
  have e : k - (j - 1) = (k - j) + 1 := by omega
  rw [e, List.take_add_one, tailB, List.getElem?_drop, nmL_at x _ (by omega)]
  have e2 : 8 - k + (k - j) = 8 - j := by omega
  rw [e2]
  rfl
/-- A width as it counts. -/
def clampW (n : Int) : Nat := (max 0 (min n 8)).toNat

theorem clampW_cases (n : Int) : (n ≤ 0 ∧ clampW n = 0) ∨ (8 ≤ n ∧ clampW n = 8) ∨ (0 < n ∧ n < 8 ∧ (clampW n : Int) = n) := by
  unfold clampW
  omega

/-- What a function that returns bytes of its own answers. -/
def RetOB (w : World) (tb : TypeId) (l : List UInt8) (e : Ending) (w' : World) : Prop := ∃ v, e = .returned v ∧ OB w' w.heap.size tb v l ∧ Below w.heap.size w w'
end Go.Fl
namespace Go.Proofs.Ytnpbohndhgnfjaa
open Go.ChangeShapes Go.WideShapes Go.ChangeAt Go.RowKit Go.Fl

set_option maxHeartbeats 4000000 in
theorem rappuint_any (A : Option Addr) (l : List UInt8) (c : Nat) (x : BitVec 64) (n : Int) (k : Nat) (hk : clampW n = k) (hm : l.length + 8 ≤ 160000000000000) (w : World) (hr : RB w w.heap.size A l) :
    Calls Try.prog 13 #[.slice A l.length c, U x, .int .i64 n] w (RetOB w 5 (l ++ tailB x k)) := by
  obtain ⟨i0, hi, hz0, hz1, hz2⟩ := info_parts info_byte
  have HI := Lib.hid hi
  have HZ0 := Lib.hid hz0
  have HZ1 := Lib.hid hz1
  have HZ2 := Lib.hid hz2
  have hF0 := (Fr.refl w).alloc (.cells #[] 5)
  have HR := Lib.hid (carry hr (Fr.refl w) hF0)
  have hob0 := ob_empty w 5 rfl
  have hk8 : k ≤ 8 := by have := clampW_cases n; omega
  have HT := Lib.hid (tailB_len x k hk8)
  have xlo := iu_lo x
  have xhi := iu_hi x
  obtain ⟨m, hm1, hm2⟩ : ∃ m : Int, m = (k : Int) - 1 ∧ ((n ≤ 0 ∧ m = -1) ∨ (8 < n ∧ m = 7) ∨ (0 < n ∧ n ≤ 8 ∧ m = n - 1)) := ⟨_, rfl, by have := clampW_cases n; omega⟩
  have HM := Lib.hid hm1
  clear hi hz0 hz1 hz2 hr hk hm1
  rcases hm2 with ⟨h1, rfl⟩ | ⟨h1, rfl⟩ | ⟨h1, h2, rfl⟩
  · go_enter Try.func13, Try.ntmps13
    go_wp2_with (first
      | (at_builtin; refine wpList_append_ob rfl (.tmp 9) (.tmp 10) 22 rfl w.heap.size 5 i0 Try.underlying22 HI.out HZ0.out HZ1.out HZ2.out _ [] rfl hob0 _ A l l.length c rfl rfl HR.out (by (have : ([] : List UInt8).length = 0 := rfl; omega)) (by simp) ?_; intro v1 w1 ho1 hg1 hat1; have hF1 := hF0.grown hg1 (fun k hk => hob0.own k hk); have hob1 := nil_ob2 ho1; clear hg1 hat1 ho1)
      | fail)
    go_loopw [7, 8] (fun v i wr => ∃ j : Nat, j ≤ k ∧ i = .int .i64 ((j : Int) - 1) ∧ OB wr w.heap.size 5 v (l ++ (tailB x k).take (k - j)) ∧ Fr w 1 wr) (fun _ i _ => (intOf i + 1).toNat)
    case atStart => exact ⟨k, Nat.le_refl _, by rw [← HM.out], by rw [Nat.sub_self, List.take_zero, List.append_nil]; exact hob1, hF1⟩
    case round =>
      clear hob1 hF1 hob0 hF0 HR
      obtain ⟨j, hj, rfl, hob, hF⟩ := hrel
      by_cases hj0 : j = 0
      · subst hj0
        go_wp2
        go_ret
        exact ⟨_, rfl, by rw [Nat.sub_zero, List.take_of_length_le (by rw [HT.out]; exact Nat.le_refl _)] at hob; exact hob, hF.1⟩
      · have hst := tailB_step x k j hk8 (by omega) hj
        have HST := Lib.hid hst
        have hlen : (l ++ (tailB x k).take (k - j)).length + 1 ≤ 160000000000000 := by have := HT.out; simp; omega
        have HLEN := Lib.hid hlen
        clear hst hlen
        obtain ⟨b0, b1, b2, b3, b4, b5, b6, b7⟩ := iu_bytes x
        have hjs : j = 1 ∨ j = 2 ∨ j = 3 ∨ j = 4 ∨ j = 5 ∨ j = 6 ∨ j = 7 ∨ j = 8 := by omega
        rcases hjs with rfl | rfl | rfl | rfl | rfl | rfl | rfl | rfl
        · go_wp2_with (first
            | (at_builtin; refine wpList_append_ob rfl (.tmp 20) (.tmp 27) 22 rfl w.heap.size 5 i0 Try.underlying22 HI.out HZ0.out HZ1.out HZ2.out _ (l ++ (tailB x k).take (k - 1)) rfl (hob.keep ((Below.refl _ _).alloc (Nat.le_refl _) _)) _ (some ⟨wr.heap.size, 0, none⟩) [nb x 7] 1 1 rfl rfl (rb_build wr 5 (nb x 7)) HLEN.out (by (have := hF.2; simp; omega)) ?_; intro v2 w2 hob2 hg2 hat2; have hF2 := ((hF.alloc _).grown hg2 (fun k hk => hob.own k hk)).le (Nat.le_succ 1); clear hg2 hat2)
            | fail)
          go_roundw
          case rel => exact ⟨0, by omega, by go_num, by rw [List.append_assoc, HST.out] at hob2; exact hob2, hF2⟩
          case measure => simp [intOf]
        · go_wp2_with (first
            | (at_builtin; refine wpList_append_ob rfl (.tmp 20) (.tmp 27) 22 rfl w.heap.size 5 i0 Try.underlying22 HI.out HZ0.out HZ1.out HZ2.out _ (l ++ (tailB x k).take (k - 2)) rfl (hob.keep ((Below.refl _ _).alloc (Nat.le_refl _) _)) _ (some ⟨wr.heap.size, 0, none⟩) [nb x 6] 1 1 rfl rfl (rb_build wr 5 (nb x 6)) HLEN.out (by (have := hF.2; simp; omega)) ?_; intro v2 w2 hob2 hg2 hat2; have hF2 := ((hF.alloc _).grown hg2 (fun k hk => hob.own k hk)).le (Nat.le_succ 1); clear hg2 hat2)
            | fail)
          go_roundw
          case rel => exact ⟨1, by omega, by go_num, by rw [List.append_assoc, HST.out] at hob2; exact hob2, hF2⟩
          case measure => simp [intOf]
        · go_wp2_with (first
            | (at_builtin; refine wpList_append_ob rfl (.tmp 20) (.tmp 27) 22 rfl w.heap.size 5 i0 Try.underlying22 HI.out HZ0.out HZ1.out HZ2.out _ (l ++ (tailB x k).take (k - 3)) rfl (hob.keep ((Below.refl _ _).alloc (Nat.le_refl _) _)) _ (some ⟨wr.heap.size, 0, none⟩) [nb x 5] 1 1 rfl rfl (rb_build wr 5 (nb x 5)) HLEN.out (by (have := hF.2; simp; omega)) ?_; intro v2 w2 hob2 hg2 hat2; have hF2 := ((hF.alloc _).grown hg2 (fun k hk => hob.own k hk)).le (Nat.le_succ 1); clear hg2 hat2)
            | fail)
          go_roundw
          case rel => exact ⟨2, by omega, by go_num, by rw [List.append_assoc, HST.out] at hob2; exact hob2, hF2⟩
          case measure => simp [intOf]
        · go_wp2_with (first
            | (at_builtin; refine wpList_append_ob rfl (.tmp 20) (.tmp 27) 22 rfl w.heap.size 5 i0 Try.underlying22 HI.out HZ0.out HZ1.out HZ2.out _ (l ++ (tailB x k).take (k - 4)) rfl (hob.keep ((Below.refl _ _).alloc (Nat.le_refl _) _)) _ (some ⟨wr.heap.size, 0, none⟩) [nb x 4] 1 1 rfl rfl (rb_build wr 5 (nb x 4)) HLEN.out (by (have := hF.2; simp; omega)) ?_; intro v2 w2 hob2 hg2 hat2; have hF2 := ((hF.alloc _).grown hg2 (fun k hk => hob.own k hk)).le (Nat.le_succ 1); clear hg2 hat2)
            | fail)
          go_roundw
          case rel => exact ⟨3, by omega, by go_num, by rw [List.append_assoc, HST.out] at hob2; exact hob2, hF2⟩
          case measure => simp [intOf]
        · go_wp2_with (first
            | (at_builtin; refine wpList_append_ob rfl (.tmp 20) (.tmp 27) 22 rfl w.heap.size 5 i0 Try.underlying22 HI.out HZ0.out HZ1.out HZ2.out _ (l ++ (tailB x k).take (k - 5)) rfl (hob.keep ((Below.refl _ _).alloc (Nat.le_refl _) _)) _ (some ⟨wr.heap.size, 0, none⟩) [nb x 3] 1 1 rfl rfl (rb_build wr 5 (nb x 3)) HLEN.out (by (have := hF.2; simp; omega)) ?_; intro v2 w2 hob2 hg2 hat2; have hF2 := ((hF.alloc _).grown hg2 (fun k hk => hob.own k hk)).le (Nat.le_succ 1); clear hg2 hat2)
            | fail)
          go_roundw
          case rel => exact ⟨4, by omega, by go_num, by rw [List.append_assoc, HST.out] at hob2; exact hob2, hF2⟩
          case measure => simp [intOf]
        · go_wp2_with (first
            | (at_builtin; refine wpList_append_ob rfl (.tmp 20) (.tmp 27) 22 rfl w.heap.size 5 i0 Try.underlying22 HI.out HZ0.out HZ1.out HZ2.out _ (l ++ (tailB x k).take (k - 6)) rfl (hob.keep ((Below.refl _ _).alloc (Nat.le_refl _) _)) _ (some ⟨wr.heap.size, 0, none⟩) [nb x 2] 1 1 rfl rfl (rb_build wr 5 (nb x 2)) HLEN.out (by (have := hF.2; simp; omega)) ?_; intro v2 w2 hob2 hg2 hat2; have hF2 := ((hF.alloc _).grown hg2 (fun k hk => hob.own k hk)).le (Nat.le_succ 1); clear hg2 hat2)
            | fail)
          go_roundw
          case rel => exact ⟨5, by omega, by go_num, by rw [List.append_assoc, HST.out] at hob2; exact hob2, hF2⟩
          case measure => simp [intOf]
        · go_wp2_with (first
            | (at_builtin; refine wpList_append_ob rfl (.tmp 20) (.tmp 27) 22 rfl w.heap.size 5 i0 Try.underlying22 HI.out HZ0.out HZ1.out HZ2.out _ (l ++ (tailB x k).take (k - 7)) rfl (hob.keep ((Below.refl _ _).alloc (Nat.le_refl _) _)) _ (some ⟨wr.heap.size, 0, none⟩) [nb x 1] 1 1 rfl rfl (rb_build wr 5 (nb x 1)) HLEN.out (by (have := hF.2; simp; omega)) ?_; intro v2 w2 hob2 hg2 hat2; have hF2 := ((hF.alloc _).grown hg2 (fun k hk => hob.own k hk)).le (Nat.le_succ 1); clear hg2 hat2)
            | fail)
          go_roundw
          case rel => exact ⟨6, by omega, by go_num, by rw [List.append_assoc, HST.out] at hob2; exact hob2, hF2⟩
          case measure => simp [intOf]
        · go_wp2_with (first
            | (at_builtin; refine wpList_append_ob rfl (.tmp 20) (.tmp 27) 22 rfl w.heap.size 5 i0 Try.underlying22 HI.out HZ0.out HZ1.out HZ2.out _ (l ++ (tailB x k).take (k - 8)) rfl (hob.keep ((Below.refl _ _).alloc (Nat.le_refl _) _)) _ (some ⟨wr.heap.size, 0, none⟩) [nb x 0] 1 1 rfl rfl (rb_build wr 5 (nb x 0)) HLEN.out (by (have := hF.2; simp; omega)) ?_; intro v2 w2 hob2 hg2 hat2; have hF2 := ((hF.alloc _).grown hg2 (fun k hk => hob.own k hk)).le (Nat.le_succ 1); clear hg2 hat2)
            | fail)
          go_roundw
          case rel => exact ⟨7, by omega, by go_num, by rw [List.append_assoc, HST.out] at hob2; exact hob2, hF2⟩
          case measure => simp [intOf]
  · go_enter Try.func13, Try.ntmps13
    go_wp2_with (first
      | (at_builtin; refine wpList_append_ob rfl (.tmp 9) (.tmp 10) 22 rfl w.heap.size 5 i0 Try.underlying22 HI.out HZ0.out HZ1.out HZ2.out _ [] rfl hob0 _ A l l.length c rfl rfl HR.out (by (have : ([] : List UInt8).length = 0 := rfl; omega)) (by simp) ?_; intro v1 w1 ho1 hg1 hat1; have hF1 := hF0.grown hg1 (fun k hk => hob0.own k hk); have hob1 := nil_ob2 ho1; clear hg1 hat1 ho1)
      | fail)
    go_loopw [7, 8] (fun v i wr => ∃ j : Nat, j ≤ k ∧ i = .int .i64 ((j : Int) - 1) ∧ OB wr w.heap.size 5 v (l ++ (tailB x k).take (k - j)) ∧ Fr w 1 wr) (fun _ i _ => (intOf i + 1).toNat)
    case atStart => exact ⟨k, Nat.le_refl _, by rw [← HM.out], by rw [Nat.sub_self, List.take_zero, List.append_nil]; exact hob1, hF1⟩
    case round =>
      clear hob1 hF1 hob0 hF0 HR
      obtain ⟨j, hj, rfl, hob, hF⟩ := hrel
      by_cases hj0 : j = 0
      · subst hj0
        go_wp2
        go_ret
        exact ⟨_, rfl, by rw [Nat.sub_zero, List.take_of_length_le (by rw [HT.out]; exact Nat.le_refl _)] at hob; exact hob, hF.1⟩
      · have hst := tailB_step x k j hk8 (by omega) hj
        have HST := Lib.hid hst
        have hlen : (l ++ (tailB x k).take (k - j)).length + 1 ≤ 160000000000000 := by have := HT.out; simp; omega
        have HLEN := Lib.hid hlen
        clear hst hlen
        obtain ⟨b0, b1, b2, b3, b4, b5, b6, b7⟩ := iu_bytes x
        have hjs : j = 1 ∨ j = 2 ∨ j = 3 ∨ j = 4 ∨ j = 5 ∨ j = 6 ∨ j = 7 ∨ j = 8 := by omega
        rcases hjs with rfl | rfl | rfl | rfl | rfl | rfl | rfl | rfl
        · go_wp2_with (first
            | (at_builtin; refine wpList_append_ob rfl (.tmp 20) (.tmp 27) 22 rfl w.heap.size 5 i0 Try.underlying22 HI.out HZ0.out HZ1.out HZ2.out _ (l ++ (tailB x k).take (k - 1)) rfl (hob.keep ((Below.refl _ _).alloc (Nat.le_refl _) _)) _ (some ⟨wr.heap.size, 0, none⟩) [nb x 7] 1 1 rfl rfl (rb_build wr 5 (nb x 7)) HLEN.out (by (have := hF.2; simp; omega)) ?_; intro v2 w2 hob2 hg2 hat2; have hF2 := ((hF.alloc _).grown hg2 (fun k hk => hob.own k hk)).le (Nat.le_succ 1); clear hg2 hat2)
            | fail)
          go_roundw
          case rel => exact ⟨0, by omega, by go_num, by rw [List.append_assoc, HST.out] at hob2; exact hob2, hF2⟩
          case measure => simp [intOf]
        · go_wp2_with (first
            | (at_builtin; refine wpList_append_ob rfl (.tmp 20) (.tmp 27) 22 rfl w.heap.size 5 i0 Try.underlying22 HI.out HZ0.out HZ1.out HZ2.out _ (l ++ (tailB x k).take (k - 2)) rfl (hob.keep ((Below.refl _ _).alloc (Nat.le_refl _) _)) _ (some ⟨wr.heap.size, 0, none⟩) [nb x 6] 1 1 rfl rfl (rb_build wr 5 (nb x 6)) HLEN.out (by (have := hF.2; simp; omega)) ?_; intro v2 w2 hob2 hg2 hat2; have hF2 := ((hF.alloc _).grown hg2 (fun k hk => hob.own k hk)).le (Nat.le_succ 1); clear hg2 hat2)
            | fail)
          go_roundw
          case rel => exact ⟨1, by omega, by go_num, by rw [List.append_assoc, HST.out] at hob2; exact hob2, hF2⟩
          case measure => simp [intOf]
        · go_wp2_with (first
            | (at_builtin; refine wpList_append_ob rfl (.tmp 20) (.tmp 27) 22 rfl w.heap.size 5 i0 Try.underlying22 HI.out HZ0.out HZ1.out HZ2.out _ (l ++ (tailB x k).take (k - 3)) rfl (hob.keep ((Below.refl _ _).alloc (Nat.le_refl _) _)) _ (some ⟨wr.heap.size, 0, none⟩) [nb x 5] 1 1 rfl rfl (rb_build wr 5 (nb x 5)) HLEN.out (by (have := hF.2; simp; omega)) ?_; intro v2 w2 hob2 hg2 hat2; have hF2 := ((hF.alloc _).grown hg2 (fun k hk => hob.own k hk)).le (Nat.le_succ 1); clear hg2 hat2)
            | fail)
          go_roundw
          case rel => exact ⟨2, by omega, by go_num, by rw [List.append_assoc, HST.out] at hob2; exact hob2, hF2⟩
          case measure => simp [intOf]
        · go_wp2_with (first
            | (at_builtin; refine wpList_append_ob rfl (.tmp 20) (.tmp 27) 22 rfl w.heap.size 5 i0 Try.underlying22 HI.out HZ0.out HZ1.out HZ2.out _ (l ++ (tailB x k).take (k - 4)) rfl (hob.keep ((Below.refl _ _).alloc (Nat.le_refl _) _)) _ (some ⟨wr.heap.size, 0, none⟩) [nb x 4] 1 1 rfl rfl (rb_build wr 5 (nb x 4)) HLEN.out (by (have := hF.2; simp; omega)) ?_; intro v2 w2 hob2 hg2 hat2; have hF2 := ((hF.alloc _).grown hg2 (fun k hk => hob.own k hk)).le (Nat.le_succ 1); clear hg2 hat2)
            | fail)
          go_roundw
          case rel => exact ⟨3, by omega, by go_num, by rw [List.append_assoc, HST.out] at hob2; exact hob2, hF2⟩
          case measure => simp [intOf]
        · go_wp2_with (first
            | (at_builtin; refine wpList_append_ob rfl (.tmp 20) (.tmp 27) 22 rfl w.heap.size 5 i0 Try.underlying22 HI.out HZ0.out HZ1.out HZ2.out _ (l ++ (tailB x k).take (k - 5)) rfl (hob.keep ((Below.refl _ _).alloc (Nat.le_refl _) _)) _ (some ⟨wr.heap.size, 0, none⟩) [nb x 3] 1 1 rfl rfl (rb_build wr 5 (nb x 3)) HLEN.out (by (have := hF.2; simp; omega)) ?_; intro v2 w2 hob2 hg2 hat2; have hF2 := ((hF.alloc _).grown hg2 (fun k hk => hob.own k hk)).le (Nat.le_succ 1); clear hg2 hat2)
            | fail)
          go_roundw
          case rel => exact ⟨4, by omega, by go_num, by rw [List.append_assoc, HST.out] at hob2; exact hob2, hF2⟩
          case measure => simp [intOf]
        · go_wp2_with (first
            | (at_builtin; refine wpList_append_ob rfl (.tmp 20) (.tmp 27) 22 rfl w.heap.size 5 i0 Try.underlying22 HI.out HZ0.out HZ1.out HZ2.out _ (l ++ (tailB x k).take (k - 6)) rfl (hob.keep ((Below.refl _ _).alloc (Nat.le_refl _) _)) _ (some ⟨wr.heap.size, 0, none⟩) [nb x 2] 1 1 rfl rfl (rb_build wr 5 (nb x 2)) HLEN.out (by (have := hF.2; simp; omega)) ?_; intro v2 w2 hob2 hg2 hat2; have hF2 := ((hF.alloc _).grown hg2 (fun k hk => hob.own k hk)).le (Nat.le_succ 1); clear hg2 hat2)
            | fail)
          go_roundw
          case rel => exact ⟨5, by omega, by go_num, by rw [List.append_assoc, HST.out] at hob2; exact hob2, hF2⟩
          case measure => simp [intOf]
        · go_wp2_with (first
            | (at_builtin; refine wpList_append_ob rfl (.tmp 20) (.tmp 27) 22 rfl w.heap.size 5 i0 Try.underlying22 HI.out HZ0.out HZ1.out HZ2.out _ (l ++ (tailB x k).take (k - 7)) rfl (hob.keep ((Below.refl _ _).alloc (Nat.le_refl _) _)) _ (some ⟨wr.heap.size, 0, none⟩) [nb x 1] 1 1 rfl rfl (rb_build wr 5 (nb x 1)) HLEN.out (by (have := hF.2; simp; omega)) ?_; intro v2 w2 hob2 hg2 hat2; have hF2 := ((hF.alloc _).grown hg2 (fun k hk => hob.own k hk)).le (Nat.le_succ 1); clear hg2 hat2)
            | fail)
          go_roundw
          case rel => exact ⟨6, by omega, by go_num, by rw [List.append_assoc, HST.out] at hob2; exact hob2, hF2⟩
          case measure => simp [intOf]
        · go_wp2_with (first
            | (at_builtin; refine wpList_append_ob rfl (.tmp 20) (.tmp 27) 22 rfl w.heap.size 5 i0 Try.underlying22 HI.out HZ0.out HZ1.out HZ2.out _ (l ++ (tailB x k).take (k - 8)) rfl (hob.keep ((Below.refl _ _).alloc (Nat.le_refl _) _)) _ (some ⟨wr.heap.size, 0, none⟩) [nb x 0] 1 1 rfl rfl (rb_build wr 5 (nb x 0)) HLEN.out (by (have := hF.2; simp; omega)) ?_; intro v2 w2 hob2 hg2 hat2; have hF2 := ((hF.alloc _).grown hg2 (fun k hk => hob.own k hk)).le (Nat.le_succ 1); clear hg2 hat2)
            | fail)
          go_roundw
          case rel => exact ⟨7, by omega, by go_num, by rw [List.append_assoc, HST.out] at hob2; exact hob2, hF2⟩
          case measure => simp [intOf]
  · have h4 : 0 ≤ n := by omega
    go_enter Try.func13, Try.ntmps13
    go_wp2_with (first
      | (at_builtin; refine wpList_append_ob rfl (.tmp 9) (.tmp 10) 22 rfl w.heap.size 5 i0 Try.underlying22 HI.out HZ0.out HZ1.out HZ2.out _ [] rfl hob0 _ A l l.length c rfl rfl HR.out (by (have : ([] : List UInt8).length = 0 := rfl; omega)) (by simp) ?_; intro v1 w1 ho1 hg1 hat1; have hF1 := hF0.grown hg1 (fun k hk => hob0.own k hk); have hob1 := nil_ob2 ho1; clear hg1 hat1 ho1)
      | fail)
    go_loopw [7, 8] (fun v i wr => ∃ j : Nat, j ≤ k ∧ i = .int .i64 ((j : Int) - 1) ∧ OB wr w.heap.size 5 v (l ++ (tailB x k).take (k - j)) ∧ Fr w 1 wr) (fun _ i _ => (intOf i + 1).toNat)
    case atStart => exact ⟨k, Nat.le_refl _, by rw [← HM.out], by rw [Nat.sub_self, List.take_zero, List.append_nil]; exact hob1, hF1⟩
    case round =>
      clear hob1 hF1 hob0 hF0 HR
      obtain ⟨j, hj, rfl, hob, hF⟩ := hrel
      by_cases hj0 : j = 0
      · subst hj0
        go_wp2
        go_ret
        exact ⟨_, rfl, by rw [Nat.sub_zero, List.take_of_length_le (by rw [HT.out]; exact Nat.le_refl _)] at hob; exact hob, hF.1⟩
      · have hst := tailB_step x k j hk8 (by omega) hj
        have HST := Lib.hid hst
        have hlen : (l ++ (tailB x k).take (k - j)).length + 1 ≤ 160000000000000 := by have := HT.out; simp; omega
        have HLEN := Lib.hid hlen
        clear hst hlen
        obtain ⟨b0, b1, b2, b3, b4, b5, b6, b7⟩ := iu_bytes x
        have hjs : j = 1 ∨ j = 2 ∨ j = 3 ∨ j = 4 ∨ j = 5 ∨ j = 6 ∨ j = 7 ∨ j = 8 := by omega
        rcases hjs with rfl | rfl | rfl | rfl | rfl | rfl | rfl | rfl
        · go_wp2_with (first
            | (at_builtin; refine wpList_append_ob rfl (.tmp 20) (.tmp 27) 22 rfl w.heap.size 5 i0 Try.underlying22 HI.out HZ0.out HZ1.out HZ2.out _ (l ++ (tailB x k).take (k - 1)) rfl (hob.keep ((Below.refl _ _).alloc (Nat.le_refl _) _)) _ (some ⟨wr.heap.size, 0, none⟩) [nb x 7] 1 1 rfl rfl (rb_build wr 5 (nb x 7)) HLEN.out (by (have := hF.2; simp; omega)) ?_; intro v2 w2 hob2 hg2 hat2; have hF2 := ((hF.alloc _).grown hg2 (fun k hk => hob.own k hk)).le (Nat.le_succ 1); clear hg2 hat2)
            | fail)
          go_roundw
          case rel => exact ⟨0, by omega, by go_num, by rw [List.append_assoc, HST.out] at hob2; exact hob2, hF2⟩
          case measure => simp [intOf]
        · go_wp2_with (first
            | (at_builtin; refine wpList_append_ob rfl (.tmp 20) (.tmp 27) 22 rfl w.heap.size 5 i0 Try.underlying22 HI.out HZ0.out HZ1.out HZ2.out _ (l ++ (tailB x k).take (k - 2)) rfl (hob.keep ((Below.refl _ _).alloc (Nat.le_refl _) _)) _ (some ⟨wr.heap.size, 0, none⟩) [nb x 6] 1 1 rfl rfl (rb_build wr 5 (nb x 6)) HLEN.out (by (have := hF.2; simp; omega)) ?_; intro v2 w2 hob2 hg2 hat2; have hF2 := ((hF.alloc _).grown hg2 (fun k hk => hob.own k hk)).le (Nat.le_succ 1); clear hg2 hat2)
            | fail)
          go_roundw
          case rel => exact ⟨1, by omega, by go_num, by rw [List.append_assoc, HST.out] at hob2; exact hob2, hF2⟩
          case measure => simp [intOf]
        · go_wp2_with (first
            | (at_builtin; refine wpList_append_ob rfl (.tmp 20) (.tmp 27) 22 rfl w.heap.size 5 i0 Try.underlying22 HI.out HZ0.out HZ1.out HZ2.out _ (l ++ (tailB x k).take (k - 3)) rfl (hob.keep ((Below.refl _ _).alloc (Nat.le_refl _) _)) _ (some ⟨wr.heap.size, 0, none⟩) [nb x 5] 1 1 rfl rfl (rb_build wr 5 (nb x 5)) HLEN.out (by (have := hF.2; simp; omega)) ?_; intro v2 w2 hob2 hg2 hat2; have hF2 := ((hF.alloc _).grown hg2 (fun k hk => hob.own k hk)).le (Nat.le_succ 1); clear hg2 hat2)
            | fail)
          go_roundw
          case rel => exact ⟨2, by omega, by go_num, by rw [List.append_assoc, HST.out] at hob2; exact hob2, hF2⟩
          case measure => simp [intOf]
        · go_wp2_with (first
            | (at_builtin; refine wpList_append_ob rfl (.tmp 20) (.tmp 27) 22 rfl w.heap.size 5 i0 Try.underlying22 HI.out HZ0.out HZ1.out HZ2.out _ (l ++ (tailB x k).take (k - 4)) rfl (hob.keep ((Below.refl _ _).alloc (Nat.le_refl _) _)) _ (some ⟨wr.heap.size, 0, none⟩) [nb x 4] 1 1 rfl rfl (rb_build wr 5 (nb x 4)) HLEN.out (by (have := hF.2; simp; omega)) ?_; intro v2 w2 hob2 hg2 hat2; have hF2 := ((hF.alloc _).grown hg2 (fun k hk => hob.own k hk)).le (Nat.le_succ 1); clear hg2 hat2)
            | fail)
          go_roundw
          case rel => exact ⟨3, by omega, by go_num, by rw [List.append_assoc, HST.out] at hob2; exact hob2, hF2⟩
          case measure => simp [intOf]
        · go_wp2_with (first
            | (at_builtin; refine wpList_append_ob rfl (.tmp 20) (.tmp 27) 22 rfl w.heap.size 5 i0 Try.underlying22 HI.out HZ0.out HZ1.out HZ2.out _ (l ++ (tailB x k).take (k - 5)) rfl (hob.keep ((Below.refl _ _).alloc (Nat.le_refl _) _)) _ (some ⟨wr.heap.size, 0, none⟩) [nb x 3] 1 1 rfl rfl (rb_build wr 5 (nb x 3)) HLEN.out (by (have := hF.2; simp; omega)) ?_; intro v2 w2 hob2 hg2 hat2; have hF2 := ((hF.alloc _).grown hg2 (fun k hk => hob.own k hk)).le (Nat.le_succ 1); clear hg2 hat2)
            | fail)
          go_roundw
          case rel => exact ⟨4, by omega, by go_num, by rw [List.append_assoc, HST.out] at hob2; exact hob2, hF2⟩
          case measure => simp [intOf]
        · go_wp2_with (first
            | (at_builtin; refine wpList_append_ob rfl (.tmp 20) (.tmp 27) 22 rfl w.heap.size 5 i0 Try.underlying22 HI.out HZ0.out HZ1.out HZ2.out _ (l ++ (tailB x k).take (k - 6)) rfl (hob.keep ((Below.refl _ _).alloc (Nat.le_refl _) _)) _ (some ⟨wr.heap.size, 0, none⟩) [nb x 2] 1 1 rfl rfl (rb_build wr 5 (nb x 2)) HLEN.out (by (have := hF.2; simp; omega)) ?_; intro v2 w2 hob2 hg2 hat2; have hF2 := ((hF.alloc _).grown hg2 (fun k hk => hob.own k hk)).le (Nat.le_succ 1); clear hg2 hat2)
            | fail)
          go_roundw
          case rel => exact ⟨5, by omega, by go_num, by rw [List.append_assoc, HST.out] at hob2; exact hob2, hF2⟩
          case measure => simp [intOf]
        · go_wp2_with (first
            | (at_builtin; refine wpList_append_ob rfl (.tmp 20) (.tmp 27) 22 rfl w.heap.size 5 i0 Try.underlying22 HI.out HZ0.out HZ1.out HZ2.out _ (l ++ (tailB x k).take (k - 7)) rfl (hob.keep ((Below.refl _ _).alloc (Nat.le_refl _) _)) _ (some ⟨wr.heap.size, 0, none⟩) [nb x 1] 1 1 rfl rfl (rb_build wr 5 (nb x 1)) HLEN.out (by (have := hF.2; simp; omega)) ?_; intro v2 w2 hob2 hg2 hat2; have hF2 := ((hF.alloc _).grown hg2 (fun k hk => hob.own k hk)).le (Nat.le_succ 1); clear hg2 hat2)
            | fail)
          go_roundw
          case rel => exact ⟨6, by omega, by go_num, by rw [List.append_assoc, HST.out] at hob2; exact hob2, hF2⟩
          case measure => simp [intOf]
        · go_wp2_with (first
            | (at_builtin; refine wpList_append_ob rfl (.tmp 20) (.tmp 27) 22 rfl w.heap.size 5 i0 Try.underlying22 HI.out HZ0.out HZ1.out HZ2.out _ (l ++ (tailB x k).take (k - 8)) rfl (hob.keep ((Below.refl _ _).alloc (Nat.le_refl _) _)) _ (some ⟨wr.heap.size, 0, none⟩) [nb x 0] 1 1 rfl rfl (rb_build wr 5 (nb x 0)) HLEN.out (by (have := hF.2; simp; omega)) ?_; intro v2 w2 hob2 hg2 hat2; have hF2 := ((hF.alloc _).grown hg2 (fun k hk => hob.own k hk)).le (Nat.le_succ 1); clear hg2 hat2)
            | fail)
          go_roundw
          case rel => exact ⟨7, by omega, by go_num, by rw [List.append_assoc, HST.out] at hob2; exact hob2, hF2⟩
          case measure => simp [intOf]
end Go.Proofs.Ytnpbohndhgnfjaa
