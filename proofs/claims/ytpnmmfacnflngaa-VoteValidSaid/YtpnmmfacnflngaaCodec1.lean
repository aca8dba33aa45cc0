/-
  The program's codec: its small helpers (has, copyWithRoom, putUint) and the reading of a number.
-/
import Derived.Test.YtpnmmfacnflngaaSp2
import Derived.Test.YtpnmmfacnflngaaMake
namespace Go.Fl
open Go.ChangeShapes Go.WideShapes Go.ChangeAt Go.RowKit
theorem tailB_up (x : BitVec 64) (k j d e : Nat) (hk : k ≤ 8) (hj : j + d + 1 = k) (he : e + d = 7) : (tailB x k).take j ++ [nb x e] = (tailB x k).take (j + 1) := by
  have h := tailB_step x k (d + 1) hk (by omega) (by omega)
  have e1 : k - (d + 1) = j := by omega
  have e2 : k - (d + 1 - 1) = j + 1 := by omega
  have e3 : 8 - (d + 1) = e := by omega
  rw [e1, e2, e3] at h
  exact h
end Go.Fl
namespace Go.Proofs.Ytpnmmfacnflngaa
open Go.ChangeShapes Go.WideShapes Go.ChangeAt Go.RowKit Go.Fl

theorem has_any (A : Option Addr) (l : List UInt8) (c : Nat) (p n : Int) (hm : l.length ≤ 281474976710656) (hp : I64 p) (w : World) :
    Calls Try.prog 46 #[.slice A l.length c, .int .i64 p, .int .i64 n] w fun e w' => e = .returned (.bool (decide (0 ≤ p ∧ n ≤ (l.length : Int) - p))) ∧ w = w' := by
  have hm' : (l.length : Int) ≤ 281474976710656 := by omega
  have hl0 : (0 : Int) ≤ (l.length : Int) := by omega
  have hp1 := hp.1
  have hp2 := hp.2
  by_cases h0 : p < 0
  · have e : decide (0 ≤ p ∧ n ≤ (l.length : Int) - p) = false := by rw [decide_eq_false_iff_not]; omega
    rw [e]
    go_enter Try.func46, Try.ntmps46
    go_wp2
    go_ret
    exact ⟨rfl, rfl⟩
  · by_cases h1 : n ≤ (l.length : Int) - p
    · have e : decide (0 ≤ p ∧ n ≤ (l.length : Int) - p) = true := by rw [decide_eq_true_iff]; omega
      rw [e]
      go_enter Try.func46, Try.ntmps46
      go_wp2
      go_ret
      exact ⟨rfl, rfl⟩
    · have e : decide (0 ≤ p ∧ n ≤ (l.length : Int) - p) = false := by rw [decide_eq_false_iff_not]; omega
      rw [e]
      go_enter Try.func46, Try.ntmps46
      go_wp2
      go_ret
      exact ⟨rfl, rfl⟩
theorem has_yes (A : Option Addr) (l : List UInt8) (c : Nat) (p n : Int) (hm : l.length ≤ 281474976710656) (h0 : 0 ≤ p) (h1 : n ≤ (l.length : Int) - p) (h2 : p ≤ 281474976710656) (w : World) :
    Calls Try.prog 46 #[.slice A l.length c, .int .i64 p, .int .i64 n] w fun e w' => e = .returned (.bool true) ∧ w = w' := by
  have h := has_any A l c p n hm ⟨by omega, by omega⟩ w
  rwa [decide_eq_true (by omega)] at h
theorem has_no (A : Option Addr) (l : List UInt8) (c : Nat) (p n : Int) (hm : l.length ≤ 281474976710656) (hp : I64 p) (h1 : p < 0 ∨ (l.length : Int) - p < n) (w : World) :
    Calls Try.prog 46 #[.slice A l.length c, .int .i64 p, .int .i64 n] w fun e w' => e = .returned (.bool false) ∧ w = w' := by
  have h := has_any A l c p n hm hp w
  rwa [decide_eq_false (by omega)] at h

theorem uint_no (A : Option Addr) (l : List UInt8) (c : Nat) (p n : Int) (h : n < 1 ∨ 8 < n ∨ p < 0 ∨ (l.length : Int) - n < p) (hm : l.length ≤ 281474976710656) (hp : I64 p) (w : World) :
    Calls Try.prog 36 #[.slice A l.length c, .int .i64 p, .int .i64 n] w fun e w' => e = .returned (.tuple #[.int .u64 0, .bool false]) ∧ w = w' := by
  have hm' : (l.length : Int) ≤ 281474976710656 := by omega
  have hl0 : (0 : Int) ≤ (l.length : Int) := by omega
  by_cases h1 : n < 1
  · go_enter Try.func36, Try.ntmps36
    go_wp2
    go_ret2
    exact ⟨rfl, rfl⟩
  · by_cases h2 : 8 < n
    · go_enter Try.func36, Try.ntmps36
      go_wp2
      go_ret2
      exact ⟨rfl, rfl⟩
    · have h4 : p < 0 ∨ (l.length : Int) - p < n := by omega
      clear h
      go_enter Try.func36, Try.ntmps36
      go_wp2_with (first
        | (go_at_call 46; refine (has_no A l c p n hm hp h4 _).mono ?_; rintro e w1 ⟨rfl, rfl⟩)
        | fail)
      go_ret2
      exact ⟨rfl, rfl⟩

set_option maxRecDepth 10000 in
set_option maxHeartbeats 1000000 in
theorem uint_yes (A : Option Addr) (l : List UInt8) (c : Nat) (p n : Nat) (h1 : 1 ≤ n) (h8 : n ≤ 8) (hp : p + n ≤ l.length) (hc : l.length ≤ c) (hm : l.length ≤ 281474976710656) (w : World) (hr : RB w w.heap.size A l) :
    Calls Try.prog 36 #[.slice A l.length c, .int .i64 p, .int .i64 n] w fun e w' => e = .returned (.tuple #[U (uintV ((l.drop p).take n)), .bool true]) ∧ w = w' := by
  obtain ⟨g, off, rfl, hg, hcell⟩ := hr (by omega)
  obtain ⟨i0, hi, hz0, hz1, hz2⟩ := info_parts info_byte
  have hsl := fun (W : World) => run_range_at (P := Try.prog) Try.underlying29 hi hz1 g off l.length c p n (X := (p : Int)) (Y := (p : Int) + (n : Int)) rfl (by omega) (by omega) (by omega) W
  clear hr hi hz0 hz1 hz2
  have q1 : (1 : Int) ≤ (n : Int) := by omega
  have q2 : (n : Int) ≤ 8 := by omega
  have q3 : (0 : Int) ≤ (p : Int) := by omega
  have q4 : (n : Int) ≤ (l.length : Int) - (p : Int) := by omega
  have q5 : (l.length : Int) ≤ 281474976710656 := by omega
  go_enter Try.func36, Try.ntmps36
  go_wp2_with (first
    | (go_at_call 46; refine (has_yes _ l c p n hm q3 q4 (by omega) _).mono ?_; rintro e w1 ⟨rfl, rfl⟩)
    | fail)
  go_loop [8, 31] (fun v i => ∃ k : Nat, k ≤ n ∧ i = .int .i64 k ∧ v = .int .u64 (beI ((l.drop p).take k))) (fun _ i => n - (intOf i).toNat)
  case atStart => exact ⟨0, by omega, rfl, by simp [beI]⟩
  case round =>
    obtain ⟨k, hk, rfl, rfl⟩ := hrel
    by_cases h : k < n
    · have hlen : ((l.drop p).take k).length = k := part_len l p k (by omega)
      obtain ⟨b, hb⟩ : ∃ b, l[p + k]? = some b := ⟨_, List.getElem?_eq_getElem (by omega)⟩
      have hstep := beI_step ((l.drop p).take k) b (by omega)
      rw [part_snoc l p k b hb] at hstep
      have HS := Lib.hid hstep
      obtain ⟨r0, r1⟩ := beI_lt ((l.drop p).take k) (by omega)
      have hc2 := hcell (p + k) b hb
      rw [← Nat.add_assoc] at hc2
      have lo := ub_lo b
      have hi := ub_hi b
      have s1 : (k : Int) < (n : Int) := by omega
      clear hstep hlen hcell hb
      go_wp2
      go_round
      case rel => exact ⟨k + 1, by omega, by go_num, by rw [HS.out]⟩
      case measure => simp [intOf]; omega
    · obtain rfl : k = n := by omega
      go_wp2
      go_ret2
      exact ⟨by rw [← uintV_iu _ (by rw [part_len l p k hp]; exact h8)]; rfl, rfl⟩

set_option maxRecDepth 10000 in
set_option maxHeartbeats 1000000 in
/-- copyWithRoom: the same bytes in memory of the call's own. -/
theorem room_any (A : Option Addr) (l : List UInt8) (c : Nat) (R : Int) (r : Nat) (hR : R = (r : Int)) (hm : l.length + r ≤ 160000000000000) (w : World) (hr : RB w w.heap.size A l) :
    Calls Try.prog 43 #[.slice A l.length c, .int .i64 R] w (RetOB w 5 l) := by
  obtain ⟨i0, hi, hz0, hz1, hz2⟩ := info_parts info_byte
  have HI := Lib.hid hi
  have HZ0 := Lib.hid hz0
  have HZ1 := Lib.hid hz1
  have HZ2 := Lib.hid hz2
  have HR := Lib.hid hr
  have HRR := Lib.hid hR
  obtain ⟨cs, hcs⟩ : ∃ cs, cs = l.map B := ⟨_, rfl⟩
  have hcl : cs.length = l.length := by rw [hcs]; simp
  have HCL := Lib.hid hcl
  have HN : Hid (cs.length = Nat.min l.length l.length) := Lib.hid (hcl.trans (Nat.min_self _).symm)
  have HCS := Lib.hid hcs
  have H1 : Hid (∀ v ∈ cs, v.oneCell' = true) := Lib.hid (by rw [hcs]; exact bytes_one l)
  have s1 : 0 ≤ R := by omega
  have s2 : (l.length : Int) + R ≤ 160000000000000 := by omega
  clear hi hz0 hz1 hz2 hr hR hcs hcl
  go_enter Try.func43, Try.ntmps43
  go_wp2_with (first
    | (at_make; refine wpList_make_sl rfl _ _ 29 rfl 5 i0 _ 1 1 Try.underlying29 HI.out HZ0.out HZ1.out HZ2.out _ _ _ _ l.length (l.length + r) rfl rfl (by go_num) (by (have := HRR.out; go_num)) (by omega) (by omega) (by omega) ?_; intro Z w1 hZ hz hF1)
    | (refine wpList_copy_splice rfl (.tmp 13) (.tmp 14) 29 29 rfl 5 Try.underlying29 byte_info _ _ _ _ _ _ rfl rfl w.heap.size 0 Z 5 hz cs (HN.out) (fun hp => ⟨rfl, rb_src HR.out hF1.1 HCS.out hp⟩) (by (have := hZ.out; have := HCL.out; omega)) H1.out w.heap.size _ (Below.refl _ _) (Nat.le_refl _) ?_; intro w2 HG hb2)
    | fail)
  go_ret
  exact ⟨_, rfl, ob_splice HG hZ HCS.out rfl (by omega) (by omega) (Nat.le_refl _), hF1.1.trans hb2⟩
end Go.Proofs.Ytpnmmfacnflngaa
