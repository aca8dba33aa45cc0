/-
  forkledgerref1: rotl, mix, word and Sum.
-/
import Derived.Test.YtpnmmfacnflngaaR1Of
import Derived.Deep.QuietTactic
import Derived.BigQuiet
namespace Go.Proofs.Ytpnmmfacnflngaa
open Go.ChangeShapes Go.WideShapes Go.ChangeAt Go.RowKit Go.Fl

attribute [local go_sem] bits_xor_iu bits_xor_iu_nat wrap_add_iu

theorem rrotl13_any (x : BitVec 64) (w : World) : Calls Try.prog 55 #[U x, .int .u64 13] w fun e w' => e = .returned (U (rot13 x)) ∧ w = w' := by
  have h0 := iu_lo x
  have h1 := iu_hi x
  go_enter Try.func55, Try.ntmps55
  go_wp2
  go_ret
  exact ⟨by rw [rot13_iu]; rfl, rfl⟩

theorem rrotl32_any (x : BitVec 64) (w : World) : Calls Try.prog 55 #[U x, .int .u64 32] w fun e w' => e = .returned (U (rot32 x)) ∧ w = w' := by
  have h0 := iu_lo x
  have h1 := iu_hi x
  go_enter Try.func55, Try.ntmps55
  go_wp2
  go_ret
  exact ⟨by rw [rot32_iu]; rfl, rfl⟩

theorem rmix_any (x y : BitVec 64) (w : World) : Calls Try.prog 52 #[U x, U y] w fun e w' => e = .returned (.tuple #[U (mixX x y), U (mixY x y)]) ∧ w = w' := by
  go_enter Try.func52, Try.ntmps52
  go_wp2_with fail
  refine (rrotl13_any _ _).mono ?_; rintro e w1 ⟨rfl, rfl⟩
  go_wp2_with fail
  refine (rrotl32_any _ _).mono ?_; rintro e w1 ⟨rfl, rfl⟩
  go_wp2_with fail
  go_ret2
  exact ⟨by rw [mixX_iu]; rfl, rfl⟩

theorem word_long (A : Option Addr) (l : List UInt8) (c : Nat) (hc : l.length ≤ c) (hm : c ≤ 9223372036854775807) (h8 : 8 ≤ l.length) (w : World) (hr : RB w w.heap.size A l) :
    Calls Try.prog 51 #[.slice A l.length c] w fun e w' => e = .returned (U (wordOf l)) ∧ Below w.heap.size w w' := by
  obtain ⟨g, off, rfl, hg, hcell⟩ := hr (by omega)
  have hcs : ∀ i, i < 8 → w.cell? ⟨g, off + i, none⟩ = some (B (nb (wordOf l) i)) := fun i hi => by
    rw [nb_wordOf l i hi, List.getD_eq_getElem?_getD, List.getElem?_eq_getElem (by omega)]
    exact hcell i _ (List.getElem?_eq_getElem _)
  clear hcell hr
  have c0 : w.cell? ⟨g, off, none⟩ = some (B (nb (wordOf l) 0)) := hcs 0 (by omega)
  have c1 := hcs 1 (by omega); have c2 := hcs 2 (by omega); have c3 := hcs 3 (by omega)
  have c4 := hcs 4 (by omega); have c5 := hcs 5 (by omega); have c6 := hcs 6 (by omega); have c7 := hcs 7 (by omega)
  clear hcs
  generalize wordOf l = x at *
  have l0 := ub_lo (nb x 0); have u0 := ub_hi (nb x 0)
  have l1 := ub_lo (nb x 1); have u1 := ub_hi (nb x 1)
  have l2 := ub_lo (nb x 2); have u2 := ub_hi (nb x 2)
  have l3 := ub_lo (nb x 3); have u3 := ub_hi (nb x 3)
  have l4 := ub_lo (nb x 4); have u4 := ub_hi (nb x 4)
  have l5 := ub_lo (nb x 5); have u5 := ub_hi (nb x 5)
  have l6 := ub_lo (nb x 6); have u6 := ub_hi (nb x 6)
  have l7 := ub_lo (nb x 7); have u7 := ub_hi (nb x 7)
  have i0 : (0 : Int) < (l.length : Int) := by omega
  have i1 : (1 : Int) < (l.length : Int) := by omega
  have i2 : (2 : Int) < (l.length : Int) := by omega
  have i3 : (3 : Int) < (l.length : Int) := by omega
  have i4 : (4 : Int) < (l.length : Int) := by omega
  have i5 : (5 : Int) < (l.length : Int) := by omega
  have i6 : (6 : Int) < (l.length : Int) := by omega
  have i7 : (7 : Int) < (l.length : Int) := by omega
  have i8 : (8 : Int) ≤ (l.length : Int) := by omega
  go_enter Try.func51, Try.ntmps51
  go_wp2
  go_quiet (fail)
  go_wp2
  go_ret
  exact ⟨by rw [or_bytes]; rfl, fl_drewN _ _ _⟩

set_option maxRecDepth 10000 in
set_option maxHeartbeats 1000000 in
theorem word_short (A : Option Addr) (l : List UInt8) (c : Nat) (_hc : l.length ≤ c) (_hm : c ≤ 9223372036854775807) (h8 : l.length < 8) (w : World) (hr : RB w w.heap.size A l) :
    Calls Try.prog 51 #[.slice A l.length c] w fun e w' => e = .returned (U (wordOf l)) ∧ Below w.heap.size w w' := by
  have i8 : (l.length : Int) < 8 := by omega
  go_enter Try.func51, Try.ntmps51
  go_wp2
  go_loop [3, 4] (fun v i => ∃ k : Nat, k ≤ l.length ∧ i = .int .i64 k ∧ v = .int .u64 (wsum l k)) (fun _ i => l.length - (intOf i).toNat)
  case atStart => exact ⟨0, by omega, rfl, rfl⟩
  case round =>
    obtain ⟨k, hk, rfl, rfl⟩ := hrel
    by_cases h : k < l.length
    · obtain ⟨g, off, rfl, hg, hcell⟩ := hr (by omega)
      have hk1 : (k : Int) < (l.length : Int) := by omega
      have hcc := hcell k _ (List.getElem?_eq_getElem h)
      have hgd : l.getD k 0 = l[k] := by rw [List.getD_eq_getElem?_getD, List.getElem?_eq_getElem h]; rfl
      have hs := wsum_step l k (by omega)
      rw [hgd] at hs
      have HS := Lib.hid hs
      clear hs hgd hcell hr
      have lo := ub_lo l[k]
      have hi := ub_hi l[k]
      generalize l[k] = b at *
      have : k = 0 ∨ k = 1 ∨ k = 2 ∨ k = 3 ∨ k = 4 ∨ k = 5 ∨ k = 6 := by omega
      rcases this with rfl | rfl | rfl | rfl | rfl | rfl | rfl
      all_goals try simp only [Nat.add_zero] at hcc
      all_goals go_wp2
      · go_round
        case rel => exact ⟨1, by omega, rfl, by (have hs := HS.out; simp at hs; rw [hs])⟩
        case measure => simp [intOf]; omega
      · go_round
        case rel => exact ⟨2, by omega, rfl, by (have hs := HS.out; simp at hs; rw [hs])⟩
        case measure => simp [intOf]; omega
      · go_round
        case rel => exact ⟨3, by omega, rfl, by (have hs := HS.out; simp at hs; rw [hs])⟩
        case measure => simp [intOf]; omega
      · go_round
        case rel => exact ⟨4, by omega, rfl, by (have hs := HS.out; simp at hs; rw [hs])⟩
        case measure => simp [intOf]; omega
      · go_round
        case rel => exact ⟨5, by omega, rfl, by (have hs := HS.out; simp at hs; rw [hs])⟩
        case measure => simp [intOf]; omega
      · go_round
        case rel => exact ⟨6, by omega, rfl, by (have hs := HS.out; simp at hs; rw [hs])⟩
        case measure => simp [intOf]; omega
      · go_round
        case rel => exact ⟨7, by omega, rfl, by (have hs := HS.out; simp at hs; rw [hs])⟩
        case measure => simp [intOf]; omega
    · obtain rfl : k = l.length := by omega
      go_wp2
      go_ret
      exact ⟨by rw [← wsum_more l 8 (by omega), wsum_all]; rfl, Below.refl _ _⟩

theorem word_any (A : Option Addr) (l : List UInt8) (c : Nat) (hc : l.length ≤ c) (hm : c ≤ 9223372036854775807) (w : World) (hr : RB w w.heap.size A l) :
    Calls Try.prog 51 #[.slice A l.length c] w fun e w' => e = .returned (U (wordOf l)) ∧ Below w.heap.size w w' := by
  by_cases h : 8 ≤ l.length
  · exact word_long A l c hc hm h w hr
  · exact word_short A l c hc hm (by omega) w hr

theorem word_n (A : Option Addr) (l : List UInt8) (n c : Nat) (hn : n = l.length) (hc : l.length ≤ c) (hm : c ≤ 9223372036854775807) (w : World) (hr : RB w w.heap.size A l) :
    Calls Try.prog 51 #[.slice A n c] w fun e w' => e = .returned (U (wordOf l)) ∧ Below w.heap.size w w' := by
  rw [hn]
  exact word_any A l c hc hm w hr

set_option maxRecDepth 10000 in
set_option maxHeartbeats 1000000 in
theorem rsum_any (A : Option Addr) (l : List UInt8) (c : Nat) (hc : l.length ≤ c) (hm : c ≤ 9223372036854775807) (hl : l.length ≤ 281474976710656) (w : World) (hr : RB w w.heap.size A l) :
    Calls Try.prog 45 #[.slice A l.length c] w fun e w' => e = .returned (nm (sumF l)) ∧ Below w.heap.size w w' := by
  have hz := Is.new w 24 #[B 0, B 0, B 0, B 0, B 0, B 0, B 0, B 0]
  have hF : Fr w 1 (w.alloc (.cells #[B 0, B 0, B 0, B 0, B 0, B 0, B 0, B 0] 24)) := (Fr.refl w).alloc _
  have hm' : (l.length : Int) ≤ 281474976710656 := by omega
  go_enter Try.func45, Try.ntmps45
  go_wp2
  go_loopw [3, 4, 5] (fun x y i wr => ∃ (t : St) (k : Nat), x = U t.1 ∧ y = U t.2 ∧ i = .int .i64 k ∧ k ≤ l.length + 7 ∧ Hid (absorbF t (l.drop k) = absorbF hash0 l) ∧ Fr w 1 wr ∧ Is wr w.heap.size 24 #[B 0, B 0, B 0, B 0, B 0, B 0, B 0, B 0]) (fun _ _ i _ => l.length + 7 - (intOf i).toNat)
  case atStart => exact ⟨hash0, 0, by simp [U, start_fst], by simp [U, start_snd], rfl, by omega, rfl, hF, hz⟩
  case round =>
    clear hz hF
    obtain ⟨t, k, rfl, rfl, rfl, hk, ha, hF, hz⟩ := hrel
    by_cases h : k < l.length
    · obtain ⟨g, off, rfl, hg, hcell⟩ := hr (by omega)
      have hcap : ¬ c = k := by omega
      have hk1 : (k : Int) ≤ (l.length : Int) := by omega
      have hrd : RB wr wr.heap.size (some ⟨g, off + k, none⟩) (l.drop k) := by
        have := ((carry hr (Fr.refl w) hF).drop k).mono (m := wr.heap.size) (by have := hF.2; omega)
        simpa [add_plain] using this
      have HRD := Lib.hid hrd
      have hnext := absorb_at hash0 t l k ha.out h
      have HN := Lib.hid hnext
      clear hrd ha hcell hnext
      go_wp2_with (first
        | (go_at_call 51; refine (word_n _ (l.drop k) _ _ (by simp) (by simp; omega) (by omega) _ HRD.out).mono ?_; rintro e w1 ⟨rfl, hb⟩; have hF1 := hF.next hb; have hz1 := hz.next hb; clear hb)
        | (go_at_call 52; refine (rmix_any _ _ _).mono ?_; rintro e w' ⟨rfl, rfl⟩))
      go_roundw
      case rel => exact ⟨roundS t (wordOf (l.drop k)), k + 8, by rw [roundS_fst], by rw [roundS_snd], by go_num, by omega, HN.out, hF1, hz1⟩
      case measure => simp [intOf]; omega
    · have ha' := ha.out
      rw [List.drop_eq_nil_of_le (by omega), absorbF_nil] at ha'
      obtain rfl := ha'
      clear ha
      go_wp2
      go_loop [3, 4, 6] (fun a b i => ∃ k : Nat, k ≤ 4 ∧ i = .int .i64 k ∧ a = U (mixN k ((absorbF hash0 l).1, (absorbF hash0 l).2 ^^^ ofn l.length)).1 ∧ b = U (mixN k ((absorbF hash0 l).1, (absorbF hash0 l).2 ^^^ ofn l.length)).2) (fun _ _ i => 4 - (intOf i).toNat)
      case atStart => exact ⟨0, by omega, rfl, rfl, rfl⟩
      case round =>
        obtain ⟨j, hj, rfl, rfl, rfl⟩ := hrel
        by_cases h : j < 4
        · go_wp2_with (go_at_call 52; refine (rmix_any _ _ _).mono ?_; rintro e w' ⟨rfl, rfl⟩)
          go_round
          case rel => exact ⟨j + 1, by omega, by go_num, by rw [mixN_fst], by rw [mixN_snd]⟩
          case measure => simp [intOf]; omega
        · obtain rfl : j = 4 := by omega
          go_wp2_with (first
            | (go_at_call 53; refine (rof_any _ _).mono ?_; rintro e w1 ⟨rfl, hb⟩; replace hz := hz.next hb; replace hF := hF.next hb; clear hb)
            | (refine wpList_store_is rfl 24 (.tmp 2) (.tmp 49) rfl w.heap.size 24 _ (nmC _) rfl rfl hz (nmC_size _) name_info (nmC_one _) ?_; intro w3 hz3 hb3))
          exact ret_is rfl w.heap.size 24 _ rfl hz3 Try.underlying24 rfl name_info rfl ⟨by rw [finF_eq, sumF_eq], hF.1.trans hb3⟩

theorem rsum_is {x : BitVec 64} (A : Option Addr) (l : List UInt8) (c : Nat) (hx : Hid (sumF l = x)) (hc : l.length ≤ c) (hm : c ≤ 9223372036854775807) (hl : l.length ≤ 281474976710656) (w : World) (hr : RB w w.heap.size A l) :
    Calls Try.prog 45 #[.slice A l.length c] w fun e w' => e = .returned (nm x) ∧ Below w.heap.size w w' := by
  have h := hx.out
  subst h
  exact rsum_any A l c hc hm hl w hr

theorem rsum_n {x : BitVec 64} (A : Option Addr) (l : List UInt8) (n c : Nat) (hn : Hid (n = l.length)) (hx : Hid (sumF l = x)) (hc : l.length ≤ c) (hm : c ≤ 9223372036854775807) (hl : l.length ≤ 281474976710656) (w : World) (hr : RB w w.heap.size A l) :
    Calls Try.prog 45 #[.slice A n c] w fun e w' => e = .returned (nm x) ∧ Below w.heap.size w w' := by
  rw [hn.out]
  exact rsum_is A l c hx hc hm hl w hr
end Go.Proofs.Ytpnmmfacnflngaa
