/-
  hash.finish and hash.absorb, for every state and every slice of bytes.
-/
import Derived.Test.YtpnmmfacnflngaaHNum
import Derived.Test.YtpnmmfacnflngaaHMix
namespace Go.Proofs.Ytpnmmfacnflngaa
open Go.ChangeShapes Go.WideShapes Go.ChangeAt Go.RowKit Go.Fl

attribute [local go_sem] bits_xor_iu bits_xor_iu_nat

set_option maxRecDepth 10000 in
set_option maxHeartbeats 400000 in
theorem finish_any (x y : BitVec 64) (n : Nat) (hn : n ≤ 9223372036854775807) (w : World) :
    Calls Try.prog 38 #[U x, U y, .int .i64 n] w fun e w' => e = .returned (nm (finF (x, y) n)) ∧ Below w.heap.size w w' := by
  go_enter Try.func38, Try.ntmps38
  go_wp2
  go_loop [0, 1, 11] (fun a b i => ∃ k : Nat, k ≤ 4 ∧ i = .int .i64 k ∧ a = U (mixN k (x, y ^^^ ofn n)).1 ∧ b = U (mixN k (x, y ^^^ ofn n)).2) (fun _ _ i => 4 - (intOf i).toNat)
  case atStart => exact ⟨0, by omega, rfl, rfl, rfl⟩
  case round =>
    obtain ⟨k, hk, rfl, rfl, rfl⟩ := hrel
    by_cases h : k < 4
    · go_wp2_with (go_at_call 47; refine (mix_any _ _ _).mono ?_; rintro e w' ⟨rfl, rfl⟩)
      go_round
      case rel => exact ⟨k + 1, by omega, by go_num, by rw [mixN_fst], by rw [mixN_snd]⟩
      case measure => simp [intOf]; omega
    · obtain rfl : k = 4 := by omega
      have hz := Is.new w 24 #[B 0, B 0, B 0, B 0, B 0, B 0, B 0, B 0]
      have hF : Fr w 1 (w.alloc (.cells #[B 0, B 0, B 0, B 0, B 0, B 0, B 0, B 0] 24)) := (Fr.refl w).alloc _
      go_wp2_with (first
        | (go_at_call 49; refine (of_any _ _).mono ?_; rintro e w1 ⟨rfl, hb⟩; replace hz := hz.next hb; replace hF := hF.next hb)
        | (refine wpList_store_is rfl 24 (.tmp 6) (.tmp 23) rfl w.heap.size 24 _ (nmC _) rfl rfl hz (nmC_size _) name_info (nmC_one _) ?_; intro w2 hz2 hb2))
      exact ret_is rfl w.heap.size 24 _ rfl hz2 Try.underlying24 rfl name_info rfl ⟨by rw [finF_eq], hF.1.trans hb2⟩

set_option maxRecDepth 10000 in
set_option maxHeartbeats 1000000 in
theorem absorb_any (s : St) (A : Option Addr) (l : List UInt8) (c : Nat) (hc : l.length ≤ c) (hm : c ≤ 9223372036854775807) (w : World) (hr : RB w w.heap.size A l) :
    Calls Try.prog 37 #[U s.1, U s.2, .slice A l.length c] w fun e w' => e = .returned (.tuple #[U (absorbF s l).1, U (absorbF s l).2]) ∧ Below w.heap.size w w' := by
  go_enter Try.func37, Try.ntmps37
  go_wp2
  go_loopw [0, 1, 2] (fun x y b wr => ∃ (t : St) (A' : Option Addr) (l' : List UInt8) (c' : Nat), x = U t.1 ∧ y = U t.2 ∧ b = .slice A' l'.length c' ∧ l'.length ≤ c' ∧ c' ≤ 9223372036854775807 ∧ RB wr w.heap.size A' l' ∧ Hid (absorbF t l' = absorbF s l) ∧ Fr w 0 wr) (fun _ _ b _ => lenOf b)
  case atStart => exact ⟨s, A, l, c, rfl, rfl, rfl, hc, hm, hr, rfl, Fr.refl w⟩
  case round =>
    obtain ⟨t, A', l', c', rfl, rfl, rfl, hlc, hcm, hrb, habs, hF⟩ := hrel
    by_cases hl : 0 < l'.length
    · obtain ⟨g, off, rfl, hg, hcell⟩ := hrb hl
      obtain ⟨cs, hcs⟩ : ∃ cs, cs = (l'.take 8).map B := ⟨_, rfl⟩
      have hcl : cs.length = min 8 l'.length := by subst hcs; simp
      have hc1 : 0 < cs.length := by omega
      have hc2 : cs.length ≤ 8 := by omega
      have hc3 : cs.length ≤ l'.length := by omega
      have hc4 : cs.length = Nat.min l'.length 8 := by rw [hcl]; exact Nat.min_comm _ _
      have HC4 := Lib.hid hc4
      clear hc4
      have HCL := Lib.hid hcl
      clear hcl
      have HCS := Lib.hid hcs
      have hz : Is (wr.alloc (.cells #[B 0, B 0, B 0, B 0, B 0, B 0, B 0, B 0] 24)) wr.heap.size 24 (List.replicate 8 (B 0)).toArray := Is.new _ _ _
      have hF1 : Fr w 1 (wr.alloc (.cells #[B 0, B 0, B 0, B 0, B 0, B 0, B 0, B 0] 24)) := hF.alloc _
      have hpos : ∀ j v, cs[j]? = some v → (wr.alloc (.cells #[B 0, B 0, B 0, B 0, B 0, B 0, B 0, B 0] 24)).cell? ((⟨g, off, none⟩ : Addr).add j) = some v := by
        intro j v hj
        rw [HCS.out, List.getElem?_map, List.getElem?_take] at hj
        rw [add_plain]
        split at hj
        · obtain ⟨b, hb, rfl⟩ : ∃ b, l'[j]? = some b ∧ B b = v := by simpa using hj
          exact (World.cell?_of_block (w := wr) (Below.heap_alloc wr _ g (by have := hF.2; omega))).trans (hcell j b hb)
        · simp at hj
      have HPOS := Lib.hid hpos
      clear hpos
      clear hcs
      have h1 : ∀ v ∈ cs, v.oneCell' = true := by
        intro v hv
        rw [HCS.out] at hv
        rw [List.mem_map] at hv
        obtain ⟨b, _, hbv⟩ := hv
        rw [← hbv]
        rfl
      have H1 := Lib.hid h1
      clear h1
      have hi1 : (cs.length : Int) ≤ (l'.length : Int) := by omega
      have hd : l'.length - cs.length = (l'.drop 8).length := by have := HCL.out; simp; omega
      have HD := Lib.hid hd
      clear hd
      by_cases hcap : c' = cs.length
      all_goals go_wp2_with (first
          | (refine wpList_copy_splice rfl (.tmp 13) (.tmp 14) 29 29 rfl 5 Try.underlying29 byte_info _ _ _ _ _ _ rfl rfl wr.heap.size 0 (List.replicate 8 (B 0)) 24 hz cs HC4.out (fun _ => ⟨rfl, _, rfl, HPOS.out⟩) (by simp; omega) H1.out wr.heap.size _ (Below.refl _ _) (Nat.le_refl _) ?_; intro w2 HG hb2; have hz2 := word_is HG HCS; have hA := hz2.cell; have hF2 := hF1.step hb2 (by have := hF.2; omega))
          | (go_at_call 48; refine (number_any _ _).mono ?_; rintro e w3 ⟨rfl, hb3⟩; have hF3 := hF2.next hb3; clear hb3)
          | (go_at_call 47; refine (mix_any _ _ _).mono ?_; rintro e w' ⟨rfl, rfl⟩))
      · go_roundw
        case rel => exact ⟨roundS t (wordOf l'), _, l'.drop 8, 0, by rw [roundS_fst], by rw [roundS_snd], slice_eq HD.out rfl, by (have := HD.out; omega), by omega, rest_nil (carry hrb hF hF3) HCL.out (by omega), by (have := habs.out; rw [absorbF_cons hl] at this; exact this), hF3.le (by omega)⟩
        case measure => simp [lenOf]; omega
      · go_roundw
        case rel => exact ⟨roundS t (wordOf l'), _, l'.drop 8, c' - cs.length, by rw [roundS_fst], by rw [roundS_snd], slice_eq HD.out rfl, by (have := HD.out; omega), by omega, rest_is (c := c') (carry hrb hF hF3) HCL.out hcap, by (have := habs.out; rw [absorbF_cons hl] at this; exact this), hF3.le (by omega)⟩
        case measure => simp [lenOf]; omega
    · obtain rfl : l' = [] := List.eq_nil_of_length_eq_zero (by omega)
      have ha := habs.out
      rw [absorbF_nil] at ha
      have HA := Lib.hid ha
      clear ha habs
      go_wp2
      go_ret2
      exact ⟨by rw [← HA.out]; rfl, hF.1⟩

theorem absorb_start (A : Option Addr) (l : List UInt8) (c : Nat) (hc : l.length ≤ c) (hm : c ≤ 9223372036854775807) (w : World) (hr : RB w w.heap.size A l) :
    Calls Try.prog 37 #[.int .u64 2611923443488327891, .int .u64 1376283091369227076, .slice A l.length c] w fun e w' => e = .returned (.tuple #[U (absorbF hash0 l).1, U (absorbF hash0 l).2]) ∧ Below w.heap.size w w' := by
  have h : Calls Try.prog 37 #[.int .u64 (iu hash0.1), .int .u64 (iu hash0.2), .slice A l.length c] w fun e w' => e = .returned (.tuple #[U (absorbF hash0 l).1, U (absorbF hash0 l).2]) ∧ Below w.heap.size w w' := absorb_any hash0 A l c hc hm w hr
  rw [start_fst, start_snd] at h
  exact h

theorem absorb_start_n (A : Option Addr) (l : List UInt8) (n c : Nat) (hn : n = l.length) (hc : l.length ≤ c) (hm : c ≤ 9223372036854775807) (w : World) (hr : RB w w.heap.size A l) :
    Calls Try.prog 37 #[.int .u64 2611923443488327891, .int .u64 1376283091369227076, .slice A n c] w fun e w' => e = .returned (.tuple #[U (absorbF hash0 l).1, U (absorbF hash0 l).2]) ∧ Below w.heap.size w w' := by
  rw [hn]
  exact absorb_start A l c hc hm w hr

theorem absorb_n (s : St) (A : Option Addr) (l : List UInt8) (n c : Nat) (hn : n = l.length) (hc : l.length ≤ c) (hm : c ≤ 9223372036854775807) (w : World) (hr : RB w w.heap.size A l) :
    Calls Try.prog 37 #[U s.1, U s.2, .slice A n c] w fun e w' => e = .returned (.tuple #[U (absorbF s l).1, U (absorbF s l).2]) ∧ Below w.heap.size w w' := by
  rw [hn]
  exact absorb_any s A l c hc hm w hr

theorem finish_i (x y : BitVec 64) (m : Int) (n : Nat) (h : m = (n : Int)) (hn : n ≤ 9223372036854775807) (w : World) :
    Calls Try.prog 38 #[U x, U y, .int .i64 m] w fun e w' => e = .returned (nm (finF (x, y) n)) ∧ Below w.heap.size w w' := by
  subst h
  exact finish_any x y n hn w
end Go.Proofs.Ytpnmmfacnflngaa
