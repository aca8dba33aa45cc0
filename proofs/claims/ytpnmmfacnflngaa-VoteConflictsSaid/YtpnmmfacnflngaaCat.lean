/-
  The library's slices.Grow(nil, n) and slices.Concat of byte strings, walked.
-/
import Derived.Test.YtpnmmfacnflngaaSeat
import Derived.Test.YtpnmmfacnflngaaVals
import Derived.Test.YtpnmmfacnflngaaSp2
import Derived.Test.YtpnmmfacnflngaaHeld
import Derived.Lib.AppendZeros
namespace Go.Fl
open Go.ChangeShapes Go.WideShapes Go.ChangeAt Go.RowKit
/-- How long the first k of these are together. -/
def lensF (ls : List (List UInt8)) (k : Nat) : Nat := (ls.take k).flatten.length
theorem lensF_succ (ls : List (List UInt8)) (k : Nat) (l : List UInt8) (h : ls[k]? = some l) : lensF ls (k + 1) = lensF ls k + l.length := by
  unfold lensF
  rw [← take_snoc ls k l h]
  simp
theorem lensF_le (ls : List (List UInt8)) (k : Nat) : lensF ls k ≤ ls.flatten.length := by
  unfold lensF
  have e : ls.flatten = (ls.take k).flatten ++ (ls.drop k).flatten := by rw [← List.flatten_append, List.take_append_drop]
  rw [e]
  simp
theorem flat_snoc (ls : List (List UInt8)) (k : Nat) (l : List UInt8) (h : ls[k]? = some l) : (ls.take k).flatten ++ l = (ls.take (k + 1)).flatten := by
  rw [← take_snoc ls k l h]
  simp
end Go.Fl
namespace Go.Proofs.Ytpnmmfacnflngaa
open Go.ChangeShapes Go.WideShapes Go.ChangeAt Go.RowKit Go.Fl

set_option maxRecDepth 10000 in
set_option maxHeartbeats 1000000 in
/-- Grow(nil, n): bytes of the call's own, none yet. -/
theorem grow_some (X : Int) (n : Nat) (hX : X = (n : Int)) (h0 : 0 < n) (hn : n ≤ 160000000000000) (w : World) :
    Calls Try.prog 44 #[.slice none 0 0, .int .i64 X] w (RetOB w 5 []) := by
  subst hX
  obtain ⟨i0, hi, hz0, hz1, hz2⟩ := info_parts info_byte
  have hrz : ∀ ty, (Builtin.append_ #[29, 3] ty #[.slice none 0 0, .int .i64 (n : Int)]).run Try.prog w = .ok (.slice (some ⟨w.heap.size, 0, none⟩) n (grownCap w n 0 5)) (w.drew.alloc (.cells (Builtin.zeroCells (Value.int .u8 0).cells n ++ Builtin.zeroCells (Value.int .u8 0).cells (grownCap w n 0 5 - n)) 5)) :=
    fun ty => Lib.run_append_nil_zeros (P := Try.prog) w 29 3 ty 5 i0 (.int .u8 0) .i64 .i64 Try.underlying29 Try.underlying3 hi hz0 n h0 (by omega) (by omega) (by rw [hz2]; omega)
  have hGn : n ≤ grownCap w n 0 5 := grownCap_ge w _ _ _
  have hGx : grownCap w n 0 5 ≤ maxLen := grownCap_le_maxLen w _ _ _ (by unfold maxLen; omega)
  obtain ⟨G, hG⟩ : ∃ G, G = grownCap w n 0 5 := ⟨_, rfl⟩
  rw [← hG] at hrz hGn hGx
  obtain ⟨Z, hZ⟩ : ∃ Z, Z = Builtin.zeroCells (Value.int .u8 0).cells n ++ Builtin.zeroCells (Value.int .u8 0).cells (G - n) := ⟨_, rfl⟩
  have hZs : Z.size = G * 1 := by rw [hZ, Array.size_append, size_zeroCells, size_zeroCells]; show n * 1 + (G - n) * 1 = G * 1; omega
  rw [← hZ] at hrz
  have hob : OB (w.drew.alloc (.cells Z 5)) w.heap.size 5 (.slice (some ⟨w.heap.size, 0, none⟩) 0 G) [] :=
    ⟨rfl, Or.inr ⟨w.heap.size, G, Z, rfl, Nat.le_refl _, heap_alloc_new w.drew _, Nat.zero_le _, hGx, hZs, by simp⟩⟩
  have hbw : Below w.heap.size w (w.drew.alloc (.cells Z 5)) := (Below.refl _ w).drew.alloc (Nat.le_refl _) _
  have HOB := Lib.hid hob
  have HBW := Lib.hid hbw
  have s1 : (0 : Int) < (n : Int) := by omega
  have s2 : (n : Int) ≤ 160000000000000 := by omega
  have s3 : (n : Int) ≤ (G : Int) := by omega
  have s4 : (G : Int) ≤ 9223372036854775807 := by unfold maxLen at hGx; omega
  clear hi hz0 hz1 hz2 hG hZ hZs hob hbw hGn hGx h0 hn
  go_enter Try.func44, Try.ntmps44
  go_wp2_with (at_builtin; refine Lib.wpList_append_run _ rfl _ _ _ _ rfl _ _ rfl rfl _ _ (hrz _) ?_)
  go_ret
  exact ⟨_, rfl, HOB.out, HBW.out⟩
theorem grow_none (X : Int) (hX : X = 0) (w : World) :
    Calls Try.prog 44 #[.slice none 0 0, .int .i64 X] w (RetOB w 5 []) := by
  subst hX
  go_enter Try.func44, Try.ntmps44
  go_wp2
  go_ret
  exact ⟨_, rfl, ⟨rfl, Or.inl ⟨rfl, rfl⟩⟩, Below.refl _ _⟩
theorem grow_any (X : Int) (n : Nat) (hX : X = (n : Int)) (hn : n ≤ 160000000000000) (w : World) :
    Calls Try.prog 44 #[.slice none 0 0, .int .i64 X] w (RetOB w 5 []) := by
  rcases Nat.eq_zero_or_pos n with h0 | h0
  · exact grow_none X (by omega) w
  · exact grow_some X n hX h0 hn w

set_option maxRecDepth 10000 in
set_option maxHeartbeats 2000000 in
/-- Concat: the bytes of the parts, one after the other, in memory of the call's own. -/
theorem concat_any (g off c n : Nat) (vs : List Value) (ls : List (List UInt8)) (hn : ls.length = n) (hv : vs.length = n) (w : World) (hb : ∀ (i : Nat) (v : Value) (l : List UInt8), vs[i]? = some v → ls[i]? = some l → VB w v l) (hr : w.rangeAt g off vs) (hg : g < w.heap.size)
    (hc : n ≤ c) (hc2 : c ≤ 9223372036854775807) (hm : ls.flatten.length ≤ 160000000000000) :
    Calls Try.prog 34 #[.slice (some ⟨g, off, none⟩) n c] w (RetOB w 5 ls.flatten) := by
  obtain ⟨i0, hi, hz0, hz1, hz2⟩ := info_parts info_byte
  have HI := Lib.hid hi
  have HZ0 := Lib.hid hz0
  have HZ1 := Lib.hid hz1
  have HZ2 := Lib.hid hz2
  have HB := Lib.hid hb
  have HR := Lib.hid hr
  have HM := Lib.hid hm
  have HLE := Lib.hid (lensF_le ls)
  have get : ∀ k, k < n → ∃ v l A m cc, vs[k]? = some v ∧ ls[k]? = some l ∧ v = .slice A m cc ∧ m = l.length ∧ l.length ≤ cc ∧ cc ≤ 9223372036854775807 ∧ RB w w.heap.size A l := fun k hk => by
    have e1 : vs[k]? = some vs[k] := List.getElem?_eq_getElem (by omega)
    have e2 : ls[k]? = some ls[k] := List.getElem?_eq_getElem (by omega)
    obtain ⟨A, cc, h1, h2, h3, h4⟩ := hb k _ _ e1 e2
    exact ⟨_, _, A, _, cc, e1, e2, h1, rfl, h2, h3, h4⟩
  have s5 : (n : Int) ≤ 9223372036854775807 := by omega
  have s6 : (0 : Int) ≤ (n : Int) := by omega
  clear hi hz0 hz1 hz2 hb hr hm hc
  go_enter Try.func34, Try.ntmps34
  go_wp2_with fail
  go_loop [3, 11] (fun s i => ∃ k S : Nat, k ≤ n ∧ i = .int .i64 (k : Int) ∧ s = .int .i64 (S : Int) ∧ Hid (S = lensF ls k)) (fun _ i => n - (intOf i).toNat)
  case atStart => exact ⟨0, 0, Nat.zero_le _, rfl, rfl, Lib.hid rfl⟩
  case round =>
    obtain ⟨k, S, hk, rfl, rfl, hS⟩ := hrel
    by_cases h : k < n
    · obtain ⟨v, l, A, m, cc, e1, e2, rfl, hm2, -, -, -⟩ := get k h
      have hstep := lensF_succ ls k l e2
      have hle := HLE.out (k + 1)
      have hcell := HR.out k _ e1
      have HE : Hid (S + m = lensF ls (k + 1)) := Lib.hid (by rw [hstep, ← hS.out, hm2])
      have hb2 : S + m ≤ 160000000000000 := by have := HM.out; have := HE.out; omega
      have t1 : (S : Int) + (m : Int) ≤ 160000000000000 := by omega
      have t2 : (0 : Int) ≤ (S : Int) := by omega
      have t3 : (0 : Int) ≤ (m : Int) := by omega
      have t4 : (k : Int) < (n : Int) := by omega
      clear hstep hle e1 e2 hm2 get hS
      go_wp2
      go_round
      case rel => exact ⟨k + 1, S + m, by omega, by go_num, by go_num, HE⟩
      case measure => simp [intOf]; omega
    · obtain rfl : k = n := by omega
      have hS2 : S = ls.flatten.length := by rw [hS.out]; unfold lensF; rw [List.take_of_length_le (by omega)]
      have hSm : S ≤ 160000000000000 := by have := HM.out; omega
      clear hS2
      go_wp2_with fail
      refine (grow_any _ S rfl hSm _).mono ?_
      rintro e w1 ⟨v1, rfl, hob1, hb1⟩
      have hF1 := (Fr.refl w).next hb1
      go_wp2_with fail
      go_loopw [6, 27] (fun u i wr => ∃ j : Nat, j ≤ k ∧ i = .int .i64 (j : Int) ∧ OB wr w.heap.size 5 u (ls.take j).flatten ∧ Fr w 0 wr) (fun _ i _ => k - (intOf i).toNat)
      case atStart => exact ⟨0, Nat.zero_le _, rfl, hob1, hF1⟩
      case round =>
        clear hob1 hF1 hb1 hS
        obtain ⟨j, hj, rfl, hob, hF⟩ := hrel
        by_cases hjk : j < k
        · obtain ⟨v, l, A, m, cc, e1, e2, rfl, hm2, h3, h4, h5⟩ := get j hjk
          have hcell := (hF.1.cell (p := ⟨g, off + j, none⟩) hg).trans (HR.out j _ e1)
          have HRB := Lib.hid (h5.keep hF.1)
          have HST := Lib.hid (flat_snoc ls j l e2)
          have hlen : (ls.take j).flatten.length + l.length ≤ 160000000000000 := by
            have h1 := lensF_succ ls j l e2
            have h2 := HLE.out (j + 1)
            have h3 := HM.out
            unfold lensF at h1 h2
            omega
          have HLEN := Lib.hid hlen
          have t4 : (j : Int) < (k : Int) := by omega
          have HM2 := Lib.hid hm2.symm
          clear e1 e2 h3 h4 h5 hlen get hm2
          go_wp2_with (at_builtin; refine wpList_append_ob rfl (.tmp 31) (.tmp 32) 29 rfl w.heap.size 5 i0 Try.underlying29 HI.out HZ0.out HZ1.out HZ2.out _ (ls.take j).flatten rfl hob _ A l m cc rfl HM2.out HRB.out HLEN.out (by have := hF.2; omega) ?_; intro v2 w2 hob2 hg2 hat2; have hF2 := (hF.grown hg2 (fun k hk => hob.own k hk)).le (Nat.zero_le _); clear hg2 hat2)
          go_roundw
          case rel => exact ⟨j + 1, by omega, by go_num, by rw [HST.out] at hob2; exact hob2, hF2⟩
          case measure => simp [intOf]; omega
        · obtain rfl : j = k := by omega
          go_wp2
          go_ret
          exact ⟨_, rfl, by rw [List.take_of_length_le (by omega)] at hob; exact hob, hF.1⟩
end Go.Proofs.Ytpnmmfacnflngaa
