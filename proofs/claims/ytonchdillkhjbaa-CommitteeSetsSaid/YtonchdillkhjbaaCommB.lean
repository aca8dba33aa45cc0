/-
  The project's committee: the iterator over the ids of a set.
-/
import Derived.RangeFuncBox
import Derived.RangeFuncNested
import Derived.RangeFuncBound
import Derived.RangeFuncLeaves
import Derived.Shelf.Abstract
import Derived.WalkKit
import Derived.OwnWalkIn
import Derived.TacticsInMore
import Derived.LoopNIn
import Derived.LoopIn
import Derived.Maps.AppendAt
import Derived.Test.YtonchdillkhjbaaR6Ids
import Derived.Test.YtonchdillkhjbaaCommA
namespace Go.Fl
open Go.ChangeShapes Go.WideShapes Go.ChangeAt Go.RowKit
theorem range_prefix (p : Nat → Bool) (k : Nat) (h : k ≤ 10) : (List.range k).filter p <+: (List.range 10).filter p := by
  refine List.IsPrefix.filter p ⟨(List.range (10 - k)).map (k + ·), ?_⟩
  rw [← List.range_add]
  congr 1
  omega
/-- What a round keeps: the cell that the iterator has captured. -/
def KpM (Bn : Nat) (W W' : World) : Prop := W'.cell? ⟨Bn, 0, none⟩ = W.cell? ⟨Bn, 0, none⟩
theorem KpM.t {Bn : Nat} {A B C : World} (h : KpM Bn A B) (k : KpM Bn B C) : KpM Bn A C := k.trans h
theorem KpM.b {Bn : Nat} {w : World} (hn : Bn < w.heap.size) (W : World) (l : Nat) (o o' : Obj) (hl : w.heap.size ≤ l) (h : W.heap[l]? = some o) (h1 : o.isCells = false) (h2 : o.isWalk = false) : KpM Bn W (W.putObj l o') :=
  (belowK_b (w := w) (Nat.le_refl _) W l o o' hl h h1 h2).cell hn
end Go.Fl
namespace Go.Proofs.Ytonchdillkhjbaa
open Go.ChangeShapes Go.WideShapes Go.ChangeAt Go.RowKit Go.Fl Go.Shelf

attribute [local go_sem] Oper.semAt_some

set_option maxRecDepth 100000 in
set_option maxHeartbeats 1000000 in
theorem cmembers1_in (n : Nat) (_hn : 2 ≤ n) (l Bn : Nat) (m : Int) (hm : I64 m) (J Jx : List Nat → World → Prop)
    (hY : ∀ pre x W, J pre W → x < 10 → pre.length < (idsF m).length → YieldAt Fence.wide (n - 1) Try.prog l #[.int .i64 ((x : Nat) : Int)] W fun e W' =>
      (e = .returned (.bool true) ∧ J (pre ++ [x]) W' ∧ KpM Bn W W') ∨ (e = .returned (.bool false) ∧ Jx (pre ++ [x]) W'))
    (W : World) (hBn : W.cell? ⟨Bn, 0, none⟩ = some (.int .i64 m)) (h0 : J [] W) :
    CallsIn Fence.wide n Try.prog 31 #[.func (.yield l) #[] #[], .pointer (some ⟨Bn, 0, none⟩)] W fun e W' => (∃ v, e = .returned v) ∧
      ((∃ ys, ys = idsF m ∧ J ys W') ∨ (∃ pre, pre <+: idsF m ∧ Jx pre W')) := by
  have HM := Lib.hid hm
  clear hm
  refine callsIn_of_wp Try.func31 rfl trivial ?_ rfl
  simp only [Try.ntmps31, List.size_toArray, List.length_cons, List.length_nil, Nat.reduceAdd, Nat.reduceSub, Array.replicate_succ, Array.replicate_zero, List.push_toArray, List.append_toArray, List.nil_append, List.cons_append]
  gi_wp2
  gi_loopw [4] (fun i wr => ∃ k : Nat, k ≤ 10 ∧ i = .int .i64 (k : Int) ∧ wr.cell? ⟨Bn, 0, none⟩ = some (.int .i64 m) ∧ J ((List.range k).filter (bitM m)) wr) (fun i _ => 10 - (intOf i).toNat)
  case atStart => exact ⟨0, by omega, rfl, hBn, h0⟩
  case round =>
    obtain ⟨k, hk, rfl, hc, hJ⟩ := hrel
    by_cases hlt : k < 10
    · have s1 : (k : Int) < 10 := by omega
      have k0 : (0 : Int) ≤ (k : Int) := by omega
      have hh := hasF_nat m k hlt
      have hsn := range_filter_succ (bitM m) k
      cases hbit : bitM m k with
      | true =>
        rw [hbit] at hh
        rw [hbit, if_pos rfl] at hsn
        have hpre := range_prefix (bitM m) (k + 1) (by omega)
        have hlen : ((List.range k).filter (bitM m)).length < (idsF m).length := by
          have h1 := hpre.length_le
          rw [hsn, List.length_append] at h1
          unfold idsF
          simp at h1
          omega
        obtain ⟨fn, tmps, assign, body, hy, hR⟩ := hY _ k wr hJ hlt hlen
        clear hbit
        gi_wp2_with fail
        refine ⟨trivial, fun h => (by cases h), ?_⟩
        refine (callsIn_wide.2 (chas_any m (k : Int) HM.out ⟨by omega, by omega⟩ _)).mono ?_
        rintro e w' ⟨rfl, rfl⟩
        rw [hh]
        gi_wp2
        refine ⟨fun h => (by cases h), ?_⟩
        refine hR.mono ?_
        rintro e W3 (⟨rfl, hJ3, hk3⟩ | ⟨rfl, hJx3⟩)
        · have hc3 := Eq.trans hk3 hc
          gi_wp2
          go_roundw
          case rel => exact ⟨k + 1, by omega, by go_num, hc3, by rw [hsn]; exact hJ3⟩
          case measure => simp [intOf]; omega
        · gi_wp2
          refine bodyPost_ret (results_none rfl _ _ _) rfl ?_
          exact ⟨⟨_, rfl⟩, .inr ⟨_, by rw [← hsn]; exact hpre, hJx3⟩⟩
      | false =>
        rw [hbit] at hh
        rw [hbit, if_neg (by simp), List.append_nil] at hsn
        clear hbit
        gi_wp2_with fail
        refine ⟨trivial, fun h => (by cases h), ?_⟩
        refine (callsIn_wide.2 (chas_any m (k : Int) HM.out ⟨by omega, by omega⟩ _)).mono ?_
        rintro e w' ⟨rfl, rfl⟩
        rw [hh]
        gi_wp2
        refine ⟨fun _ h => (by cases h), ?_⟩
        gi_wp2
        go_roundw
        case rel => exact ⟨k + 1, by omega, by go_num, hc, by rw [hsn]; exact hJ⟩
        case measure => simp [intOf]; omega
    · obtain rfl : k = 10 := by omega
      gi_wp2
      go_end0
      exact ⟨⟨_, rfl⟩, .inl ⟨_, rfl, hJ⟩⟩

theorem cmembers_in (n : Nat) (m : Int) (w : World) :
    CallsIn Fence.wide n Try.prog 27 #[.int .i64 m] w fun e w' => e = .returned (.func (.func 31) #[] #[.pointer (some ⟨w.heap.size, 0, none⟩)]) ∧ w' = w.alloc (.cells #[.int .i64 m] 25) := by
  refine callsIn_of_wp Try.func27 rfl trivial ?_ rfl
  simp only [Try.ntmps27, List.size_toArray, List.length_cons, List.length_nil, Nat.reduceAdd, Nat.reduceSub, Array.replicate_succ, Array.replicate_zero, List.push_toArray, List.append_toArray, List.nil_append, List.cons_append]
  gi_wp2
  go_ret
  exact ⟨rfl, rfl⟩

/-- The iterator's contract. -/
theorem cmembers_stops (n : Nat) (hn : 2 ≤ n) (Bn : Nat) (m : Int) (hm : I64 m) (w : World) (hBn : Bn < w.heap.size) (hc : w.cell? ⟨Bn, 0, none⟩ = some (.int .i64 m)) :
    SeqStopsK Fence.wide n Try.prog 31 #[.pointer (some ⟨Bn, 0, none⟩)] (fun x : Nat => #[Value.int .i64 (x : Int)]) (KpM Bn) (fun ys => ys = idsF m) (fun pre => pre <+: idsF m) (idsF m).length w := fun l J Jx W hW _ _ hY h0 =>
  cmembers1_in n hn l Bn m hm J Jx (fun pre x W1 hj _ hl => hY pre x W1 hj hl) W ((hW.cell (p := ⟨Bn, 0, none⟩) hBn).trans hc) h0

/-- The same, each id known to be one. -/
theorem cmembers_stops10 (n : Nat) (hn : 2 ≤ n) (Bn : Nat) (m : Int) (hm : I64 m) (w : World) (hBn : Bn < w.heap.size) (hc : w.cell? ⟨Bn, 0, none⟩ = some (.int .i64 m)) :
    SeqStopsK Fence.wide n Try.prog 31 #[.pointer (some ⟨Bn, 0, none⟩)] (fun x : Fin 10 => #[Value.int .i64 (x.val : Int)]) (KpM Bn) (fun ys => ys.map Fin.val = idsF m) (fun pre => pre.map Fin.val <+: idsF m) (idsF m).length w := fun l J Jx W hW _ _ hY h0 => by
  refine (cmembers1_in n hn l Bn m hm (fun pre W1 => ∃ fp : List (Fin 10), fp.map Fin.val = pre ∧ J fp W1) (fun pre W1 => ∃ fp : List (Fin 10), fp.map Fin.val = pre ∧ Jx fp W1) ?_ W ((hW.cell (p := ⟨Bn, 0, none⟩) hBn).trans hc) ⟨[], rfl, h0⟩).mono ?_
  · rintro pre x W1 ⟨fp, rfl, hj⟩ hx hl
    refine YieldAt.mono (hY fp ⟨x, hx⟩ W1 hj (by simpa using hl)) ?_
    rintro e w1 (⟨rfl, hj1, hk⟩ | ⟨rfl, hj1⟩)
    · exact .inl ⟨rfl, ⟨fp ++ [⟨x, hx⟩], by simp, hj1⟩, hk⟩
    · exact .inr ⟨rfl, ⟨fp ++ [⟨x, hx⟩], by simp, hj1⟩⟩
  · rintro e w1 ⟨hv, ⟨ys, rfl, fp, hfp, hj⟩ | ⟨pre, hp, fp, rfl, hj⟩⟩
    · exact ⟨hv, .inl ⟨fp, hfp, hj⟩⟩
    · exact ⟨hv, .inr ⟨fp, hp, hj⟩⟩

end Go.Proofs.Ytonchdillkhjbaa
