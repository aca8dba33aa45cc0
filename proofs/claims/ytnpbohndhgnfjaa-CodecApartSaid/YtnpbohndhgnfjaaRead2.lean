/-
  What was appended is read back: on lists.
-/
import Derived.Test.YtnpbohndhgnfjaaWrite
namespace Go.Fl
open Go.ChangeShapes Go.WideShapes Go.ChangeAt Go.RowKit

theorem mid (a b c : List UInt8) (k : Nat) (hk : b.length = k) : ((a ++ (b ++ c)).drop a.length).take k = b := by
  subst hk
  rw [List.drop_left]
  exact List.take_left

theorem read_uint (a c : List UInt8) (x : BitVec 64) (n : Int) (h1 : 1 ≤ n) (h8 : n ≤ 8) : uintF (a ++ (tailB x n.toNat ++ c)) a.length n = (BitVec.ofNat 64 (x.toNat % 2 ^ (8 * n.toNat)), true) := by
  have hl := tailB_len x n.toNat (by omega)
  unfold uintF
  rw [if_pos (by simp [hl]; omega)]
  have e : ((a.length : Int)).toNat = a.length := by omega
  rw [e, mid a _ c n.toNat hl, uintV_tailB x n.toNat (by omega)]

theorem read_bytes (a m c : List UInt8) (h : m.length ≤ 65535) : bytesF (a ++ (tailB (ofn m.length) 2 ++ m ++ c)) a.length = (m, (a.length : Int) + (tailB (ofn m.length) 2 ++ m).length, true) := by
  have hl := tailB_len (ofn m.length) 2 (by omega)
  have hlen : lenAt (a ++ (tailB (ofn m.length) 2 ++ m ++ c)) a.length = m.length := by
    unfold lenAt
    rw [List.append_assoc (tailB _ 2), mid a _ _ 2 hl, beI_tailB _ 2 (by omega)]
    unfold ofn
    rw [BitVec.toNat_ofNat]
    omega
  unfold bytesF
  have e : ((a.length : Int)).toNat = a.length := by omega
  rw [e, hlen, if_pos (by simp [hl]; omega)]
  refine Prod.ext ?_ (Prod.ext ?_ rfl)
  · show ((a ++ (tailB (ofn m.length) 2 ++ m ++ c)).drop (a.length + 2)).take m.length = m
    rw [← List.drop_drop, List.drop_left, List.append_assoc, List.drop_left' hl]
    exact List.take_left
  · simp [hl]
    omega

theorem nsB_drop (n : List (BitVec 64)) (c : List UInt8) (i : Nat) (y : BitVec 64) (h : n[i]? = some y) : ((nsB n ++ c).drop (8 * i)).take 8 = nmL y := by
  induction n generalizing i with
  | nil => simp at h
  | cons z n ih =>
    have e : nsB (z :: n) = nmL z ++ nsB n := rfl
    cases i with
    | zero =>
      simp at h
      subst h
      rw [e, List.append_assoc]
      exact List.take_left' rfl
    | succ i =>
      have h8 : (nmL z).length = 8 := rfl
      rw [e, List.append_assoc, show 8 * (i + 1) = (nmL z).length + 8 * i by omega, ← List.drop_drop, List.drop_left]
      exact ih i (by simpa using h)

theorem read_names (a c : List UInt8) (n : List (BitVec 64)) (h : n.length ≤ 255) : namesF (a ++ (tailB (ofn n.length) 1 ++ nsB n ++ c)) a.length = (n, (a.length : Int) + (tailB (ofn n.length) 1 ++ nsB n).length, true) := by
  have hl := tailB_len (ofn n.length) 1 (by omega)
  have hn := nsB_len n
  have hlen : cntAt (a ++ (tailB (ofn n.length) 1 ++ nsB n ++ c)) a.length = n.length := by
    unfold cntAt
    rw [List.append_assoc (tailB _ 1), mid a _ _ 1 hl, beI_tailB _ 1 (by omega)]
    unfold ofn
    rw [BitVec.toNat_ofNat]
    omega
  unfold namesF
  have e : ((a.length : Int)).toNat = a.length := by omega
  rw [e, hlen, if_pos (by simp [hl, hn]; omega)]
  refine Prod.ext ?_ (Prod.ext ?_ rfl)
  · show namesAt _ (a.length + 1) n.length = n
    apply List.ext_getElem?
    intro i
    unfold namesAt
    by_cases hi : i < n.length
    · obtain ⟨y, hy⟩ : ∃ y, n[i]? = some y := ⟨_, List.getElem?_eq_getElem hi⟩
      rw [hy, List.getElem?_map, List.getElem?_range hi, Option.map_some, ← List.drop_drop, ← List.drop_drop, List.drop_left, List.append_assoc]
      rw [show ((tailB (ofn n.length) 1 ++ (nsB n ++ c)).drop 1) = nsB n ++ c by rw [← hl]; exact List.drop_left, nsB_drop n c i y hy, uintV_nmL]
    · rw [List.getElem?_eq_none (by simp; omega), List.getElem?_eq_none (by omega)]
  · simp [hl, hn]
    omega
end Go.Fl

namespace Go.Proofs.Ytnpbohndhgnfjaa
open Go.ChangeShapes Go.WideShapes Go.ChangeAt Go.RowKit Go.Fl

/-- What a value is appended as; whether it can be. -/
def encF (x : Val) : List UInt8 :=
  if kindF x.1 = 0 then tailB x.2.2.1 (widthF x.2.1).toNat else if kindF x.1 = 1 then tailB (ofn x.2.2.2.1.length) 2 ++ x.2.2.2.1 else tailB (ofn x.2.2.2.2.1.length) 1 ++ nsB x.2.2.2.2.1
def okF (x : Val) : Bool := if kindF x.1 = 0 then true else if kindF x.1 = 1 then decide (x.2.2.2.1.length ≤ 65535) else decide (x.2.2.2.2.1.length ≤ 255)
theorem clampW_width (n : Int) : clampW (widthF n) = (widthF n).toNat := by
  have := widthF_range n
  unfold clampW
  omega
theorem putF_eq (l : List UInt8) (x : Val) : putF l x = if okF x = true then (l ++ encF x, true) else ([], false) := by
  unfold putF okF encF
  by_cases h0 : kindF x.1 = 0
  · simp [h0, appUintF, clampW_width]
  · by_cases h1 : kindF x.1 = 1
    · simp [h1, appBytesF]
    · simp [h0, h1, appNamesF]
theorem writeF_ok (l : List UInt8) (xs : List Val) (h : ∀ x ∈ xs, okF x = true) : writeF l xs = (l ++ xs.flatMap encF, true) := by
  have key : ∀ (ys : List Val) (a : List UInt8), (∀ x ∈ ys, okF x = true) → ys.foldl (fun r x => if r.2 then putF r.1 x else r) (a, true) = (a ++ ys.flatMap encF, true) := by
    intro ys
    induction ys with
    | nil => intro a _; simp
    | cons y ys ih =>
      intro a hy
      rw [List.foldl_cons]
      have e : (if (a, true).2 = true then putF (a, true).1 y else (a, true)) = (a ++ encF y, true) := by
        simp only [if_true]
        rw [putF_eq, if_pos (hy y (by simp))]
      rw [e, ih _ (fun x hx => hy x (by simp [hx])), List.flatMap_cons, List.append_assoc]
  exact key xs l h
theorem writeF_bad (l : List UInt8) (xs : List Val) (x : Val) (hx : x ∈ xs) (h : okF x = false) : (writeF l xs).2 = false := by
  obtain ⟨k, hk⟩ := List.getElem?_of_mem hx
  have h1 := writeF_snoc l (xs.take k) x
  rw [take_snoc xs k x hk] at h1
  have h2 : (writeF l (xs.take (k + 1))).2 = false := by
    rw [h1]
    split
    · rw [putF_eq, h]
      rfl
    · rename_i h3
      simpa using h3
  have h3 := writeF_stop l (xs.take (k + 1)) (xs.drop (k + 1)) h2
  rw [List.take_append_drop] at h3
  rw [h3]
  exact h2
end Go.Proofs.Ytnpbohndhgnfjaa
