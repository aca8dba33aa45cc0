/-
  Committees as plain functions: sets of ids as masks, quorums; and what package committee promises, as a contract ('CommS').
-/
import Derived.Test.YtpnmmfacnflngaaInts
import Derived.Laws.BitsLemmas
namespace Go.Fl
open Go.ChangeShapes Go.WideShapes Go.ChangeAt Go.RowKit

/-- Bit i of a mask. -/
def bitM (m : Int) (i : Nat) : Bool := (BitVec.ofInt 64 m).getLsbD i
def hasF (m i : Int) : Bool := decide (0 ≤ i ∧ i < 10) && bitM m i.toNat
def idsF (m : Int) : List Nat := (List.range 10).filter (bitM m)
/-- The set of these ids. -/
def orF (l : List Nat) : Nat := l.foldl (fun a i => a ||| 2 ^ i) 0
def quorumF (n : Int) : Int := if n < 1 then 0 else n - (n - 1) / 3
def thirdF (n : Int) : Int := if n < 1 then 0 else (n + 2) / 3
def lowF (m k : Int) : Int := (orF ((idsF m).take k.toNat) : Int)
def freeF (v g : Int) : List Nat := (List.range 10).filter fun i => decide ((i : Int) < v) && !bitM g i
def selF (v s g : Int) : Int := (orF ((freeF v g).take s.toNat) : Int)

theorem bitM_nat (n i : Nat) (hi : i < 64) : bitM (n : Int) i = n.testBit i := by
  unfold bitM
  rw [BitVec.ofInt_natCast, BitVec.getLsbD_ofNat]
  simp [hi]
theorem testBit_foldl (l : List Nat) (a i : Nat) : (l.foldl (fun a i => a ||| 2 ^ i) a).testBit i = (a.testBit i || decide (i ∈ l)) := by
  induction l generalizing a with
  | nil => simp
  | cons x l ih =>
    rw [List.foldl_cons, ih, Nat.testBit_or, Nat.testBit_two_pow]
    by_cases h : x = i
    · subst h; simp
    · have h2 : ¬ i = x := fun e => h e.symm
      simp [h, h2]
theorem testBit_orF (l : List Nat) (i : Nat) : (orF l).testBit i = decide (i ∈ l) := by
  unfold orF
  rw [testBit_foldl]
  simp
theorem bitM_orF (l : List Nat) (i : Nat) (hi : i < 64) : bitM (orF l : Int) i = decide (i ∈ l) := by rw [bitM_nat _ _ hi, testBit_orF]

/-- A part of a list without repetitions, found again by its elements. -/
theorem filter_sublist {l L : List Nat} (h : l.Sublist L) (hn : L.Nodup) : L.filter (fun i => decide (i ∈ l)) = l := by
  induction h with
  | slnil => rfl
  | @cons l L a hs ih =>
    have ha : a ∉ l := fun hm => (List.nodup_cons.1 hn).1 (hs.subset hm)
    rw [List.filter_cons_of_neg (by simpa using ha)]
    exact ih (List.nodup_cons.1 hn).2
  | @cons_cons l L a hs ih =>
    have hn2 := List.nodup_cons.1 hn
    rw [List.filter_cons_of_pos (by simp)]
    congr 1
    rw [← ih hn2.2]
    apply List.filter_congr
    intro x hx
    have : x ≠ a := fun e => hn2.1 (e ▸ hx)
    rw [ih hn2.2]
    simp [this]
theorem idsF_orF {l : List Nat} (h : l.Sublist (List.range 10)) : idsF (orF l : Int) = l := by
  unfold idsF
  rw [← filter_sublist h List.nodup_range]
  apply List.filter_congr
  intro x hx
  rw [filter_sublist h List.nodup_range, bitM_orF _ _ (by have := List.mem_range.1 hx; omega)]
theorem idsF_sub (m : Int) : (idsF m).Sublist (List.range 10) := List.filter_sublist
theorem freeF_sub (v g : Int) : (freeF v g).Sublist (List.range 10) := List.filter_sublist
theorem orF_lt' (l : List Nat) (a : Nat) (ha : a < 2 ^ 10) (h : ∀ i ∈ l, i < 10) : l.foldl (fun a i => a ||| 2 ^ i) a < 2 ^ 10 := by
  induction l generalizing a with
  | nil => exact ha
  | cons x l ih =>
    rw [List.foldl_cons]
    exact ih _ (Nat.or_lt_two_pow ha (Nat.pow_lt_pow_right (by omega) (h x (by simp)))) (fun i hi => h i (by simp [hi]))
theorem orF_lt {l : List Nat} (h : l.Sublist (List.range 10)) : orF l < 1024 := orF_lt' l 0 (by decide) (fun i hi => List.mem_range.1 (h.subset hi))
theorem orF_snoc (l : List Nat) (i : Nat) : orF (l ++ [i]) = orF l ||| 2 ^ i := by simp [orF]

theorem i64_and1 (n : Int) : bits .and .i64 n 1 = n % 2 := by
  have h1 : (BitVec.ofInt 64 1).toNat = 2 ^ 1 - 1 := by decide
  have key : (BitVec.ofInt 64 n &&& BitVec.ofInt 64 1).toNat = (n % ((2 ^ 64 : Nat) : Int)).toNat % 2 ^ 1 := by
    rw [BitVec.toNat_and, BitVec.toNat_ofInt, h1, Nat.and_two_pow_sub_one_eq_mod]
  show IntKind.i64.wrap ((BitVec.ofInt 64 n &&& BitVec.ofInt 64 1).toNat : Nat) = n % 2
  rw [key, IntKind.wrap_i64]
  omega
theorem ten {p : Nat → Prop} (h0 : p 0) (h1 : p 1) (h2 : p 2) (h3 : p 3) (h4 : p 4) (h5 : p 5) (h6 : p 6) (h7 : p 7) (h8 : p 8) (h9 : p 9) (k : Nat) (hk : k < 10) : p k := by
  have : k = 0 ∨ k = 1 ∨ k = 2 ∨ k = 3 ∨ k = 4 ∨ k = 5 ∨ k = 6 ∨ k = 7 ∨ k = 8 ∨ k = 9 := by omega
  rcases this with rfl | rfl | rfl | rfl | rfl | rfl | rfl | rfl | rfl | rfl <;> assumption
theorem bit_eq (m : Int) (k : Nat) (hk : k < 10) : bitM m k = decide ((m / 2 ^ k) % 2 = 1) := by
  unfold bitM
  rw [BitVec.getLsbD, BitVec.toNat_ofInt, Nat.testBit_eq_decide_div_mod_eq, decide_eq_decide]
  revert k
  refine ten ?_ ?_ ?_ ?_ ?_ ?_ ?_ ?_ ?_ ?_ <;> omega
theorem bit_and (m : Int) (k : Nat) (hk : k < 10) : (bits .and .i64 (m / 2 ^ k) 1 == 1) = bitM m k := by
  rw [i64_and1, bit_eq m k hk]
  rfl

/-- Seven functions that keep chapter 6. -/
structure CommS (P : Program) (ti : TypeId) (fQuorum fThird fHas fSize fIDs fLow fSel : FuncId) : Prop where
  quorum : ∀ (w : World) (n : Int), I64 n → Calls P fQuorum #[.int .i64 n] w fun e w' => e = .returned (.int .i64 (quorumF n)) ∧ Below w.heap.size w w'
  third : ∀ (w : World) (n : Int), I64 n → Calls P fThird #[.int .i64 n] w fun e w' => e = .returned (.int .i64 (thirdF n)) ∧ Below w.heap.size w w'
  has : ∀ (w : World) (m i : Int), I64 m → I64 i → Calls P fHas #[.int .i64 m, .int .i64 i] w fun e w' => e = .returned (.bool (hasF m i)) ∧ Below w.heap.size w w'
  size : ∀ (w : World) (m : Int), I64 m → Calls P fSize #[.int .i64 m] w fun e w' => e = .returned (.int .i64 ((idsF m).length : Int)) ∧ Below w.heap.size w w'
  ids : ∀ (w : World) (m : Int), I64 m → Calls P fIDs #[.int .i64 m] w fun e w' => ∃ v, e = .returned v ∧ OI w' w.heap.size ti v (idsF m) ∧ Below w.heap.size w w'
  low : ∀ (w : World) (m k : Int), I64 m → I64 k → Calls P fLow #[.int .i64 m, .int .i64 k] w fun e w' => e = .returned (.int .i64 (lowF m k)) ∧ Below w.heap.size w w'
  sel : ∀ (w : World) (v s g : Int), I64 v → I64 s → I64 g → Calls P fSel #[.int .i64 v, .int .i64 s, .int .i64 g] w fun e w' => e = .returned (.int .i64 (selF v s g)) ∧ Below w.heap.size w w'
end Go.Fl
