/-
  Votes as plain data: their cells, when they are valid, their order, their bytes; and what package vote promises, as a contract ('VoteS').
-/
import Derived.Test.YtpnmmfacnflngaaComm2
import Derived.Test.YtpnmmfacnflngaaVals
namespace Go.Fl
open Go.ChangeShapes Go.WideShapes Go.ChangeAt Go.RowKit

structure VoteV where
  kind : Int
  slot : Int
  round : Int
  choice : Int
  signer : Int
  sup : Int
  parent : BitVec 64
  value : BitVec 64
deriving DecidableEq

/-- The cells of a vote. -/
abbrev voteC (v : VoteV) : Array Value := #[.int .i64 v.kind, .int .i64 v.slot, .int .i64 v.round, .int .i64 v.choice, .int .i64 v.signer, .int .i64 v.sup,
  B (nb v.parent 0), B (nb v.parent 1), B (nb v.parent 2), B (nb v.parent 3), B (nb v.parent 4), B (nb v.parent 5), B (nb v.parent 6), B (nb v.parent 7),
  B (nb v.value 0), B (nb v.value 1), B (nb v.value 2), B (nb v.value 3), B (nb v.value 4), B (nb v.value 5), B (nb v.value 6), B (nb v.value 7)]
abbrev vV (v : VoteV) : Value := .agg (voteC v)
/-- Its numbers are Go's. -/
def VoteV.I (v : VoteV) : Prop := I64 v.kind ∧ I64 v.slot ∧ I64 v.round ∧ I64 v.choice ∧ I64 v.signer ∧ I64 v.sup

def agreeF (k : Int) : Bool := decide (1 ≤ k ∧ k ≤ 4)
/-- Valid. -/
def ValidP (v : VoteV) : Prop :=
  (1 ≤ v.kind ∧ v.kind ≤ 7) ∧ (0 ≤ v.signer ∧ v.signer < 10) ∧ (0 ≤ v.sup ∧ v.sup < 1024) ∧ (if v.kind ≤ 4 then 0 ≤ v.slot ∧ v.slot < 10 else v.slot = 0) ∧ ((v.value = 0) ↔ v.choice ≠ 1) ∧
  (if v.kind = 3 then (1 ≤ v.round ∧ v.round ≤ 12) ∧ (v.choice = 0 ∨ v.choice = 1) ∧ (v.round = 1 → v.choice = 0 → v.sup = 0)
   else if v.kind = 4 then (1 ≤ v.round ∧ v.round ≤ 12) ∧ (0 ≤ v.choice ∧ v.choice ≤ 2) else v.round = 0 ∧ v.choice = 1 ∧ v.sup = 0)
instance (v : VoteV) : Decidable (ValidP v) := by unfold ValidP; exact inferInstance
def validF (v : VoteV) : Bool := decide (ValidP v)
theorem validF_true {v : VoteV} (h : ValidP v) : validF v = true := decide_eq_true h
theorem validF_false {v : VoteV} (h : ¬ ValidP v) : validF v = false := decide_eq_false h
def sameF (a b : VoteV) : Bool := decide (a.kind = b.kind ∧ a.parent = b.parent ∧ a.slot = b.slot ∧ a.round = b.round ∧ a.signer = b.signer)
def conflictF (a b : VoteV) : Bool := validF a && validF b && sameF a b && !decide (a = b)
theorem andNot_1023 (n : Int) (h : I64 n) : (bits .andNot .i64 n 1023 = 0) ↔ (0 ≤ n ∧ n < 1024) := by
  have hb : ∀ i, i < 64 → bitM 1023 i = decide (i < 10) := fun i hi => by
    have : (1023 : Int) = ((2 ^ 10 - 1 : Nat) : Int) := rfl
    rw [this, bitM_nat _ _ hi, Nat.testBit_two_pow_sub_one]
  constructor
  · intro e
    have h0 : ∀ i, 10 ≤ i → i < 64 → bitM n i = false := fun i h1 h2 => by
      have := bitM_andNot n 1023 i h2
      rw [e, hb i h2, decide_eq_false (by omega)] at this
      simpa [bitM] using this.symm
    have h1 : (BitVec.ofInt 64 n).toNat < 2 ^ 10 := by
      refine Nat.lt_pow_two_of_testBit _ fun i hi => ?_
      by_cases h64 : i < 64
      · exact h0 i hi h64
      · exact Nat.testBit_lt_two_pow (Nat.lt_of_lt_of_le (BitVec.ofInt 64 n).isLt (Nat.pow_le_pow_right (by omega) (by omega)))
    rw [BitVec.toNat_ofInt] at h1
    obtain ⟨h2, h3⟩ := h
    omega
  · rintro ⟨h1, h2⟩
    refine zero_of_bits (I64_bits _ _ _) fun i hi => ?_
    rw [bitM_andNot _ _ _ hi, hb i hi]
    by_cases h3 : i < 10
    · simp [h3]
    · have : bitM n i = false := by
        obtain ⟨k, rfl⟩ : ∃ k : Nat, n = (k : Int) := ⟨n.toNat, by omega⟩
        rw [bitM_nat _ _ hi]
        exact Nat.testBit_lt_two_pow (Nat.lt_of_lt_of_le (by omega : k < 2 ^ 10) (Nat.pow_le_pow_right (by omega) (by omega)))
      rw [this]
      rfl
/-- The order: numbers one after the other. -/
def lexI : List Int → List Int → Option Bool
  | x :: xs, y :: ys => if x = y then lexI xs ys else some (decide (x < y))
  | _, _ => none
theorem lexI_at : ∀ (k : Nat) (X Y : List Int) (x y : Int), (∀ j, j < k → X[j]? = Y[j]?) → X[k]? = some x → Y[k]? = some y → x ≠ y → lexI X Y = some (decide (x < y)) := by
  intro k
  induction k with
  | zero =>
    intro X Y x y _ hx hy hne
    cases X with
    | nil => simp at hx
    | cons a X =>
      cases Y with
      | nil => simp at hy
      | cons b Y =>
        simp at hx hy
        subst hx hy
        rw [lexI, if_neg hne]
  | succ k ih =>
    intro X Y x y h hx hy hne
    cases X with
    | nil => simp at hx
    | cons a X =>
      cases Y with
      | nil => simp at hy
      | cons b Y =>
        have h0 := h 0 (by omega)
        simp at h0
        subst h0
        rw [lexI, if_pos rfl]
        exact ih X Y x y (fun j hj => by have := h (j + 1) (by omega); simpa using this) (by simpa using hx) (by simpa using hy) hne
theorem lexI_self (X : List Int) : lexI X X = none := by
  induction X with
  | nil => rfl
  | cons x X ih => rw [lexI, if_pos rfl]; exact ih
def fiveF (v : VoteV) : List Int := [v.slot, v.round, v.kind, v.signer, v.choice]
def lessF (a b : VoteV) : Bool :=
  if a.parent = b.parent then
    match lexI (fiveF a) (fiveF b) with
    | some r => r
    | none => if a.value = b.value then decide (a.sup < b.sup) else ltB a.value b.value
  else ltB a.parent b.parent
end Go.Fl
