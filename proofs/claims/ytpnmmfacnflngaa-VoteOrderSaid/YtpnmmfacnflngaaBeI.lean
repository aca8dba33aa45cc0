/-
  The number that bytes spell, the highest first.
-/
import Derived.Test.YtpnmmfacnflngaaSeat
namespace Go.Fl
open Go.ChangeShapes Go.WideShapes Go.ChangeAt Go.RowKit

/-- The number that bytes spell, the highest first. -/
def beI (l : List UInt8) : Int := l.foldl (fun a b => a * 256 + ub b) 0
theorem beI_snoc (l : List UInt8) (b : UInt8) : beI (l ++ [b]) = beI l * 256 + ub b := by simp [beI]
theorem beI_range (l : List UInt8) : 0 ≤ beI l ∧ beI l < 256 ^ l.length := by
  suffices h : ∀ n : Nat, ∀ l : List UInt8, l.length = n → 0 ≤ beI l ∧ beI l < 256 ^ l.length from h _ l rfl
  intro n
  induction n with
  | zero =>
    intro l hl
    have : l = [] := List.eq_nil_of_length_eq_zero hl
    subst this
    simp [beI]
  | succ n ih =>
    intro l hl
    have hne : l ≠ [] := by intro h; simp [h] at hl
    have e := List.dropLast_concat_getLast hne
    have h1 := ih l.dropLast (by simp; omega)
    have lo := ub_lo (l.getLast hne)
    have hi := ub_hi (l.getLast hne)
    rw [← e, beI_snoc]
    have h2 : (l.dropLast ++ [l.getLast hne]).length = l.dropLast.length + 1 := by simp
    rw [h2, Int.pow_succ]
    omega
theorem pow256 {a b : Nat} (h : a ≤ b) : (256 : Int) ^ a ≤ 256 ^ b := by
  have e : ∀ n : Nat, (256 : Int) ^ n = ((256 ^ n : Nat) : Int) := fun n => by rw [Int.natCast_pow]; rfl
  rw [e, e]
  exact Int.ofNat_le.2 (Nat.pow_le_pow_right (by omega) h)
def uintV (l : List UInt8) : BitVec 64 := BitVec.ofInt 64 (beI l)
theorem uintV_iu (l : List UInt8) (h : l.length ≤ 8) : iu (uintV l) = beI l := by
  have h1 := beI_range l
  have h2 : (256 : Int) ^ l.length ≤ 256 ^ 8 := pow256 h
  unfold uintV
  rw [← wrap_iu, IntKind.wrap_u64]
  omega
theorem beI_step (l : List UInt8) (b : UInt8) (h : l.length < 8) : bits .or .u64 (beI l * 256) (ub b) = beI (l ++ [b]) := by
  have h1 := beI_range l
  have h2 : (256 : Int) ^ l.length ≤ 256 ^ 7 := pow256 (by omega)
  have lo := ub_lo b
  have hi := ub_hi b
  rw [or_add 8 _ _ (by omega) (by omega) (by omega) (by omega) (by omega) (by omega), beI_snoc]
theorem beI_lt (l : List UInt8) (h : l.length < 8) : 0 ≤ beI l ∧ beI l < 72057594037927936 := by
  have h1 := beI_range l
  have h2 : (256 : Int) ^ l.length ≤ 256 ^ 7 := pow256 (by omega)
  omega
theorem part_snoc (l : List UInt8) (p k : Nat) (b : UInt8) (h : l[p + k]? = some b) : (l.drop p).take k ++ [b] = (l.drop p).take (k + 1) := by
  rw [List.take_add_one, List.getElem?_drop, h]
  rfl
theorem part_len (l : List UInt8) (p k : Nat) (h : p + k ≤ l.length) : ((l.drop p).take k).length = k := by simp; omega
end Go.Fl
