/-
  Hash trees over lists of names as plain functions: the split of a length, the root of a list, the depth of a leaf, a path and what is computed from one; and what package merkle promises, as a contract of five Go functions ('MerkleS').
-/
import Derived.Test.YtllciohpphngiaaNames
import Derived.Test.YtllciohpphngiaaVals
namespace Go.Fl
open Go.ChangeShapes Go.WideShapes Go.ChangeAt Go.RowKit

/-- The greatest power of two below n (1 where there is none). -/
def splitN (n : Nat) : Nat := 2 ^ Nat.log2 (n - 1)
theorem splitN_pos (n : Nat) : 1 ≤ splitN n := Nat.one_le_two_pow
theorem splitN_lt (n : Nat) (h : 2 ≤ n) : splitN n < n := by
  have h1 : n - 1 ≠ 0 := by omega
  have h2 := Nat.log2_self_le h1
  unfold splitN
  omega
theorem splitN_two (n : Nat) : n ≤ 2 * splitN n := by
  unfold splitN
  have h := @Nat.lt_log2_self (n - 1)
  rw [Nat.pow_succ] at h
  omega
/-- A power of two that is not above the split, and twice of which is not below the length, is the split. -/
theorem splitN_eq (n j : Nat) (h1 : j ≤ Nat.log2 (n - 1)) (h2 : n ≤ 2 ^ j + 2 ^ j) : 2 ^ j = splitN n := by
  unfold splitN
  rcases Nat.eq_or_lt_of_le h1 with h | h
  · rw [h]
  · exfalso
    by_cases h0 : n - 1 = 0
    · rw [h0] at h
      rw [Nat.log2_zero] at h
      omega
    · have h3 := Nat.log2_self_le h0
      have h4 : 2 ^ (j + 1) ≤ 2 ^ Nat.log2 (n - 1) := Nat.pow_le_pow_right (by omega) h
      rw [Nat.pow_succ] at h4
      omega
/-- While twice the power is below the length there is a greater one. -/
theorem splitN_more (n j : Nat) (h : 2 ^ j + 2 ^ j < n) : j + 1 ≤ Nat.log2 (n - 1) := by
  rw [Nat.le_log2 (by have := Nat.one_le_two_pow (n := j); omega), Nat.pow_succ]
  omega

def leafF (x : BitVec 64) : BitVec 64 := sumF (17 :: nmL x)
def pairF (x y : BitVec 64) : BitVec 64 := sumF (18 :: (nmL x ++ nmL y))

/-- The root of a list's tree. -/
def rootF (l : List (BitVec 64)) : BitVec 64 :=
  if l.length = 0 then sumF [16] else if _h : l.length = 1 then leafF (l.getD 0 0) else
    if _h0 : l.length = 0 then 0 else pairF (rootF (l.take (splitN l.length))) (rootF (l.drop (splitN l.length)))
termination_by l.length
decreasing_by
  · have := splitN_lt l.length (by omega); simp; omega
  · have := splitN_pos l.length; simp; omega

theorem rootF_nil : rootF [] = sumF [16] := by rw [rootF]; simp
theorem rootF_one (x : BitVec 64) : rootF [x] = leafF x := by rw [rootF]; simp
theorem rootF_two {l : List (BitVec 64)} (h : 2 ≤ l.length) : rootF l = pairF (rootF (l.take (splitN l.length))) (rootF (l.drop (splitN l.length))) := by
  rw [rootF, if_neg (by omega), dif_neg (by omega), dif_neg (by omega)]

/-- The number of inner nodes above leaf i of n. -/
def depthF (i n : Nat) : Nat :=
  if h : n ≤ 1 then 0 else if i < splitN n then depthF i (splitN n) + 1 else depthF (i - splitN n) (n - splitN n) + 1
termination_by n
decreasing_by
  · exact splitN_lt n (by omega)
  · have := splitN_pos n; omega
theorem depthF_one {i n : Nat} (h : n ≤ 1) : depthF i n = 0 := by rw [depthF, dif_pos h]
theorem depthF_left {i n : Nat} (h : 2 ≤ n) (hi : i < splitN n) : depthF i n = depthF i (splitN n) + 1 := by rw [depthF, dif_neg (by omega), if_pos hi]
theorem depthF_right {i n : Nat} (h : 2 ≤ n) (hi : splitN n ≤ i) : depthF i n = depthF (i - splitN n) (n - splitN n) + 1 := by rw [depthF, dif_neg (by omega), if_neg (by omega)]
def depthI (i n : Int) : Int := if 0 ≤ i ∧ i < n then (depthF i.toNat n.toNat : Int) else -1

/-- The depth is at most the number of the length's bits. -/
theorem depthF_le : ∀ (b i n : Nat), n ≤ 2 ^ b → i < n → depthF i n ≤ b := by
  intro b
  induction b with
  | zero => intro i n h _; rw [depthF_one (by simpa using h)]; omega
  | succ b ih =>
    intro i n h hi
    by_cases h1 : n ≤ 1
    · rw [depthF_one h1]; omega
    · have hk : splitN n ≤ 2 ^ b := by
        unfold splitN
        refine Nat.pow_le_pow_right (by omega) ?_
        have : Nat.log2 (n - 1) < b + 1 := (Nat.log2_lt (by omega)).2 (by omega)
        omega
      have h2 := splitN_two n
      by_cases hs : i < splitN n
      · rw [depthF_left (by omega) hs]
        have := ih i (splitN n) hk hs
        omega
      · rw [depthF_right (by omega) (by omega)]
        have := ih (i - splitN n) (n - splitN n) (by omega) (by omega)
        omega

/-- The roots of the other subtrees, from the lowest. -/
def pathF (l : List (BitVec 64)) (i : Nat) : List (BitVec 64) :=
  if _h : l.length ≤ 1 then [] else if i < splitN l.length then pathF (l.take (splitN l.length)) i ++ [rootF (l.drop (splitN l.length))]
    else pathF (l.drop (splitN l.length)) (i - splitN l.length) ++ [rootF (l.take (splitN l.length))]
termination_by l.length
decreasing_by
  · have := splitN_lt l.length (by omega); simp; omega
  · have := splitN_pos l.length; simp; omega
theorem pathF_one {l : List (BitVec 64)} {i : Nat} (h : l.length ≤ 1) : pathF l i = [] := by rw [pathF, dif_pos h]
theorem pathF_left {l : List (BitVec 64)} {i : Nat} (h : 2 ≤ l.length) (hi : i < splitN l.length) : pathF l i = pathF (l.take (splitN l.length)) i ++ [rootF (l.drop (splitN l.length))] := by
  rw [pathF, dif_neg (by omega), if_pos hi]
theorem pathF_right {l : List (BitVec 64)} {i : Nat} (h : 2 ≤ l.length) (hi : splitN l.length ≤ i) : pathF l i = pathF (l.drop (splitN l.length)) (i - splitN l.length) ++ [rootF (l.take (splitN l.length))] := by
  rw [pathF, dif_neg (by omega), if_neg (by omega)]
theorem pathF_len : ∀ (n : Nat) (l : List (BitVec 64)) (i : Nat), l.length = n → i < n → (pathF l i).length = depthF i n := by
  intro n
  induction n using Nat.strongRecOn with
  | _ n ih =>
    intro l i hl hi
    by_cases h1 : n ≤ 1
    · rw [pathF_one (by omega), depthF_one h1]; rfl
    · have hlt := splitN_lt n (by omega)
      have hpos := splitN_pos n
      by_cases hs : i < splitN n
      · rw [pathF_left (by omega) (by rw [hl]; exact hs), depthF_left (by omega) hs, List.length_append, hl,
          ih (splitN n) hlt _ i (by simp; omega) hs]
        rfl
      · rw [pathF_right (by omega) (by rw [hl]; omega), depthF_right (by omega) (by omega), List.length_append, hl,
          ih (n - splitN n) (by omega) _ (i - splitN n) (by simp; omega) (by omega)]
        rfl
def pathP (l : List (BitVec 64)) (i : Int) : List (BitVec 64) × Bool := if 0 ≤ i ∧ i < (l.length : Int) then (pathF l i.toNat, true) else ([], false)

theorem pathP_len (l : List (BitVec 64)) (i : Int) (h : l.length ≤ 9223372036854775807) : (pathP l i).1.length ≤ 63 := by
  unfold pathP
  split
  · have h1 := pathF_len l.length l i.toNat rfl (by omega)
    have h2 := depthF_le 63 i.toNat l.length (by omega) (by omega)
    simp only
    omega
  · simp

/-- What is computed from a leaf and a path. -/
def followF (x : BitVec 64) (i n : Nat) (p : List (BitVec 64)) : BitVec 64 :=
  if _h : n ≤ 1 then leafF x else if i < splitN n then pairF (followF x i (splitN n) p.dropLast) (p.getD (p.length - 1) 0)
    else pairF (p.getD (p.length - 1) 0) (followF x (i - splitN n) (n - splitN n) p.dropLast)
termination_by n
decreasing_by
  · exact splitN_lt n (by omega)
  · have := splitN_pos n; omega
theorem followF_one {x : BitVec 64} {i n : Nat} {p : List (BitVec 64)} (h : n ≤ 1) : followF x i n p = leafF x := by rw [followF, dif_pos h]
theorem followF_left {x : BitVec 64} {i n : Nat} {p : List (BitVec 64)} (h : 2 ≤ n) (hi : i < splitN n) : followF x i n p = pairF (followF x i (splitN n) p.dropLast) (p.getD (p.length - 1) 0) := by
  rw [followF, dif_neg (by omega), if_pos hi]
theorem followF_right {x : BitVec 64} {i n : Nat} {p : List (BitVec 64)} (h : 2 ≤ n) (hi : splitN n ≤ i) : followF x i n p = pairF (p.getD (p.length - 1) 0) (followF x (i - splitN n) (n - splitN n) p.dropLast) := by
  rw [followF, dif_neg (by omega), if_neg (by omega)]
def followP (x : BitVec 64) (i n : Int) (p : List (BitVec 64)) : BitVec 64 × Bool :=
  if 0 ≤ depthI i n ∧ depthI i n = (p.length : Int) then (followF x i.toNat n.toNat p, true) else (0, false)
def verifyP (r x : BitVec 64) (i n : Int) (p : List (BitVec 64)) : Bool := (followP x i n p).2 && nmEq (followP x i n p).1 r

/-- What is computed from the path of a leaf is the root. -/
theorem follow_path : ∀ (n : Nat) (l : List (BitVec 64)) (i : Nat), l.length = n → i < n → followF (l.getD i 0) i n (pathF l i) = rootF l := by
  intro n
  induction n using Nat.strongRecOn with
  | _ n ih =>
    intro l i hl hi
    by_cases h1 : n ≤ 1
    · obtain ⟨y, rfl⟩ := List.length_eq_one_iff.1 (show l.length = 1 by omega)
      have : i = 0 := by simp at hl; omega
      subst this
      rw [followF_one h1, rootF_one]
      rfl
    · have hlt := splitN_lt n (by omega)
      have hpos := splitN_pos n
      have hlast : ∀ (a : List (BitVec 64)) (y : BitVec 64), (a ++ [y]).getD ((a ++ [y]).length - 1) 0 = y := fun a y => by simp [List.getD_eq_getElem?_getD]
      by_cases hs : i < splitN n
      · rw [pathF_left (by omega) (by rw [hl]; exact hs), followF_left (by omega) hs, rootF_two (l := l) (by omega), hlast, List.dropLast_concat, hl]
        have := ih (splitN n) hlt (l.take (splitN n)) i (by simp; omega) hs
        have e : (l.take (splitN n)).getD i 0 = l.getD i 0 := by simp [List.getD_eq_getElem?_getD, hs]
        rw [← this, e]
      · rw [pathF_right (by omega) (by rw [hl]; omega), followF_right (by omega) (by omega), rootF_two (l := l) (by omega), hlast, List.dropLast_concat, hl]
        have := ih (n - splitN n) (by omega) (l.drop (splitN n)) (i - splitN n) (by simp; omega) (by omega)
        have e : (l.drop (splitN n)).getD (i - splitN n) 0 = l.getD i 0 := by
          simp only [List.getD_eq_getElem?_getD, List.getElem?_drop]
          congr 2
          omega
        rw [← this, e]

theorem depthI_nat (i n : Nat) (h : i < n) : depthI (i : Int) (n : Int) = (depthF i n : Int) := by
  unfold depthI
  rw [if_pos (by omega), Int.toNat_natCast, Int.toNat_natCast]
theorem verify_path (l : List (BitVec 64)) (j : Nat) (hj : j < l.length) : verifyP (rootF l) (l.getD j 0) (j : Int) (l.length : Int) (pathF l j) = true := by
  have h1 := pathF_len l.length l j rfl hj
  have h2 : followP (l.getD j 0) (j : Int) (l.length : Int) (pathF l j) = (rootF l, true) := by
    unfold followP
    rw [depthI_nat j l.length hj, if_pos ⟨by omega, by rw [h1]⟩, Int.toNat_natCast, Int.toNat_natCast, follow_path l.length l j rfl hj]
  unfold verifyP
  rw [h2]
  simp [nmEq_self]
theorem pathP_nat (l : List (BitVec 64)) (j : Nat) (hj : j < l.length) : pathP l (j : Int) = (pathF l j, true) := by
  unfold pathP
  rw [if_pos (by omega), Int.toNat_natCast]

/-- What a function that returns names of its own and a truth answers. -/
def RetN (w : World) (tn : TypeId) (r : List (BitVec 64) × Bool) (e : Ending) (w' : World) : Prop :=
  ∃ v, e = .returned (.tuple #[v, .bool r.2]) ∧ ON w' w.heap.size tn v r.1 ∧ Below w.heap.size w w'

/-- Five functions that keep chapter 3. -/
structure MerkleS (P : Program) (tn : TypeId) (fRoot fDepth fPath fFollow fVerify : FuncId) : Prop where
  root : ∀ (w : World) (v : Value) (l : List (BitVec 64)) (x : BitVec 64), VN w v l → l.length ≤ 17592186044160 → Hid (rootF l = x) →
    Calls P fRoot #[v] w fun e w' => e = .returned (nm x) ∧ Below w.heap.size w w'
  depth : ∀ (w : World) (i n : Int), I64 i → I64 n → Calls P fDepth #[.int .i64 i, .int .i64 n] w fun e w' => e = .returned (.int .i64 (depthI i n)) ∧ Below w.heap.size w w'
  path : ∀ (w : World) (v : Value) (l : List (BitVec 64)) (i : Int) (r : List (BitVec 64) × Bool), VN w v l → l.length ≤ 17592186044160 → I64 i → Hid (pathP l i = r) →
    Calls P fPath #[v, .int .i64 i] w (RetN w tn r)
  follow : ∀ (w : World) (x : BitVec 64) (i n : Int) (v : Value) (p : List (BitVec 64)) (r : BitVec 64 × Bool), VN w v p → p.length ≤ 17592186044160 → I64 i → I64 n → Hid (followP x i n p = r) →
    Calls P fFollow #[nm x, .int .i64 i, .int .i64 n, v] w fun e w' => e = .returned (.tuple #[nm r.1, .bool r.2]) ∧ Below w.heap.size w w'
  verify : ∀ (w : World) (y x : BitVec 64) (i n : Int) (v : Value) (p : List (BitVec 64)) (r : Bool), VN w v p → p.length ≤ 17592186044160 → I64 i → I64 n → Hid (verifyP y x i n p = r) →
    Calls P fVerify #[nm y, nm x, .int .i64 i, .int .i64 n, v] w fun e w' => e = .returned (.bool r) ∧ Below w.heap.size w w'
end Go.Fl
