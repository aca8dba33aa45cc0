/-
  What package codec promises, as six functions of lists ('appBytesF' and its like) and as a contract of six Go functions ('CodecS').
-/
import Derived.Test.YtpnmmfacnflngaaSeat
import Derived.Test.YtpnmmfacnflngaaBeI
import Derived.Test.YtpnmmfacnflngaaNames
import Derived.Test.YtpnmmfacnflngaaVals
namespace Go.Fl
open Go.ChangeShapes Go.WideShapes Go.ChangeAt Go.RowKit

/-- The k lowest bytes of a number, the highest first. -/
def tailB (x : BitVec 64) (k : Nat) : List UInt8 := (nmL x).drop (8 - k)
theorem tailB_len (x : BitVec 64) (k : Nat) (h : k ≤ 8) : (tailB x k).length = k := by
  simp [tailB, nmL_len]
  omega
theorem nmL_at (x : BitVec 64) (i : Nat) (h : i < 8) : (nmL x)[i]? = some (nb x i) := by
  have : i = 0 ∨ i = 1 ∨ i = 2 ∨ i = 3 ∨ i = 4 ∨ i = 5 ∨ i = 6 ∨ i = 7 := by omega
  rcases this with rfl | rfl | rfl | rfl | rfl | rfl | rfl | rfl <;> rfl
theorem tailB_step (x : BitVec 64) (k j : Nat) (hk : k ≤ 8) (h0 : 0 < j) (hj : j ≤ k) : (tailB x k).take (k - j) ++ [nb x (8 - j)] = (tailB x k).take (k - (j - 1)) := by
  have e : k - (j - 1) = (k - j) + 1 := by omega
  rw [e, List.take_add_one, tailB, List.getElem?_drop, nmL_at x _ (by omega)]
  have e2 : 8 - k + (k - j) = 8 - j := by omega
  rw [e2]
  rfl
/-- A width as it counts. -/
def clampW (n : Int) : Nat := (max 0 (min n 8)).toNat

theorem clampW_cases (n : Int) : (n ≤ 0 ∧ clampW n = 0) ∨ (8 ≤ n ∧ clampW n = 8) ∨ (0 < n ∧ n < 8 ∧ (clampW n : Int) = n) := by
  unfold clampW
  omega

/-- What a function that returns bytes of its own answers. -/
def RetOB (w : World) (tb : TypeId) (l : List UInt8) (e : Ending) (w' : World) : Prop := ∃ v, e = .returned v ∧ OB w' w.heap.size tb v l ∧ Below w.heap.size w w'

/-- What a function that returns bytes of its own and true answers. -/
def RetOBok (w : World) (tb : TypeId) (l : List UInt8) (e : Ending) (w' : World) : Prop := ∃ v, e = .returned (.tuple #[v, .bool true]) ∧ OB w' w.heap.size tb v l ∧ Below w.heap.size w w'
/-- What a function that returns bytes of its own, an offset and true answers. -/
def RetOBat (w : World) (tb : TypeId) (l : List UInt8) (n : Nat) (e : Ending) (w' : World) : Prop := ∃ v, e = .returned (.tuple #[v, .int .i64 n, .bool true]) ∧ OB w' w.heap.size tb v l ∧ Below w.heap.size w w'
theorem iu_ofn (n : Nat) (h : n < 18446744073709551616) : iu (ofn n) = (n : Int) := by
  unfold iu ofn
  rw [BitVec.toNat_ofNat]
  omega
/-- The length that two bytes at an offset spell. -/
def lenAt (l : List UInt8) (q : Nat) : Nat := (beI ((l.drop q).take 2)).toNat
theorem lenAt_iu (l : List UInt8) (q : Nat) (h : q + 2 ≤ l.length) : iu (uintV ((l.drop q).take 2)) = (lenAt l q : Int) ∧ lenAt l q ≤ 65535 := by
  have h1 := part_len l q 2 h
  have h2 := beI_range ((l.drop q).take 2)
  rw [h1] at h2
  rw [uintV_iu _ (by omega)]
  unfold lenAt
  omega

/-- The number that one byte at an offset spells. -/
def cntAt (l : List UInt8) (q : Nat) : Nat := (beI ((l.drop q).take 1)).toNat
theorem cntAt_iu (l : List UInt8) (q : Nat) (h : q + 1 ≤ l.length) : iu (uintV ((l.drop q).take 1)) = (cntAt l q : Int) ∧ cntAt l q ≤ 255 := by
  have h1 := part_len l q 1 h
  have h2 := beI_range ((l.drop q).take 1)
  rw [h1] at h2
  rw [uintV_iu _ (by omega)]
  unfold cntAt
  omega
/-- M names from an offset on. -/
def namesAt (l : List UInt8) (p M : Nat) : List (BitVec 64) := (List.range M).map fun i => uintV ((l.drop (p + 8 * i)).take 8)
theorem namesAt_len (l : List UInt8) (p M : Nat) : (namesAt l p M).length = M := by simp [namesAt]
theorem namesAt_snoc (l : List UInt8) (p k : Nat) : namesAt l p k ++ [uintV ((l.drop (p + 8 * k)).take 8)] = namesAt l p (k + 1) := by
  simp [namesAt, List.range_succ]
/-- What a function that returns names of its own, an offset and true answers. -/
def RetONat (w : World) (tn : TypeId) (l : List (BitVec 64)) (n : Nat) (e : Ending) (w' : World) : Prop := ∃ v, e = .returned (.tuple #[v, .int .i64 n, .bool true]) ∧ ON w' w.heap.size tn v l ∧ Below w.heap.size w w'

def uintF (l : List UInt8) (p n : Int) : BitVec 64 × Bool :=
  if 1 ≤ n ∧ n ≤ 8 ∧ 0 ≤ p ∧ p + n ≤ (l.length : Int) then (uintV ((l.drop p.toNat).take n.toNat), true) else (0, false)
def appUintF (l : List UInt8) (x : BitVec 64) (n : Int) : List UInt8 := l ++ tailB x (clampW n)
def appBytesF (l m : List UInt8) : List UInt8 × Bool := if m.length ≤ 65535 then (l ++ tailB (ofn m.length) 2 ++ m, true) else ([], false)
def bytesF (l : List UInt8) (p : Int) : List UInt8 × Int × Bool :=
  if 0 ≤ p ∧ p + 2 ≤ (l.length : Int) ∧ p + 2 + (lenAt l p.toNat : Int) ≤ (l.length : Int) then ((l.drop (p.toNat + 2)).take (lenAt l p.toNat), p + 2 + (lenAt l p.toNat : Int), true) else ([], 0, false)
def appNamesF (l : List UInt8) (m : List (BitVec 64)) : List UInt8 × Bool := if m.length ≤ 255 then (l ++ tailB (ofn m.length) 1 ++ nsB m, true) else ([], false)
def namesF (l : List UInt8) (p : Int) : List (BitVec 64) × Int × Bool :=
  if 0 ≤ p ∧ p + 1 ≤ (l.length : Int) ∧ p + 1 + 8 * (cntAt l p.toNat : Int) ≤ (l.length : Int) then (namesAt l (p.toNat + 1) (cntAt l p.toNat), p + 1 + 8 * (cntAt l p.toNat : Int), true) else ([], 0, false)

def RetB (w : World) (tb : TypeId) (r : List UInt8 × Bool) (e : Ending) (w' : World) : Prop :=
  ∃ v, e = .returned (.tuple #[v, .bool r.2]) ∧ OB w' w.heap.size tb v r.1 ∧ Below w.heap.size w w'
def RetBA (w : World) (tb : TypeId) (r : List UInt8 × Int × Bool) (e : Ending) (w' : World) : Prop :=
  ∃ v, e = .returned (.tuple #[v, .int .i64 r.2.1, .bool r.2.2]) ∧ OB w' w.heap.size tb v r.1 ∧ Below w.heap.size w w'
def RetNA (w : World) (tn : TypeId) (r : List (BitVec 64) × Int × Bool) (e : Ending) (w' : World) : Prop :=
  ∃ v, e = .returned (.tuple #[v, .int .i64 r.2.1, .bool r.2.2]) ∧ ON w' w.heap.size tn v r.1 ∧ Below w.heap.size w w'

/-- Six functions that keep chapter 2. -/
structure CodecS (P : Program) (tb tn : TypeId) (fAU fU fAB fB fAN fN : FuncId) : Prop where
  appUint : ∀ (w : World) (v : Value) (l : List UInt8) (x : BitVec 64) (n : Int), VB w v l → l.length + 8 ≤ 160000000000000 → I64 n →
    Calls P fAU #[v, U x, .int .i64 n] w (RetOB w tb (appUintF l x n))
  uint : ∀ (w : World) (v : Value) (l : List UInt8) (p n : Int), VB w v l → l.length ≤ 281474976710656 → I64 p → I64 n →
    Calls P fU #[v, .int .i64 p, .int .i64 n] w fun e w' => e = .returned (.tuple #[U (uintF l p n).1, .bool (uintF l p n).2]) ∧ Below w.heap.size w w'
  appBytes : ∀ (w : World) (v u : Value) (l m : List UInt8), VB w v l → VB w u m → l.length + 65545 ≤ 160000000000000 → m.length ≤ 281474976710656 →
    Calls P fAB #[v, u] w (RetB w tb (appBytesF l m))
  bytes : ∀ (w : World) (v : Value) (l : List UInt8) (p : Int), VB w v l → l.length ≤ 281474976710656 → I64 p →
    Calls P fB #[v, .int .i64 p] w (RetBA w tb (bytesF l p))
  appNames : ∀ (w : World) (v u : Value) (l : List UInt8) (m : List (BitVec 64)), VB w v l → VN w u m → l.length + 65545 ≤ 160000000000000 → m.length ≤ 281474976710656 →
    Calls P fAN #[v, u] w (RetB w tb (appNamesF l m))
  names : ∀ (w : World) (v : Value) (l : List UInt8) (p : Int), VB w v l → l.length ≤ 281474976710656 → I64 p →
    Calls P fN #[v, .int .i64 p] w (RetNA w tn (namesF l p))

theorem namesF_len (l : List UInt8) (p : Int) : (namesF l p).1.length ≤ 255 := by
  unfold namesF
  split
  · rename_i h
    have := (cntAt_iu l p.toNat (by omega)).2
    simpa [namesAt_len] using this
  · simp
theorem appBytesF_len (l m : List UInt8) : (appBytesF l m).1.length ≤ l.length + 65537 := by
  unfold appBytesF
  split
  · have := tailB_len (ofn m.length) 2 (by omega)
    simp
    omega
  · simp
theorem appNamesF_len (l : List UInt8) (m : List (BitVec 64)) : (appNamesF l m).1.length ≤ l.length + 2041 := by
  unfold appNamesF
  split
  · have := tailB_len (ofn m.length) 1 (by omega)
    have := nsB_len m
    simp
    omega
  · simp
theorem appUintF_len (l : List UInt8) (x : BitVec 64) (n : Int) : (appUintF l x n).length ≤ l.length + 8 := by
  unfold appUintF
  have h := clampW_cases n
  have := tailB_len x (clampW n) (by omega)
  simp
  omega
theorem beI_cons (b : UInt8) (l : List UInt8) (a : Int) : (b :: l).foldl (fun a b => a * 256 + ub b) a = l.foldl (fun a b => a * 256 + ub b) (a * 256 + ub b) := rfl
/-- The last bytes of a number spell its rest. -/
theorem beI_tailB (x : BitVec 64) (k : Nat) (h : k ≤ 8) : beI (tailB x k) = ((x.toNat % 2 ^ (8 * k) : Nat) : Int) := by
  have hlt := x.isLt
  have hk : k = 0 ∨ k = 1 ∨ k = 2 ∨ k = 3 ∨ k = 4 ∨ k = 5 ∨ k = 6 ∨ k = 7 ∨ k = 8 := by omega
  rcases hk with rfl | rfl | rfl | rfl | rfl | rfl | rfl | rfl | rfl <;>
    (simp only [tailB, nmL, List.drop_zero, List.drop_succ_cons, Nat.sub_self, Nat.reduceSub, beI, List.foldl_cons, List.foldl_nil, ub_nb]; simp; try omega)

theorem uintV_tailB (x : BitVec 64) (k : Nat) (h : k ≤ 8) : uintV (tailB x k) = BitVec.ofNat 64 (x.toNat % 2 ^ (8 * k)) := by
  unfold uintV
  rw [beI_tailB x k h, BitVec.ofInt_natCast]
theorem uintV_nmL (x : BitVec 64) : uintV (nmL x) = x := by
  have h := uintV_tailB x 8 (Nat.le_refl _)
  have e : tailB x 8 = nmL x := rfl
  rw [e] at h
  rw [h]
  have := x.isLt
  apply BitVec.eq_of_toNat_eq
  rw [BitVec.toNat_ofNat]
  omega
/-- Eight bytes are the bytes of the name that they spell. -/
theorem nmL_uintV (s : List UInt8) (h : s.length = 8) : nmL (uintV s) = s := by
  obtain ⟨b0, b1, b2, b3, b4, b5, b6, b7, rfl⟩ := list8 s h
  obtain ⟨x, rfl, rfl, rfl, rfl, rfl, rfl, rfl, rfl⟩ := nm_of b0 b1 b2 b3 b4 b5 b6 b7
  exact congrArg nmL (uintV_nmL x)
end Go.Fl
