/-
  One-time signatures as plain functions: chains, and what package onetime promises of them.
-/
import Derived.Test.YtpnmmfacnflngaaVals
namespace Go.Fl
open Go.ChangeShapes Go.WideShapes Go.ChangeAt Go.RowKit

/-- One step of chain c from position p. -/
def stepF (v : BitVec 64) (c p : UInt8) : BitVec 64 := sumF (33 :: (nmL v ++ [c, p]))
/-- k steps of chain c from position p on. -/
def chainF (v : BitVec 64) (c : UInt8) (p : Nat) : Nat → BitVec 64
  | 0 => v
  | k + 1 => stepF (chainF v c p k) c (UInt8.ofNat (p + k))
theorem chainF_add (v : BitVec 64) (c : UInt8) (p a b : Nat) : chainF (chainF v c p a) c (p + a) b = chainF v c p (a + b) := by
  induction b with
  | zero => rfl
  | succ b ih =>
    rw [chainF, ih, ← Nat.add_assoc, chainF]
    congr 2
    omega
def startF (seed : BitVec 64) (c : UInt8) : BitVec 64 := sumF (32 :: (nmL seed ++ [c]))
def endsF (l : List (BitVec 64)) : BitVec 64 := sumF (34 :: nsB l)
/-- The values at these positions of all chains. -/
def valsF (seed : BitVec 64) (d : List Nat) : List (BitVec 64) := (List.range 18).map fun c => chainF (startF seed (UInt8.ofNat c)) (UInt8.ofNat c) 0 (d.getD c 0)
def publicF (seed : BitVec 64) : BitVec 64 := endsF (valsF seed (List.replicate 18 15))
/-- The digits of a name. -/
def halfs (m : BitVec 64) : List Nat := (nmL m).flatMap fun b => [b.toNat / 16, b.toNat % 16]
def restF (m : BitVec 64) : Nat := 240 - (halfs m).sum
def digF (m : BitVec 64) : List Nat := halfs m ++ [restF m / 16, restF m % 16]
def recF (m : BitVec 64) (sig : List (BitVec 64)) : List (BitVec 64) := (List.range 18).map fun c => chainF (sig.getD c 0) (UInt8.ofNat c) ((digF m).getD c 0) (15 - (digF m).getD c 0)
def recP (m : BitVec 64) (sig : List (BitVec 64)) : BitVec 64 × Bool := if sig.length = 18 then (endsF (recF m sig), true) else (0, false)
theorem ub_ofNat (c : Nat) (h : c < 256) : ub (UInt8.ofNat c) = (c : Int) := by
  unfold ub
  simp
  omega
end Go.Fl
