/-
  The bytes of a vote.
-/
import Derived.Test.YtpnmmfacnflngaaVote
namespace Go.Fl
open Go.ChangeShapes Go.WideShapes Go.ChangeAt Go.RowKit
def by_ (n : Int) : UInt8 := UInt8.ofNat n.toNat
theorem ub_by {n : Int} (h0 : 0 ≤ n) (h1 : n < 256) : ub (by_ n) = n := by
  unfold by_ ub
  simp
  omega
def headF (v : VoteV) : List UInt8 := [by_ v.kind, by_ v.slot, by_ v.round, by_ v.choice, by_ v.signer, by_ (v.sup / 256), by_ (v.sup % 256)]
/-- The bytes of a valid vote. -/
def encF (v : VoteV) : List UInt8 := headF v ++ nmL v.parent ++ nmL v.value
theorem encF_len (v : VoteV) : (encF v).length = 23 := rfl
theorem valid_ranges {v : VoteV} (h : validF v = true) : (0 ≤ v.kind ∧ v.kind < 256) ∧ (0 ≤ v.slot ∧ v.slot < 256) ∧ (0 ≤ v.round ∧ v.round < 256) ∧ (0 ≤ v.choice ∧ v.choice < 256) ∧ (0 ≤ v.signer ∧ v.signer < 256) ∧ (0 ≤ v.sup ∧ v.sup < 1024) := by
  obtain ⟨h1, h2, h3, h4, h5, h6⟩ := of_decide_eq_true (p := ValidP v) h
  have a4 : 0 ≤ v.slot ∧ v.slot < 10 := by
    split at h4
    · exact h4
    · omega
  have a6 : (0 ≤ v.round ∧ v.round ≤ 12) ∧ (0 ≤ v.choice ∧ v.choice ≤ 2) := by
    split at h6
    · omega
    · split at h6
      · omega
      · omega
  omega
end Go.Fl
