/-
  What package onetime promises, as a contract of four Go functions ('OneS'); a signature shows the public name.
-/
import Derived.Test.YtjfmccehiaeggaaInts
namespace Go.Fl
open Go.ChangeShapes Go.WideShapes Go.ChangeAt Go.RowKit

/-- Four functions that keep chapter 4. -/
structure OneS (P : Program) (tn ti : TypeId) (fDigits fPublic fSign fRecover : FuncId) : Prop where
  digits : ∀ (w : World) (m : BitVec 64), Calls P fDigits #[nm m] w fun e w' => ∃ v, e = .returned v ∧ OI w' w.heap.size ti v (digF m) ∧ Below w.heap.size w w'
  pub : ∀ (w : World) (s y : BitVec 64), Hid (publicF s = y) → Calls P fPublic #[nm s] w fun e w' => e = .returned (nm y) ∧ Below w.heap.size w w'
  sign : ∀ (w : World) (s m : BitVec 64), Calls P fSign #[nm s, nm m] w fun e w' => ∃ v, e = .returned v ∧ ON w' w.heap.size tn v (valsF s (digF m)) ∧ Below w.heap.size w w'
  recover : ∀ (w : World) (m : BitVec 64) (v : Value) (sig : List (BitVec 64)) (r : BitVec 64 × Bool), VN w v sig → sig.length ≤ 17592186044160 → Hid (recP m sig = r) →
    Calls P fRecover #[nm m, v] w fun e w' => e = .returned (.tuple #[nm r.1, .bool r.2]) ∧ Below w.heap.size w w'

/-- A signature shows the public name. -/
theorem rec_vals (s m : BitVec 64) : recF m (valsF s (digF m)) = valsF s (List.replicate 18 15) := by
  unfold recF
  conv => rhs; unfold valsF
  apply List.map_congr_left
  intro c hc
  have hc : c < 18 := by simpa using hc
  have h1 : (valsF s (digF m)).getD c 0 = chainF (startF s (UInt8.ofNat c)) (UInt8.ofNat c) 0 ((digF m).getD c 0) := by simp [valsF, List.getD_eq_getElem?_getD, hc]
  have h2 : (List.replicate 18 15).getD c 0 = 15 := by rw [List.getD_eq_getElem?_getD, List.getElem?_replicate, if_pos hc]; rfl
  have h3 : (digF m).getD c 0 ≤ 15 := by
    rw [List.getD_eq_getElem?_getD, List.getElem?_eq_getElem (by rw [digF_len]; exact hc)]
    exact digF_le m _ (List.getElem_mem _)
  rw [h1, h2]
  have h4 := chainF_add (startF s (UInt8.ofNat c)) (UInt8.ofNat c) 0 ((digF m).getD c 0) (15 - (digF m).getD c 0)
  rw [Nat.zero_add] at h4
  rw [h4]
  congr 1
  omega
theorem recP_sign (s m : BitVec 64) : recP m (valsF s (digF m)) = (publicF s, true) := by
  unfold recP
  rw [if_pos (by simp [valsF]), rec_vals]
  rfl
end Go.Fl
