/-
  Votes: what seven functions are to do ('VoteS'); the vote that bytes spell.
-/
import Derived.Test.YtpnmmfacnflngaaVote2
import Derived.Test.YtpnmmfacnflngaaVals
namespace Go.Fl
open Go.ChangeShapes Go.WideShapes Go.ChangeAt Go.RowKit
/-- The vote that 23 bytes spell. -/
def voteOf (l : List UInt8) : VoteV := ⟨ub (l.getD 0 0), ub (l.getD 1 0), ub (l.getD 2 0), ub (l.getD 3 0), ub (l.getD 4 0), ub (l.getD 5 0) * 256 + ub (l.getD 6 0), wordOf (l.drop 7), wordOf (l.drop 15)⟩
/-- Decode. -/
def decF (l : List UInt8) : VoteV × Int := if l.length < 23 then (⟨0, 0, 0, 0, 0, 0, 0, 0⟩, 2) else if 23 < l.length then (⟨0, 0, 0, 0, 0, 0, 0, 0⟩, 3) else if validF (voteOf l) then (voteOf l, 0) else (⟨0, 0, 0, 0, 0, 0, 0, 0⟩, 11)
theorem voteOf_I (l : List UInt8) : (voteOf l).I := by
  have h : ∀ b : UInt8, I64 (ub b) := fun b => by have := ub_lo b; have := ub_hi b; exact ⟨by omega, by omega⟩
  refine ⟨h _, h _, h _, h _, h _, ?_⟩
  have h1 := ub_lo (l.getD 5 0); have h2 := ub_hi (l.getD 5 0); have h3 := ub_lo (l.getD 6 0); have h4 := ub_hi (l.getD 6 0)
  show I64 (ub (l.getD 5 0) * 256 + ub (l.getD 6 0))
  exact ⟨by omega, by omega⟩
theorem list_23 (l : List UInt8) (hl : l.length = 23) : ∃ b0 b1 b2 b3 b4 b5 b6 b7 b8 b9 b10 b11 b12 b13 b14 b15 b16 b17 b18 b19 b20 b21 b22, l = [b0, b1, b2, b3, b4, b5, b6, b7, b8, b9, b10, b11, b12, b13, b14, b15, b16, b17, b18, b19, b20, b21, b22] := by
  rcases l with _ | ⟨b0, l⟩
  · simp only [List.length_nil] at hl; omega
  rcases l with _ | ⟨b1, l⟩
  · simp only [List.length_nil, List.length_cons] at hl; omega
  rcases l with _ | ⟨b2, l⟩
  · simp only [List.length_nil, List.length_cons] at hl; omega
  rcases l with _ | ⟨b3, l⟩
  · simp only [List.length_nil, List.length_cons] at hl; omega
  rcases l with _ | ⟨b4, l⟩
  · simp only [List.length_nil, List.length_cons] at hl; omega
  rcases l with _ | ⟨b5, l⟩
  · simp only [List.length_nil, List.length_cons] at hl; omega
  rcases l with _ | ⟨b6, l⟩
  · simp only [List.length_nil, List.length_cons] at hl; omega
  rcases l with _ | ⟨b7, l⟩
  · simp only [List.length_nil, List.length_cons] at hl; omega
  rcases l with _ | ⟨b8, l⟩
  · simp only [List.length_nil, List.length_cons] at hl; omega
  rcases l with _ | ⟨b9, l⟩
  · simp only [List.length_nil, List.length_cons] at hl; omega
  rcases l with _ | ⟨b10, l⟩
  · simp only [List.length_nil, List.length_cons] at hl; omega
  rcases l with _ | ⟨b11, l⟩
  · simp only [List.length_nil, List.length_cons] at hl; omega
  rcases l with _ | ⟨b12, l⟩
  · simp only [List.length_nil, List.length_cons] at hl; omega
  rcases l with _ | ⟨b13, l⟩
  · simp only [List.length_nil, List.length_cons] at hl; omega
  rcases l with _ | ⟨b14, l⟩
  · simp only [List.length_nil, List.length_cons] at hl; omega
  rcases l with _ | ⟨b15, l⟩
  · simp only [List.length_nil, List.length_cons] at hl; omega
  rcases l with _ | ⟨b16, l⟩
  · simp only [List.length_nil, List.length_cons] at hl; omega
  rcases l with _ | ⟨b17, l⟩
  · simp only [List.length_nil, List.length_cons] at hl; omega
  rcases l with _ | ⟨b18, l⟩
  · simp only [List.length_nil, List.length_cons] at hl; omega
  rcases l with _ | ⟨b19, l⟩
  · simp only [List.length_nil, List.length_cons] at hl; omega
  rcases l with _ | ⟨b20, l⟩
  · simp only [List.length_nil, List.length_cons] at hl; omega
  rcases l with _ | ⟨b21, l⟩
  · simp only [List.length_nil, List.length_cons] at hl; omega
  rcases l with _ | ⟨b22, l⟩
  · simp only [List.length_nil, List.length_cons] at hl; omega
  have : l = [] := List.eq_nil_of_length_eq_zero (by simp only [List.length_cons] at hl; omega)
  subst this
  exact ⟨b0, b1, b2, b3, b4, b5, b6, b7, b8, b9, b10, b11, b12, b13, b14, b15, b16, b17, b18, b19, b20, b21, b22, rfl⟩
/-- A vote's name. -/
def vnameF (v : VoteV) : BitVec 64 := if validF v then sumF (64 :: encF v) else 0
/-- Seven functions that keep chapter 7. -/
structure VoteS (P : Program) (tb : TypeId) (fValid fEnc fDec fName fSame fConf fLess : FuncId) : Prop where
  valid : ∀ (w : World) (v : VoteV), v.I → Calls P fValid #[vV v] w fun e w' => e = .returned (.bool (validF v)) ∧ Below w.heap.size w w'
  enc_no : ∀ (w : World) (v : VoteV), v.I → validF v = false → Calls P fEnc #[vV v] w fun e w' => e = .returned (.tuple #[.slice none 0 0, .bool false]) ∧ Below w.heap.size w w'
  enc_yes : ∀ (w : World) (v : VoteV), v.I → validF v = true → Calls P fEnc #[vV v] w fun e w' => ∃ u, e = .returned (.tuple #[u, .bool true]) ∧ OB w' w.heap.size tb u (encF v) ∧ Below w.heap.size w w'
  dec : ∀ (w : World) (b : Value) (l : List UInt8), VB w b l → Calls P fDec #[b] w fun e w' => e = .returned (.tuple #[vV (decF l).1, .int .i64 (decF l).2]) ∧ Below w.heap.size w w'
  name : ∀ (w : World) (v : VoteV), v.I → Calls P fName #[vV v] w fun e w' => e = .returned (nm (vnameF v)) ∧ Below w.heap.size w w'
  same : ∀ (w : World) (a b : VoteV), Calls P fSame #[vV a, vV b] w fun e w' => e = .returned (.bool (sameF a b)) ∧ Below w.heap.size w w'
  conf : ∀ (w : World) (a b : VoteV), a.I → b.I → Calls P fConf #[vV a, vV b] w fun e w' => e = .returned (.bool (conflictF a b)) ∧ Below w.heap.size w w'
  less : ∀ (w : World) (a b : VoteV), Calls P fLess #[vV a, vV b] w fun e w' => e = .returned (.bool (lessF a b)) ∧ Below w.heap.size w w'
end Go.Fl
