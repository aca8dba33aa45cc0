/-
  The contracts of package vote and of its reference with a vote's cells closed, a function each.
-/
import Derived.Test.YtpnmmfacnflngaaVoteD
import Derived.Test.YtpnmmfacnflngaaR7Dec
import Derived.Test.YtpnmmfacnflngaaVoteM
namespace Go.Proofs.Ytpnmmfacnflngaa
open Go.ChangeShapes Go.WideShapes Go.ChangeAt Go.RowKit Go.Fl

theorem coValid (a : VoteV) (ha : a.I) (r : Bool) (h : Hid (validF a = r)) (w : World) : Calls Try.prog 10 #[.agg (voteL a).toArray] w fun e w' => e = .returned (.bool r) ∧ Below w.heap.size w w' := by
  rw [← h.out]
  exact vvalid_any a ha w
theorem coSame (a b : VoteV) (r : Bool) (h : Hid (sameF a b = r)) (w : World) : Calls Try.prog 20 #[.agg (voteL a).toArray, .agg (voteL b).toArray] w fun e w' => e = .returned (.bool r) ∧ Below w.heap.size w w' := by
  rw [← h.out]
  exact vsame_any a b w
theorem coConf (a b : VoteV) (ha : a.I) (hb : b.I) (r : Bool) (h : Hid (conflictF a b = r)) (w : World) : Calls Try.prog 22 #[.agg (voteL a).toArray, .agg (voteL b).toArray] w fun e w' => e = .returned (.bool r) ∧ Below w.heap.size w w' := by
  rw [← h.out]
  exact vconf_any a b ha hb w
theorem coLess (a b : VoteV) (r : Bool) (h : Hid (lessF a b = r)) (w : World) : Calls Try.prog 24 #[.agg (voteL a).toArray, .agg (voteL b).toArray] w fun e w' => e = .returned (.bool r) ∧ Below w.heap.size w w' := by
  rw [← h.out]
  exact vless_any a b w
theorem coName (a : VoteV) (ha : a.I) (y : BitVec 64) (h : Hid (vnameF a = y)) (w : World) : Calls Try.prog 15 #[.agg (voteL a).toArray] w fun e w' => e = .returned (nm y) ∧ Below w.heap.size w w' := by
  rw [← h.out]
  exact vname_any a ha w
theorem coEncYes (a : VoteV) (ha : a.I) (h : Hid (validF a = true)) (l : List UInt8) (hl : Hid (encF a = l)) (w : World) : Calls Try.prog 13 #[.agg (voteL a).toArray] w fun e w' => ∃ u, e = .returned (.tuple #[u, .bool true]) ∧ OB w' w.heap.size 5 u l ∧ Below w.heap.size w w' := by
  rw [← hl.out]
  exact venc_yes a ha h w
theorem coEncNo (a : VoteV) (ha : a.I) (h : Hid (validF a = false)) (w : World) : Calls Try.prog 13 #[.agg (voteL a).toArray] w fun e w' => e = .returned (.tuple #[.slice none 0 0, .bool false]) ∧ Below w.heap.size w w' :=
  venc_no a ha h w
theorem coDec (u : Value) (l : List UInt8) (v : VoteV) (k : Int) (h : Hid (decF l = (v, k))) (w : World) (hu : VB w u l) : Calls Try.prog 17 #[u] w fun e w' => e = .returned (.tuple #[.agg (voteL v).toArray, .int .i64 k]) ∧ Below w.heap.size w w' := by
  have h1 := vdec_any u l w hu
  rw [h.out] at h1
  exact h1
theorem rfValid (a : VoteV) (ha : a.I) (r : Bool) (h : Hid (validF a = r)) (w : World) : Calls Try.prog 11 #[.agg (voteL a).toArray] w fun e w' => e = .returned (.bool r) ∧ Below w.heap.size w w' := by
  rw [← h.out]
  exact rvalid_any a ha w
theorem rfSame (a b : VoteV) (r : Bool) (h : Hid (sameF a b = r)) (w : World) : Calls Try.prog 21 #[.agg (voteL a).toArray, .agg (voteL b).toArray] w fun e w' => e = .returned (.bool r) ∧ Below w.heap.size w w' := by
  rw [← h.out]
  exact rsame_any a b w
theorem rfConf (a b : VoteV) (ha : a.I) (hb : b.I) (r : Bool) (h : Hid (conflictF a b = r)) (w : World) : Calls Try.prog 23 #[.agg (voteL a).toArray, .agg (voteL b).toArray] w fun e w' => e = .returned (.bool r) ∧ Below w.heap.size w w' := by
  rw [← h.out]
  exact rconf_any a b ha hb w
theorem rfLess (a b : VoteV) (r : Bool) (h : Hid (lessF a b = r)) (w : World) : Calls Try.prog 25 #[.agg (voteL a).toArray, .agg (voteL b).toArray] w fun e w' => e = .returned (.bool r) ∧ Below w.heap.size w w' := by
  rw [← h.out]
  exact rless7_any a b w
theorem rvname_any (v : VoteV) (hv : v.I) (w : World) : Calls Try.prog 16 #[vV v] w fun e w' => e = .returned (nm (vnameF v)) ∧ Below w.heap.size w w' := by
  unfold vnameF
  by_cases h : validF v = true
  · rw [if_pos h]
    exact rname_yes v hv (Lib.hid h) _ (Lib.hid rfl) w
  · rw [if_neg h]
    exact rname_no v hv (Lib.hid (by simpa using h)) w
theorem rfName (a : VoteV) (ha : a.I) (y : BitVec 64) (h : Hid (vnameF a = y)) (w : World) : Calls Try.prog 16 #[.agg (voteL a).toArray] w fun e w' => e = .returned (nm y) ∧ Below w.heap.size w w' := by
  rw [← h.out]
  exact rvname_any a ha w
theorem rfEncYes (a : VoteV) (ha : a.I) (h : Hid (validF a = true)) (l : List UInt8) (hl : Hid (encF a = l)) (w : World) : Calls Try.prog 14 #[.agg (voteL a).toArray] w fun e w' => ∃ u, e = .returned (.tuple #[u, .bool true]) ∧ OB w' w.heap.size 5 u l ∧ Below w.heap.size w w' := by
  rw [← hl.out]
  exact renc_yes a ha h w
theorem rfEncNo (a : VoteV) (ha : a.I) (h : Hid (validF a = false)) (w : World) : Calls Try.prog 14 #[.agg (voteL a).toArray] w fun e w' => e = .returned (.tuple #[.slice none 0 0, .bool false]) ∧ Below w.heap.size w w' :=
  renc_no a ha h w
theorem rfDec (u : Value) (l : List UInt8) (v : VoteV) (k : Int) (h : Hid (decF l = (v, k))) (w : World) (hu : VB w u l) : Calls Try.prog 18 #[u] w fun e w' => e = .returned (.tuple #[.agg (voteL v).toArray, .int .i64 k]) ∧ Below w.heap.size w w' := by
  have h1 := rdec_any u l w hu
  rw [h.out] at h1
  exact h1
end Go.Proofs.Ytpnmmfacnflngaa
