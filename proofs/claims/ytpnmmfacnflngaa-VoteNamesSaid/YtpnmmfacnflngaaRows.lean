/-
  No cell of these rows narrows 'for every input' (looked for: loops, veiled, ifaces, maps, wideKeys, modest, calm, conditions, laid).
  DERIVED. THE GIVEN ROWS OF THIS SEAT. 7 by the template 'for every input the law returns true; each argument reads behind the call as it read before'; 0 by the template 'total and deterministic' (their statements: YtpnmmfacnflngaaTotals.lean).
  GIVEN WITH THE SEED: the statements are not yours to turn. If you find one false, say at which input.
  Laid BY PROGRAM, IN A SANDBOX (cutbox-rows.mjs): the forced cells as the released guide's own fill.sh prints them over the translation 68b525778e55aff7… (all of the seat's roots in one cut). By AI agents, Wed Nov 11 2026. No macro, syntax, notation, axiom, sorry.
-/
import Derived.Test.YtpnmmfacnflngaaChecked
import GoSem.Claim
import GoSem.ClaimJoined
import GoSem.ClaimMapViews
import Derived.JoinedTies
import Derived.KernelRfl
namespace Go.Proofs.Ytpnmmfacnflngaa
/- THE CELL 'sum', in the pinned program and in every row, IS THE sha256 OF THE DUMP (.gsa) THAT YtpnmmfacnflngaaProg.lean LOADS. Nothing in Lean hashes anything: it is a label: what it is worth is what the hold of that sum in a sandbox is worth. -/
noncomputable def Try.pinned : Pinned := { name := "ytpnmmfacnflngaa", sum := "68b525778e55aff7dae27637362bb70e6cc7e77a2c798f787bb0cf4a3ce2983a", checked := Try.checked }
namespace Rows
def none {H : Type} : Left H := { results := [], args := [] }

/-- 'forkledgerlaw7.VoteValid': WHATEVER THE INPUT: true; the input reads as it did. -/
def voteValidSpec : ChangeSpec := { name := "voteValid", fn := fun _ => fun
  | [d] => { results := [.lit (.bool true)], args := [d] }
  | _ => none }
def voteValidRow : OpenClaim := { program := "ytpnmmfacnflngaa", sum := "68b525778e55aff7dae27637362bb70e6cc7e77a2c798f787bb0cf4a3ce2983a", func := "forkledger/forkledgerlaw7.VoteValid", spec := "voteValid", apart := false }
def VoteValidSaid : Prop := voteValidRow.holds Try.pinned (OpenSpec.ofChange voteValidSpec)

/-- ITS FALSE NEIGHBOUR: 'it returns false'. Refute it at one input. -/
def voteValidWrong : ChangeSpec := { name := "voteValid", fn := fun _ => fun
  | [d] => { results := [.lit (.bool false)], args := [d] }
  | _ => none }
def VoteValidWrongFalsely : Prop := voteValidRow.holds Try.pinned (OpenSpec.ofChange voteValidWrong)

/-- 'forkledgerlaw7.VoteCodes': WHATEVER THE INPUT: true; the input reads as it did. -/
def voteCodesSpec : ChangeSpec := { name := "voteCodes", fn := fun _ => fun
  | [d1, d2, d3, d4] => { results := [.lit (.bool true)], args := [d1, d2, d3, d4] }
  | _ => none }
def voteCodesRow : OpenClaim := { program := "ytpnmmfacnflngaa", sum := "68b525778e55aff7dae27637362bb70e6cc7e77a2c798f787bb0cf4a3ce2983a", func := "forkledger/forkledgerlaw7.VoteCodes", spec := "voteCodes", apart := false }
def VoteCodesSaid : Prop := voteCodesRow.holds Try.pinned (OpenSpec.ofChange voteCodesSpec)

/-- ITS FALSE NEIGHBOUR: 'it returns false'. Refute it at one input. -/
def voteCodesWrong : ChangeSpec := { name := "voteCodes", fn := fun _ => fun
  | [d1, d2, d3, d4] => { results := [.lit (.bool false)], args := [d1, d2, d3, d4] }
  | _ => none }
def VoteCodesWrongFalsely : Prop := voteCodesRow.holds Try.pinned (OpenSpec.ofChange voteCodesWrong)

/-- 'forkledgerlaw7.VoteBack': WHATEVER THE INPUT: true; the input reads as it did. -/
def voteBackSpec : ChangeSpec := { name := "voteBack", fn := fun _ => fun
  | [d1, d2] => { results := [.lit (.bool true)], args := [d1, d2] }
  | _ => none }
def voteBackRow : OpenClaim := { program := "ytpnmmfacnflngaa", sum := "68b525778e55aff7dae27637362bb70e6cc7e77a2c798f787bb0cf4a3ce2983a", func := "forkledger/forkledgerlaw7.VoteBack", spec := "voteBack", apart := false }
def VoteBackSaid : Prop := voteBackRow.holds Try.pinned (OpenSpec.ofChange voteBackSpec)

/-- ITS FALSE NEIGHBOUR: 'it returns false'. Refute it at one input. -/
def voteBackWrong : ChangeSpec := { name := "voteBack", fn := fun _ => fun
  | [d1, d2] => { results := [.lit (.bool false)], args := [d1, d2] }
  | _ => none }
def VoteBackWrongFalsely : Prop := voteBackRow.holds Try.pinned (OpenSpec.ofChange voteBackWrong)

/-- 'forkledgerlaw7.VoteConflicts': WHATEVER THE INPUT: true; the input reads as it did. -/
def voteConflictsSpec : ChangeSpec := { name := "voteConflicts", fn := fun _ => fun
  | [d1, d2] => { results := [.lit (.bool true)], args := [d1, d2] }
  | _ => none }
def voteConflictsRow : OpenClaim := { program := "ytpnmmfacnflngaa", sum := "68b525778e55aff7dae27637362bb70e6cc7e77a2c798f787bb0cf4a3ce2983a", func := "forkledger/forkledgerlaw7.VoteConflicts", spec := "voteConflicts", apart := false }
def VoteConflictsSaid : Prop := voteConflictsRow.holds Try.pinned (OpenSpec.ofChange voteConflictsSpec)

/-- ITS FALSE NEIGHBOUR: 'it returns false'. Refute it at one input. -/
def voteConflictsWrong : ChangeSpec := { name := "voteConflicts", fn := fun _ => fun
  | [d1, d2] => { results := [.lit (.bool false)], args := [d1, d2] }
  | _ => none }
def VoteConflictsWrongFalsely : Prop := voteConflictsRow.holds Try.pinned (OpenSpec.ofChange voteConflictsWrong)

/-- 'forkledgerlaw7.VoteOrder': WHATEVER THE INPUT: true; the input reads as it did. -/
def voteOrderSpec : ChangeSpec := { name := "voteOrder", fn := fun _ => fun
  | [d1, d2, d3] => { results := [.lit (.bool true)], args := [d1, d2, d3] }
  | _ => none }
def voteOrderRow : OpenClaim := { program := "ytpnmmfacnflngaa", sum := "68b525778e55aff7dae27637362bb70e6cc7e77a2c798f787bb0cf4a3ce2983a", func := "forkledger/forkledgerlaw7.VoteOrder", spec := "voteOrder", apart := false }
def VoteOrderSaid : Prop := voteOrderRow.holds Try.pinned (OpenSpec.ofChange voteOrderSpec)

/-- ITS FALSE NEIGHBOUR: 'it returns false'. Refute it at one input. -/
def voteOrderWrong : ChangeSpec := { name := "voteOrder", fn := fun _ => fun
  | [d1, d2, d3] => { results := [.lit (.bool false)], args := [d1, d2, d3] }
  | _ => none }
def VoteOrderWrongFalsely : Prop := voteOrderRow.holds Try.pinned (OpenSpec.ofChange voteOrderWrong)

/-- 'forkledgerlaw7.VoteNeighbors': WHATEVER THE INPUT: true; the input reads as it did. -/
def voteNeighborsSpec : ChangeSpec := { name := "voteNeighbors", fn := fun _ => fun
  | [d1, d2, d3] => { results := [.lit (.bool true)], args := [d1, d2, d3] }
  | _ => none }
def voteNeighborsRow : OpenClaim := { program := "ytpnmmfacnflngaa", sum := "68b525778e55aff7dae27637362bb70e6cc7e77a2c798f787bb0cf4a3ce2983a", func := "forkledger/forkledgerlaw7.VoteNeighbors", spec := "voteNeighbors", apart := false }
def VoteNeighborsSaid : Prop := voteNeighborsRow.holds Try.pinned (OpenSpec.ofChange voteNeighborsSpec)

/-- ITS FALSE NEIGHBOUR: 'it returns false'. Refute it at one input. -/
def voteNeighborsWrong : ChangeSpec := { name := "voteNeighbors", fn := fun _ => fun
  | [d1, d2, d3] => { results := [.lit (.bool false)], args := [d1, d2, d3] }
  | _ => none }
def VoteNeighborsWrongFalsely : Prop := voteNeighborsRow.holds Try.pinned (OpenSpec.ofChange voteNeighborsWrong)

/-- 'forkledgerlaw7.VoteNames': WHATEVER THE INPUT: true; the input reads as it did. -/
def voteNamesSpec : ChangeSpec := { name := "voteNames", fn := fun _ => fun
  | [d1, d2] => { results := [.lit (.bool true)], args := [d1, d2] }
  | _ => none }
def voteNamesRow : OpenClaim := { program := "ytpnmmfacnflngaa", sum := "68b525778e55aff7dae27637362bb70e6cc7e77a2c798f787bb0cf4a3ce2983a", func := "forkledger/forkledgerlaw7.VoteNames", spec := "voteNames", apart := false }
def VoteNamesSaid : Prop := voteNamesRow.holds Try.pinned (OpenSpec.ofChange voteNamesSpec)

/-- ITS FALSE NEIGHBOUR: 'it returns false'. Refute it at one input. -/
def voteNamesWrong : ChangeSpec := { name := "voteNames", fn := fun _ => fun
  | [d1, d2] => { results := [.lit (.bool false)], args := [d1, d2] }
  | _ => none }
def VoteNamesWrongFalsely : Prop := voteNamesRow.holds Try.pinned (OpenSpec.ofChange voteNamesWrong)

/- THE SECOND FORM. 'bulk': how many values and letters a reading holds, each counted each time it is reached (what is shared counts as often as it is met; a slice's spare places count too). A statement '..UptoSaid' is the law's where the arguments, and the package variables that the reading takes, are together of bulk at most 1048576: NARROWER than '..Said'. Prove '..Said' where nothing that the law and all that it calls make is longer than what came in: it says more and counts as full. Else prove '..UptoSaid'. A law counts once. -/
mutual
def uptoBulk {H : Type} : DataW H → Nat
  | .lit (.string bytes) => bytes.length + 1
  | .lit _ => 1
  | .nil => 1
  | .ptr d => uptoBulk d + 1
  | .slice elems spare => uptoBulkAll elems + uptoBulkAll spare + 1
  | .agg parts => uptoBulkAll parts + 1
  | .iface _ d => uptoBulk d + 1
  | .map entries => uptoBulkEntries entries + 1
  | .held _ => 1
def uptoBulkAll {H : Type} : List (DataW H) → Nat
  | [] => 0
  | d :: r => uptoBulk d + uptoBulkAll r
def uptoBulkEntries {H : Type} : List (Lit × DataW H) → Nat
  | [] => 0
  | x :: r => uptoBulkEntry x + uptoBulkEntries r
def uptoBulkEntry {H : Type} : Lit × DataW H → Nat
  | (.string bytes, d) => bytes.length + uptoBulk d + 1
  | (_, d) => uptoBulk d + 1
 end
def uptoSmall : (H : Type) → List (DataW H) → Bool := fun _ ds => decide (uptoBulkAll ds ≤ 1048576)
def OpenSpec.upto (s : _root_.Go.ChangeSpec) : _root_.Go.OpenSpec := { _root_.Go.OpenSpec.ofChange s with cond := some uptoSmall }

/-- 'forkledgerlaw7.VoteValid', WHERE WHAT IT READS IS OF BULK AT MOST 1048576: true; the input reads as it did. -/
def voteValidUptoRow : OpenClaim := { program := "ytpnmmfacnflngaa", sum := "68b525778e55aff7dae27637362bb70e6cc7e77a2c798f787bb0cf4a3ce2983a", func := "forkledger/forkledgerlaw7.VoteValid", spec := "voteValid", apart := false, narrowed := true }
def VoteValidUptoSaid : Prop := voteValidUptoRow.holds Try.pinned (OpenSpec.upto voteValidSpec)

/-- 'forkledgerlaw7.VoteCodes', WHERE WHAT IT READS IS OF BULK AT MOST 1048576: true; the input reads as it did. -/
def voteCodesUptoRow : OpenClaim := { program := "ytpnmmfacnflngaa", sum := "68b525778e55aff7dae27637362bb70e6cc7e77a2c798f787bb0cf4a3ce2983a", func := "forkledger/forkledgerlaw7.VoteCodes", spec := "voteCodes", apart := false, narrowed := true }
def VoteCodesUptoSaid : Prop := voteCodesUptoRow.holds Try.pinned (OpenSpec.upto voteCodesSpec)

/-- 'forkledgerlaw7.VoteBack', WHERE WHAT IT READS IS OF BULK AT MOST 1048576: true; the input reads as it did. -/
def voteBackUptoRow : OpenClaim := { program := "ytpnmmfacnflngaa", sum := "68b525778e55aff7dae27637362bb70e6cc7e77a2c798f787bb0cf4a3ce2983a", func := "forkledger/forkledgerlaw7.VoteBack", spec := "voteBack", apart := false, narrowed := true }
def VoteBackUptoSaid : Prop := voteBackUptoRow.holds Try.pinned (OpenSpec.upto voteBackSpec)

/-- 'forkledgerlaw7.VoteConflicts', WHERE WHAT IT READS IS OF BULK AT MOST 1048576: true; the input reads as it did. -/
def voteConflictsUptoRow : OpenClaim := { program := "ytpnmmfacnflngaa", sum := "68b525778e55aff7dae27637362bb70e6cc7e77a2c798f787bb0cf4a3ce2983a", func := "forkledger/forkledgerlaw7.VoteConflicts", spec := "voteConflicts", apart := false, narrowed := true }
def VoteConflictsUptoSaid : Prop := voteConflictsUptoRow.holds Try.pinned (OpenSpec.upto voteConflictsSpec)

/-- 'forkledgerlaw7.VoteOrder', WHERE WHAT IT READS IS OF BULK AT MOST 1048576: true; the input reads as it did. -/
def voteOrderUptoRow : OpenClaim := { program := "ytpnmmfacnflngaa", sum := "68b525778e55aff7dae27637362bb70e6cc7e77a2c798f787bb0cf4a3ce2983a", func := "forkledger/forkledgerlaw7.VoteOrder", spec := "voteOrder", apart := false, narrowed := true }
def VoteOrderUptoSaid : Prop := voteOrderUptoRow.holds Try.pinned (OpenSpec.upto voteOrderSpec)

/-- 'forkledgerlaw7.VoteNeighbors', WHERE WHAT IT READS IS OF BULK AT MOST 1048576: true; the input reads as it did. -/
def voteNeighborsUptoRow : OpenClaim := { program := "ytpnmmfacnflngaa", sum := "68b525778e55aff7dae27637362bb70e6cc7e77a2c798f787bb0cf4a3ce2983a", func := "forkledger/forkledgerlaw7.VoteNeighbors", spec := "voteNeighbors", apart := false, narrowed := true }
def VoteNeighborsUptoSaid : Prop := voteNeighborsUptoRow.holds Try.pinned (OpenSpec.upto voteNeighborsSpec)

/-- 'forkledgerlaw7.VoteNames', WHERE WHAT IT READS IS OF BULK AT MOST 1048576: true; the input reads as it did. -/
def voteNamesUptoRow : OpenClaim := { program := "ytpnmmfacnflngaa", sum := "68b525778e55aff7dae27637362bb70e6cc7e77a2c798f787bb0cf4a3ce2983a", func := "forkledger/forkledgerlaw7.VoteNames", spec := "voteNames", apart := false, narrowed := true }
def VoteNamesUptoSaid : Prop := voteNamesUptoRow.holds Try.pinned (OpenSpec.upto voteNamesSpec)

end Rows
end Go.Proofs.Ytpnmmfacnflngaa
