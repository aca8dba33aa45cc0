/-
  No cell of these rows narrows 'for every input' (looked for: loops, veiled, ifaces, maps, wideKeys, modest, calm, conditions, laid).
  DERIVED. THE GIVEN ROWS OF THIS SEAT. 7 by the template 'for every input the law returns true; each argument reads behind the call as it read before'; 0 by the template 'total and deterministic' (their statements: YtonchdillkhjbaaTotals.lean).
  GIVEN WITH THE SEED: the statements are not yours to turn. If you find one false, say at which input.
  Laid BY PROGRAM, IN A SANDBOX (cutbox-rows.mjs): the forced cells as the released guide's own fill.sh prints them over the translation e609d3fc6d1e3afc… (all of the seat's roots in one cut). By AI agents, Wed Nov 11 2026. No macro, syntax, notation, axiom, sorry.
-/
import Derived.Test.YtonchdillkhjbaaChecked
import GoSem.Claim
import GoSem.ClaimJoined
import GoSem.ClaimMapViews
import Derived.JoinedTies
import Derived.KernelRfl
namespace Go.Proofs.Ytonchdillkhjbaa
/- THE CELL 'sum', in the pinned program and in every row, IS THE sha256 OF THE DUMP (.gsa) THAT YtonchdillkhjbaaProg.lean LOADS. Nothing in Lean hashes anything: it is a label: what it is worth is what the hold of that sum in a sandbox is worth. -/
noncomputable def Try.pinned : Pinned := { name := "ytonchdillkhjbaa", sum := "e609d3fc6d1e3afc0980be3d1f983003011b4c191a9ef5af0779f0739bf29ca5", checked := Try.checked }
namespace Rows
def none {H : Type} : Left H := { results := [], args := [] }

/-- 'forkledgerlaw6.CommitteeNumbers': WHATEVER THE INPUT: true; the input reads as it did. -/
def committeeNumbersSpec : ChangeSpec := { name := "committeeNumbers", fn := fun _ => fun
  | [d] => { results := [.lit (.bool true)], args := [d] }
  | _ => none }
def committeeNumbersRow : OpenClaim := { program := "ytonchdillkhjbaa", sum := "e609d3fc6d1e3afc0980be3d1f983003011b4c191a9ef5af0779f0739bf29ca5", func := "forkledger/forkledgerlaw6.CommitteeNumbers", spec := "committeeNumbers", unfollowed := true, recurses := true, apart := false }
def CommitteeNumbersSaid : Prop := committeeNumbersRow.holds Try.pinned (OpenSpec.ofChange committeeNumbersSpec)

/-- ITS FALSE NEIGHBOUR: 'it returns false'. Refute it at one input. -/
def committeeNumbersWrong : ChangeSpec := { name := "committeeNumbers", fn := fun _ => fun
  | [d] => { results := [.lit (.bool false)], args := [d] }
  | _ => none }
def CommitteeNumbersWrongFalsely : Prop := committeeNumbersRow.holds Try.pinned (OpenSpec.ofChange committeeNumbersWrong)

/-- 'forkledgerlaw6.CommitteeSets': WHATEVER THE INPUT: true; the input reads as it did. -/
def committeeSetsSpec : ChangeSpec := { name := "committeeSets", fn := fun _ => fun
  | [d1, d2, d3] => { results := [.lit (.bool true)], args := [d1, d2, d3] }
  | _ => none }
def committeeSetsRow : OpenClaim := { program := "ytonchdillkhjbaa", sum := "e609d3fc6d1e3afc0980be3d1f983003011b4c191a9ef5af0779f0739bf29ca5", func := "forkledger/forkledgerlaw6.CommitteeSets", spec := "committeeSets", unfollowed := true, recurses := true, apart := false }
def CommitteeSetsSaid : Prop := committeeSetsRow.holds Try.pinned (OpenSpec.ofChange committeeSetsSpec)

/-- ITS FALSE NEIGHBOUR: 'it returns false'. Refute it at one input. -/
def committeeSetsWrong : ChangeSpec := { name := "committeeSets", fn := fun _ => fun
  | [d1, d2, d3] => { results := [.lit (.bool false)], args := [d1, d2, d3] }
  | _ => none }
def CommitteeSetsWrongFalsely : Prop := committeeSetsRow.holds Try.pinned (OpenSpec.ofChange committeeSetsWrong)

/-- 'forkledgerlaw6.CommitteeSelects': WHATEVER THE INPUT: true; the input reads as it did. -/
def committeeSelectsSpec : ChangeSpec := { name := "committeeSelects", fn := fun _ => fun
  | [d1, d2, d3] => { results := [.lit (.bool true)], args := [d1, d2, d3] }
  | _ => none }
def committeeSelectsRow : OpenClaim := { program := "ytonchdillkhjbaa", sum := "e609d3fc6d1e3afc0980be3d1f983003011b4c191a9ef5af0779f0739bf29ca5", func := "forkledger/forkledgerlaw6.CommitteeSelects", spec := "committeeSelects", unfollowed := true, recurses := true, apart := false }
def CommitteeSelectsSaid : Prop := committeeSelectsRow.holds Try.pinned (OpenSpec.ofChange committeeSelectsSpec)

/-- ITS FALSE NEIGHBOUR: 'it returns false'. Refute it at one input. -/
def committeeSelectsWrong : ChangeSpec := { name := "committeeSelects", fn := fun _ => fun
  | [d1, d2, d3] => { results := [.lit (.bool false)], args := [d1, d2, d3] }
  | _ => none }
def CommitteeSelectsWrongFalsely : Prop := committeeSelectsRow.holds Try.pinned (OpenSpec.ofChange committeeSelectsWrong)

/-- 'forkledgerlaw6.CommitteeMeets': WHATEVER THE INPUT: true; the input reads as it did. -/
def committeeMeetsSpec : ChangeSpec := { name := "committeeMeets", fn := fun _ => fun
  | [d1, d2, d3] => { results := [.lit (.bool true)], args := [d1, d2, d3] }
  | _ => none }
def committeeMeetsRow : OpenClaim := { program := "ytonchdillkhjbaa", sum := "e609d3fc6d1e3afc0980be3d1f983003011b4c191a9ef5af0779f0739bf29ca5", func := "forkledger/forkledgerlaw6.CommitteeMeets", spec := "committeeMeets", unfollowed := true, recurses := true, apart := false }
def CommitteeMeetsSaid : Prop := committeeMeetsRow.holds Try.pinned (OpenSpec.ofChange committeeMeetsSpec)

/-- ITS FALSE NEIGHBOUR: 'it returns false'. Refute it at one input. -/
def committeeMeetsWrong : ChangeSpec := { name := "committeeMeets", fn := fun _ => fun
  | [d1, d2, d3] => { results := [.lit (.bool false)], args := [d1, d2, d3] }
  | _ => none }
def CommitteeMeetsWrongFalsely : Prop := committeeMeetsRow.holds Try.pinned (OpenSpec.ofChange committeeMeetsWrong)

/-- 'forkledgerlaw6.CommitteeQuorums': WHATEVER THE INPUT: true; the input reads as it did. -/
def committeeQuorumsSpec : ChangeSpec := { name := "committeeQuorums", fn := fun _ => fun
  | [d1, d2] => { results := [.lit (.bool true)], args := [d1, d2] }
  | _ => none }
def committeeQuorumsRow : OpenClaim := { program := "ytonchdillkhjbaa", sum := "e609d3fc6d1e3afc0980be3d1f983003011b4c191a9ef5af0779f0739bf29ca5", func := "forkledger/forkledgerlaw6.CommitteeQuorums", spec := "committeeQuorums", unfollowed := true, recurses := true, apart := false }
def CommitteeQuorumsSaid : Prop := committeeQuorumsRow.holds Try.pinned (OpenSpec.ofChange committeeQuorumsSpec)

/-- ITS FALSE NEIGHBOUR: 'it returns false'. Refute it at one input. -/
def committeeQuorumsWrong : ChangeSpec := { name := "committeeQuorums", fn := fun _ => fun
  | [d1, d2] => { results := [.lit (.bool false)], args := [d1, d2] }
  | _ => none }
def CommitteeQuorumsWrongFalsely : Prop := committeeQuorumsRow.holds Try.pinned (OpenSpec.ofChange committeeQuorumsWrong)

/-- 'forkledgerlaw6.CommitteeStays': WHATEVER THE INPUT: true; the input reads as it did. -/
def committeeStaysSpec : ChangeSpec := { name := "committeeStays", fn := fun _ => fun
  | [d1, d2, d3, d4] => { results := [.lit (.bool true)], args := [d1, d2, d3, d4] }
  | _ => none }
def committeeStaysRow : OpenClaim := { program := "ytonchdillkhjbaa", sum := "e609d3fc6d1e3afc0980be3d1f983003011b4c191a9ef5af0779f0739bf29ca5", func := "forkledger/forkledgerlaw6.CommitteeStays", spec := "committeeStays", unfollowed := true, recurses := true, apart := false }
def CommitteeStaysSaid : Prop := committeeStaysRow.holds Try.pinned (OpenSpec.ofChange committeeStaysSpec)

/-- ITS FALSE NEIGHBOUR: 'it returns false'. Refute it at one input. -/
def committeeStaysWrong : ChangeSpec := { name := "committeeStays", fn := fun _ => fun
  | [d1, d2, d3, d4] => { results := [.lit (.bool false)], args := [d1, d2, d3, d4] }
  | _ => none }
def CommitteeStaysWrongFalsely : Prop := committeeStaysRow.holds Try.pinned (OpenSpec.ofChange committeeStaysWrong)

/-- 'forkledgerlaw6.CommitteeLowest': WHATEVER THE INPUT: true; the input reads as it did. -/
def committeeLowestSpec : ChangeSpec := { name := "committeeLowest", fn := fun _ => fun
  | [d1, d2] => { results := [.lit (.bool true)], args := [d1, d2] }
  | _ => none }
def committeeLowestRow : OpenClaim := { program := "ytonchdillkhjbaa", sum := "e609d3fc6d1e3afc0980be3d1f983003011b4c191a9ef5af0779f0739bf29ca5", func := "forkledger/forkledgerlaw6.CommitteeLowest", spec := "committeeLowest", unfollowed := true, recurses := true, apart := false }
def CommitteeLowestSaid : Prop := committeeLowestRow.holds Try.pinned (OpenSpec.ofChange committeeLowestSpec)

/-- ITS FALSE NEIGHBOUR: 'it returns false'. Refute it at one input. -/
def committeeLowestWrong : ChangeSpec := { name := "committeeLowest", fn := fun _ => fun
  | [d1, d2] => { results := [.lit (.bool false)], args := [d1, d2] }
  | _ => none }
def CommitteeLowestWrongFalsely : Prop := committeeLowestRow.holds Try.pinned (OpenSpec.ofChange committeeLowestWrong)

/- THE SECOND FORM. 'bulk': how many values and letters a reading holds, each counted each time it is reached (what is shared counts as often as it is met; a slice's spare places count too). A statement '..UptoSaid' is the law's where the arguments, and the package variables that the reading takes, are together of bulk at most 1048576: NARROWER than '..Said'. Prove '..Said' where nothing that the law and all that it calls make is longer than what came in: it says more and counts as full. Else prove '..UptoSaid'. A law counts once. -/
mutual
def uptoBulk {H : Type} : DataW H → Nat
  | .lit (.string bytes) => bytes.length + 1
  | .lit _ => 1
  | .nil => 1
  | .ptr d => uptoBulk d + 1
  | .slice elems spare => uptoBulkAll elems + uptoBulkAll spare + 1
  | .agg parts => uptoBulkAll parts + 1
  | .iface _ d => uptoBulk d + 1
  | .map entries => uptoBulkEntries entries + 1
  | .held _ => 1
def uptoBulkAll {H : Type} : List (DataW H) → Nat
  | [] => 0
  | d :: r => uptoBulk d + uptoBulkAll r
def uptoBulkEntries {H : Type} : List (Lit × DataW H) → Nat
  | [] => 0
  | x :: r => uptoBulkEntry x + uptoBulkEntries r
def uptoBulkEntry {H : Type} : Lit × DataW H → Nat
  | (.string bytes, d) => bytes.length + uptoBulk d + 1
  | (_, d) => uptoBulk d + 1
 end
def uptoSmall : (H : Type) → List (DataW H) → Bool := fun _ ds => decide (uptoBulkAll ds ≤ 1048576)
def OpenSpec.upto (s : _root_.Go.ChangeSpec) : _root_.Go.OpenSpec := { _root_.Go.OpenSpec.ofChange s with cond := some uptoSmall }

/-- 'forkledgerlaw6.CommitteeNumbers', WHERE WHAT IT READS IS OF BULK AT MOST 1048576: true; the input reads as it did. -/
def committeeNumbersUptoRow : OpenClaim := { program := "ytonchdillkhjbaa", sum := "e609d3fc6d1e3afc0980be3d1f983003011b4c191a9ef5af0779f0739bf29ca5", func := "forkledger/forkledgerlaw6.CommitteeNumbers", spec := "committeeNumbers", unfollowed := true, recurses := true, apart := false, narrowed := true }
def CommitteeNumbersUptoSaid : Prop := committeeNumbersUptoRow.holds Try.pinned (OpenSpec.upto committeeNumbersSpec)

/-- 'forkledgerlaw6.CommitteeSets', WHERE WHAT IT READS IS OF BULK AT MOST 1048576: true; the input reads as it did. -/
def committeeSetsUptoRow : OpenClaim := { program := "ytonchdillkhjbaa", sum := "e609d3fc6d1e3afc0980be3d1f983003011b4c191a9ef5af0779f0739bf29ca5", func := "forkledger/forkledgerlaw6.CommitteeSets", spec := "committeeSets", unfollowed := true, recurses := true, apart := false, narrowed := true }
def CommitteeSetsUptoSaid : Prop := committeeSetsUptoRow.holds Try.pinned (OpenSpec.upto committeeSetsSpec)

/-- 'forkledgerlaw6.CommitteeSelects', WHERE WHAT IT READS IS OF BULK AT MOST 1048576: true; the input reads as it did. -/
def committeeSelectsUptoRow : OpenClaim := { program := "ytonchdillkhjbaa", sum := "e609d3fc6d1e3afc0980be3d1f983003011b4c191a9ef5af0779f0739bf29ca5", func := "forkledger/forkledgerlaw6.CommitteeSelects", spec := "committeeSelects", unfollowed := true, recurses := true, apart := false, narrowed := true }
def CommitteeSelectsUptoSaid : Prop := committeeSelectsUptoRow.holds Try.pinned (OpenSpec.upto committeeSelectsSpec)

/-- 'forkledgerlaw6.CommitteeMeets', WHERE WHAT IT READS IS OF BULK AT MOST 1048576: true; the input reads as it did. -/
def committeeMeetsUptoRow : OpenClaim := { program := "ytonchdillkhjbaa", sum := "e609d3fc6d1e3afc0980be3d1f983003011b4c191a9ef5af0779f0739bf29ca5", func := "forkledger/forkledgerlaw6.CommitteeMeets", spec := "committeeMeets", unfollowed := true, recurses := true, apart := false, narrowed := true }
def CommitteeMeetsUptoSaid : Prop := committeeMeetsUptoRow.holds Try.pinned (OpenSpec.upto committeeMeetsSpec)

/-- 'forkledgerlaw6.CommitteeQuorums', WHERE WHAT IT READS IS OF BULK AT MOST 1048576: true; the input reads as it did. -/
def committeeQuorumsUptoRow : OpenClaim := { program := "ytonchdillkhjbaa", sum := "e609d3fc6d1e3afc0980be3d1f983003011b4c191a9ef5af0779f0739bf29ca5", func := "forkledger/forkledgerlaw6.CommitteeQuorums", spec := "committeeQuorums", unfollowed := true, recurses := true, apart := false, narrowed := true }
def CommitteeQuorumsUptoSaid : Prop := committeeQuorumsUptoRow.holds Try.pinned (OpenSpec.upto committeeQuorumsSpec)

/-- 'forkledgerlaw6.CommitteeStays', WHERE WHAT IT READS IS OF BULK AT MOST 1048576: true; the input reads as it did. -/
def committeeStaysUptoRow : OpenClaim := { program := "ytonchdillkhjbaa", sum := "e609d3fc6d1e3afc0980be3d1f983003011b4c191a9ef5af0779f0739bf29ca5", func := "forkledger/forkledgerlaw6.CommitteeStays", spec := "committeeStays", unfollowed := true, recurses := true, apart := false, narrowed := true }
def CommitteeStaysUptoSaid : Prop := committeeStaysUptoRow.holds Try.pinned (OpenSpec.upto committeeStaysSpec)

/-- 'forkledgerlaw6.CommitteeLowest', WHERE WHAT IT READS IS OF BULK AT MOST 1048576: true; the input reads as it did. -/
def committeeLowestUptoRow : OpenClaim := { program := "ytonchdillkhjbaa", sum := "e609d3fc6d1e3afc0980be3d1f983003011b4c191a9ef5af0779f0739bf29ca5", func := "forkledger/forkledgerlaw6.CommitteeLowest", spec := "committeeLowest", unfollowed := true, recurses := true, apart := false, narrowed := true }
def CommitteeLowestUptoSaid : Prop := committeeLowestUptoRow.holds Try.pinned (OpenSpec.upto committeeLowestSpec)

end Rows
end Go.Proofs.Ytonchdillkhjbaa
