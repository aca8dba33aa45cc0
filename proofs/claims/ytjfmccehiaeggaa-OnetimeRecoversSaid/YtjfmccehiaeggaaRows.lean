/-
  No cell of these rows narrows 'for every input' (looked for: loops, veiled, ifaces, maps, wideKeys, modest, calm, conditions, laid).
  DERIVED. THE GIVEN ROWS OF THIS SEAT. 6 by the template 'for every input the law returns true; each argument reads behind the call as it read before'; 0 by the template 'total and deterministic' (their statements: YtjfmccehiaeggaaTotals.lean).
  GIVEN WITH THE SEED: the statements are not yours to turn. If you find one false, say at which input.
  Laid BY PROGRAM, IN A SANDBOX (cutbox-rows.mjs): the forced cells as the released guide's own fill.sh prints them over the translation 8cfb98f670328a9d… (all of the seat's roots in one cut). By AI agents, Wed Nov 11 2026. No macro, syntax, notation, axiom, sorry.
-/
import Derived.Test.YtjfmccehiaeggaaChecked
import GoSem.Claim
import GoSem.ClaimJoined
import GoSem.ClaimMapViews
import Derived.JoinedTies
import Derived.KernelRfl
namespace Go.Proofs.Ytjfmccehiaeggaa
/- THE CELL 'sum', in the pinned program and in every row, IS THE sha256 OF THE DUMP (.gsa) THAT YtjfmccehiaeggaaProg.lean LOADS. Nothing in Lean hashes anything: it is a label: what it is worth is what the hold of that sum in a sandbox is worth. -/
noncomputable def Try.pinned : Pinned := { name := "ytjfmccehiaeggaa", sum := "8cfb98f670328a9d5d672ebfd5c39ad420122cb61b3b69a434912d243fbb4005", checked := Try.checked }
namespace Rows
def none {H : Type} : Left H := { results := [], args := [] }

/-- 'forkledgerlaw4.OnetimeDigits': WHATEVER THE INPUT: true; the input reads as it did. -/
def onetimeDigitsSpec : ChangeSpec := { name := "onetimeDigits", fn := fun _ => fun
  | [d] => { results := [.lit (.bool true)], args := [d] }
  | _ => none }
def onetimeDigitsRow : OpenClaim := { program := "ytjfmccehiaeggaa", sum := "8cfb98f670328a9d5d672ebfd5c39ad420122cb61b3b69a434912d243fbb4005", func := "forkledger/forkledgerlaw4.OnetimeDigits", spec := "onetimeDigits", apart := false }
def OnetimeDigitsSaid : Prop := onetimeDigitsRow.holds Try.pinned (OpenSpec.ofChange onetimeDigitsSpec)

/-- ITS FALSE NEIGHBOUR: 'it returns false'. Refute it at one input. -/
def onetimeDigitsWrong : ChangeSpec := { name := "onetimeDigits", fn := fun _ => fun
  | [d] => { results := [.lit (.bool false)], args := [d] }
  | _ => none }
def OnetimeDigitsWrongFalsely : Prop := onetimeDigitsRow.holds Try.pinned (OpenSpec.ofChange onetimeDigitsWrong)

/-- 'forkledgerlaw4.OnetimeSigns': WHATEVER THE INPUT: true; the input reads as it did. -/
def onetimeSignsSpec : ChangeSpec := { name := "onetimeSigns", fn := fun _ => fun
  | [d1, d2] => { results := [.lit (.bool true)], args := [d1, d2] }
  | _ => none }
def onetimeSignsRow : OpenClaim := { program := "ytjfmccehiaeggaa", sum := "8cfb98f670328a9d5d672ebfd5c39ad420122cb61b3b69a434912d243fbb4005", func := "forkledger/forkledgerlaw4.OnetimeSigns", spec := "onetimeSigns", apart := false }
def OnetimeSignsSaid : Prop := onetimeSignsRow.holds Try.pinned (OpenSpec.ofChange onetimeSignsSpec)

/-- ITS FALSE NEIGHBOUR: 'it returns false'. Refute it at one input. -/
def onetimeSignsWrong : ChangeSpec := { name := "onetimeSigns", fn := fun _ => fun
  | [d1, d2] => { results := [.lit (.bool false)], args := [d1, d2] }
  | _ => none }
def OnetimeSignsWrongFalsely : Prop := onetimeSignsRow.holds Try.pinned (OpenSpec.ofChange onetimeSignsWrong)

/-- 'forkledgerlaw4.OnetimeRecovers': WHATEVER THE INPUT: true; the input reads as it did. -/
def onetimeRecoversSpec : ChangeSpec := { name := "onetimeRecovers", fn := fun _ => fun
  | [d1, d2] => { results := [.lit (.bool true)], args := [d1, d2] }
  | _ => none }
def onetimeRecoversRow : OpenClaim := { program := "ytjfmccehiaeggaa", sum := "8cfb98f670328a9d5d672ebfd5c39ad420122cb61b3b69a434912d243fbb4005", func := "forkledger/forkledgerlaw4.OnetimeRecovers", spec := "onetimeRecovers", apart := false }
def OnetimeRecoversSaid : Prop := onetimeRecoversRow.holds Try.pinned (OpenSpec.ofChange onetimeRecoversSpec)

/-- ITS FALSE NEIGHBOUR: 'it returns false'. Refute it at one input. -/
def onetimeRecoversWrong : ChangeSpec := { name := "onetimeRecovers", fn := fun _ => fun
  | [d1, d2] => { results := [.lit (.bool false)], args := [d1, d2] }
  | _ => none }
def OnetimeRecoversWrongFalsely : Prop := onetimeRecoversRow.holds Try.pinned (OpenSpec.ofChange onetimeRecoversWrong)

/-- 'forkledgerlaw4.OnetimeVerifies': WHATEVER THE INPUT: true; the input reads as it did. -/
def onetimeVerifiesSpec : ChangeSpec := { name := "onetimeVerifies", fn := fun _ => fun
  | [d1, d2] => { results := [.lit (.bool true)], args := [d1, d2] }
  | _ => none }
def onetimeVerifiesRow : OpenClaim := { program := "ytjfmccehiaeggaa", sum := "8cfb98f670328a9d5d672ebfd5c39ad420122cb61b3b69a434912d243fbb4005", func := "forkledger/forkledgerlaw4.OnetimeVerifies", spec := "onetimeVerifies", apart := false }
def OnetimeVerifiesSaid : Prop := onetimeVerifiesRow.holds Try.pinned (OpenSpec.ofChange onetimeVerifiesSpec)

/-- ITS FALSE NEIGHBOUR: 'it returns false'. Refute it at one input. -/
def onetimeVerifiesWrong : ChangeSpec := { name := "onetimeVerifies", fn := fun _ => fun
  | [d1, d2] => { results := [.lit (.bool false)], args := [d1, d2] }
  | _ => none }
def OnetimeVerifiesWrongFalsely : Prop := onetimeVerifiesRow.holds Try.pinned (OpenSpec.ofChange onetimeVerifiesWrong)

/-- 'forkledgerlaw4.OnetimeGuards': WHATEVER THE INPUT: true; the input reads as it did. -/
def onetimeGuardsSpec : ChangeSpec := { name := "onetimeGuards", fn := fun _ => fun
  | [d1, d2] => { results := [.lit (.bool true)], args := [d1, d2] }
  | _ => none }
def onetimeGuardsRow : OpenClaim := { program := "ytjfmccehiaeggaa", sum := "8cfb98f670328a9d5d672ebfd5c39ad420122cb61b3b69a434912d243fbb4005", func := "forkledger/forkledgerlaw4.OnetimeGuards", spec := "onetimeGuards", apart := false }
def OnetimeGuardsSaid : Prop := onetimeGuardsRow.holds Try.pinned (OpenSpec.ofChange onetimeGuardsSpec)

/-- ITS FALSE NEIGHBOUR: 'it returns false'. Refute it at one input. -/
def onetimeGuardsWrong : ChangeSpec := { name := "onetimeGuards", fn := fun _ => fun
  | [d1, d2] => { results := [.lit (.bool false)], args := [d1, d2] }
  | _ => none }
def OnetimeGuardsWrongFalsely : Prop := onetimeGuardsRow.holds Try.pinned (OpenSpec.ofChange onetimeGuardsWrong)

/-- 'forkledgerlaw4.OnetimeChains': WHATEVER THE INPUT: true; the input reads as it did. -/
def onetimeChainsSpec : ChangeSpec := { name := "onetimeChains", fn := fun _ => fun
  | [d1, d2, d3] => { results := [.lit (.bool true)], args := [d1, d2, d3] }
  | _ => none }
def onetimeChainsRow : OpenClaim := { program := "ytjfmccehiaeggaa", sum := "8cfb98f670328a9d5d672ebfd5c39ad420122cb61b3b69a434912d243fbb4005", func := "forkledger/forkledgerlaw4.OnetimeChains", spec := "onetimeChains", apart := false }
def OnetimeChainsSaid : Prop := onetimeChainsRow.holds Try.pinned (OpenSpec.ofChange onetimeChainsSpec)

/-- ITS FALSE NEIGHBOUR: 'it returns false'. Refute it at one input. -/
def onetimeChainsWrong : ChangeSpec := { name := "onetimeChains", fn := fun _ => fun
  | [d1, d2, d3] => { results := [.lit (.bool false)], args := [d1, d2, d3] }
  | _ => none }
def OnetimeChainsWrongFalsely : Prop := onetimeChainsRow.holds Try.pinned (OpenSpec.ofChange onetimeChainsWrong)

/- THE SECOND FORM. 'bulk': how many values and letters a reading holds, each counted each time it is reached (what is shared counts as often as it is met; a slice's spare places count too). A statement '..UptoSaid' is the law's where the arguments, and the package variables that the reading takes, are together of bulk at most 1048576: NARROWER than '..Said'. Prove '..Said' where nothing that the law and all that it calls make is longer than what came in: it says more and counts as full. Else prove '..UptoSaid'. A law counts once. -/
mutual
def uptoBulk {H : Type} : DataW H → Nat
  | .lit (.string bytes) => bytes.length + 1
  | .lit _ => 1
  | .nil => 1
  | .ptr d => uptoBulk d + 1
  | .slice elems spare => uptoBulkAll elems + uptoBulkAll spare + 1
  | .agg parts => uptoBulkAll parts + 1
  | .iface _ d => uptoBulk d + 1
  | .map entries => uptoBulkEntries entries + 1
  | .held _ => 1
def uptoBulkAll {H : Type} : List (DataW H) → Nat
  | [] => 0
  | d :: r => uptoBulk d + uptoBulkAll r
def uptoBulkEntries {H : Type} : List (Lit × DataW H) → Nat
  | [] => 0
  | x :: r => uptoBulkEntry x + uptoBulkEntries r
def uptoBulkEntry {H : Type} : Lit × DataW H → Nat
  | (.string bytes, d) => bytes.length + uptoBulk d + 1
  | (_, d) => uptoBulk d + 1
 end
def uptoSmall : (H : Type) → List (DataW H) → Bool := fun _ ds => decide (uptoBulkAll ds ≤ 1048576)
def OpenSpec.upto (s : _root_.Go.ChangeSpec) : _root_.Go.OpenSpec := { _root_.Go.OpenSpec.ofChange s with cond := some uptoSmall }

/-- 'forkledgerlaw4.OnetimeDigits', WHERE WHAT IT READS IS OF BULK AT MOST 1048576: true; the input reads as it did. -/
def onetimeDigitsUptoRow : OpenClaim := { program := "ytjfmccehiaeggaa", sum := "8cfb98f670328a9d5d672ebfd5c39ad420122cb61b3b69a434912d243fbb4005", func := "forkledger/forkledgerlaw4.OnetimeDigits", spec := "onetimeDigits", apart := false, narrowed := true }
def OnetimeDigitsUptoSaid : Prop := onetimeDigitsUptoRow.holds Try.pinned (OpenSpec.upto onetimeDigitsSpec)

/-- 'forkledgerlaw4.OnetimeSigns', WHERE WHAT IT READS IS OF BULK AT MOST 1048576: true; the input reads as it did. -/
def onetimeSignsUptoRow : OpenClaim := { program := "ytjfmccehiaeggaa", sum := "8cfb98f670328a9d5d672ebfd5c39ad420122cb61b3b69a434912d243fbb4005", func := "forkledger/forkledgerlaw4.OnetimeSigns", spec := "onetimeSigns", apart := false, narrowed := true }
def OnetimeSignsUptoSaid : Prop := onetimeSignsUptoRow.holds Try.pinned (OpenSpec.upto onetimeSignsSpec)

/-- 'forkledgerlaw4.OnetimeRecovers', WHERE WHAT IT READS IS OF BULK AT MOST 1048576: true; the input reads as it did. -/
def onetimeRecoversUptoRow : OpenClaim := { program := "ytjfmccehiaeggaa", sum := "8cfb98f670328a9d5d672ebfd5c39ad420122cb61b3b69a434912d243fbb4005", func := "forkledger/forkledgerlaw4.OnetimeRecovers", spec := "onetimeRecovers", apart := false, narrowed := true }
def OnetimeRecoversUptoSaid : Prop := onetimeRecoversUptoRow.holds Try.pinned (OpenSpec.upto onetimeRecoversSpec)

/-- 'forkledgerlaw4.OnetimeVerifies', WHERE WHAT IT READS IS OF BULK AT MOST 1048576: true; the input reads as it did. -/
def onetimeVerifiesUptoRow : OpenClaim := { program := "ytjfmccehiaeggaa", sum := "8cfb98f670328a9d5d672ebfd5c39ad420122cb61b3b69a434912d243fbb4005", func := "forkledger/forkledgerlaw4.OnetimeVerifies", spec := "onetimeVerifies", apart := false, narrowed := true }
def OnetimeVerifiesUptoSaid : Prop := onetimeVerifiesUptoRow.holds Try.pinned (OpenSpec.upto onetimeVerifiesSpec)

/-- 'forkledgerlaw4.OnetimeGuards', WHERE WHAT IT READS IS OF BULK AT MOST 1048576: true; the input reads as it did. -/
def onetimeGuardsUptoRow : OpenClaim := { program := "ytjfmccehiaeggaa", sum := "8cfb98f670328a9d5d672ebfd5c39ad420122cb61b3b69a434912d243fbb4005", func := "forkledger/forkledgerlaw4.OnetimeGuards", spec := "onetimeGuards", apart := false, narrowed := true }
def OnetimeGuardsUptoSaid : Prop := onetimeGuardsUptoRow.holds Try.pinned (OpenSpec.upto onetimeGuardsSpec)

/-- 'forkledgerlaw4.OnetimeChains', WHERE WHAT IT READS IS OF BULK AT MOST 1048576: true; the input reads as it did. -/
def onetimeChainsUptoRow : OpenClaim := { program := "ytjfmccehiaeggaa", sum := "8cfb98f670328a9d5d672ebfd5c39ad420122cb61b3b69a434912d243fbb4005", func := "forkledger/forkledgerlaw4.OnetimeChains", spec := "onetimeChains", apart := false, narrowed := true }
def OnetimeChainsUptoSaid : Prop := onetimeChainsUptoRow.holds Try.pinned (OpenSpec.upto onetimeChainsSpec)

end Rows
end Go.Proofs.Ytjfmccehiaeggaa
