/-
  No cell of these rows narrows 'for every input' (looked for: loops, veiled, ifaces, maps, wideKeys, modest, calm, conditions, laid).
  DERIVED. THE GIVEN ROWS OF THIS SEAT. 6 by the template 'for every input the law returns true; each argument reads behind the call as it read before'; 0 by the template 'total and deterministic' (their statements: YtjghengkpbokaaaTotals.lean).
  GIVEN WITH THE SEED: the statements are not yours to turn. If you find one false, say at which input.
  Laid BY PROGRAM, IN A SANDBOX (cutbox-rows.mjs): the forced cells as the released guide's own fill.sh prints them over the translation 767ef8d32f0b6c0d… (all of the seat's roots in one cut). By AI agents, Wed Nov 11 2026. No macro, syntax, notation, axiom, sorry.
-/
import Derived.Test.YtjghengkpbokaaaChecked
import GoSem.Claim
import GoSem.ClaimJoined
import GoSem.ClaimMapViews
import Derived.JoinedTies
import Derived.KernelRfl
namespace Go.Proofs.Ytjghengkpbokaaa
/- THE CELL 'sum', in the pinned program and in every row, IS THE sha256 OF THE DUMP (.gsa) THAT YtjghengkpbokaaaProg.lean LOADS. Nothing in Lean hashes anything: it is a label: what it is worth is what the hold of that sum in a sandbox is worth. -/
noncomputable def Try.pinned : Pinned := { name := "ytjghengkpbokaaa", sum := "767ef8d32f0b6c0d0649fe895cc4d7cd8ee48c8b0d7a12b798768edf0bca582c", checked := Try.checked }
namespace Rows
def none {H : Type} : Left H := { results := [], args := [] }

/-- 'forkledgerlaw5.ManytimeSizes': WHATEVER THE INPUT: true; the input reads as it did. -/
def manytimeSizesSpec : ChangeSpec := { name := "manytimeSizes", fn := fun _ => fun
  | [d1, d2] => { results := [.lit (.bool true)], args := [d1, d2] }
  | _ => none }
def manytimeSizesRow : OpenClaim := { program := "ytjghengkpbokaaa", sum := "767ef8d32f0b6c0d0649fe895cc4d7cd8ee48c8b0d7a12b798768edf0bca582c", func := "forkledger/forkledgerlaw5.ManytimeSizes", spec := "manytimeSizes", apart := false }
def ManytimeSizesSaid : Prop := manytimeSizesRow.holds Try.pinned (OpenSpec.ofChange manytimeSizesSpec)

/-- ITS FALSE NEIGHBOUR: 'it returns false'. Refute it at one input. -/
def manytimeSizesWrong : ChangeSpec := { name := "manytimeSizes", fn := fun _ => fun
  | [d1, d2] => { results := [.lit (.bool false)], args := [d1, d2] }
  | _ => none }
def ManytimeSizesWrongFalsely : Prop := manytimeSizesRow.holds Try.pinned (OpenSpec.ofChange manytimeSizesWrong)

/-- 'forkledgerlaw5.ManytimeSigns': WHATEVER THE INPUT: true; the input reads as it did. -/
def manytimeSignsSpec : ChangeSpec := { name := "manytimeSigns", fn := fun _ => fun
  | [d1, d2, d3, d4] => { results := [.lit (.bool true)], args := [d1, d2, d3, d4] }
  | _ => none }
def manytimeSignsRow : OpenClaim := { program := "ytjghengkpbokaaa", sum := "767ef8d32f0b6c0d0649fe895cc4d7cd8ee48c8b0d7a12b798768edf0bca582c", func := "forkledger/forkledgerlaw5.ManytimeSigns", spec := "manytimeSigns", recurses := true, apart := false }
def ManytimeSignsSaid : Prop := manytimeSignsRow.holds Try.pinned (OpenSpec.ofChange manytimeSignsSpec)

/-- ITS FALSE NEIGHBOUR: 'it returns false'. Refute it at one input. -/
def manytimeSignsWrong : ChangeSpec := { name := "manytimeSigns", fn := fun _ => fun
  | [d1, d2, d3, d4] => { results := [.lit (.bool false)], args := [d1, d2, d3, d4] }
  | _ => none }
def ManytimeSignsWrongFalsely : Prop := manytimeSignsRow.holds Try.pinned (OpenSpec.ofChange manytimeSignsWrong)

/-- 'forkledgerlaw5.ManytimeAccepts': WHATEVER THE INPUT: true; the input reads as it did. -/
def manytimeAcceptsSpec : ChangeSpec := { name := "manytimeAccepts", fn := fun _ => fun
  | [d1, d2, d3, d4] => { results := [.lit (.bool true)], args := [d1, d2, d3, d4] }
  | _ => none }
def manytimeAcceptsRow : OpenClaim := { program := "ytjghengkpbokaaa", sum := "767ef8d32f0b6c0d0649fe895cc4d7cd8ee48c8b0d7a12b798768edf0bca582c", func := "forkledger/forkledgerlaw5.ManytimeAccepts", spec := "manytimeAccepts", recurses := true, apart := false }
def ManytimeAcceptsSaid : Prop := manytimeAcceptsRow.holds Try.pinned (OpenSpec.ofChange manytimeAcceptsSpec)

/-- ITS FALSE NEIGHBOUR: 'it returns false'. Refute it at one input. -/
def manytimeAcceptsWrong : ChangeSpec := { name := "manytimeAccepts", fn := fun _ => fun
  | [d1, d2, d3, d4] => { results := [.lit (.bool false)], args := [d1, d2, d3, d4] }
  | _ => none }
def ManytimeAcceptsWrongFalsely : Prop := manytimeAcceptsRow.holds Try.pinned (OpenSpec.ofChange manytimeAcceptsWrong)

/-- 'forkledgerlaw5.ManytimeVerifies': WHATEVER THE INPUT: true; the input reads as it did. -/
def manytimeVerifiesSpec : ChangeSpec := { name := "manytimeVerifies", fn := fun _ => fun
  | [d1, d2, d3, d4, d5, d6, d7, d8] => { results := [.lit (.bool true)], args := [d1, d2, d3, d4, d5, d6, d7, d8] }
  | _ => none }
def manytimeVerifiesRow : OpenClaim := { program := "ytjghengkpbokaaa", sum := "767ef8d32f0b6c0d0649fe895cc4d7cd8ee48c8b0d7a12b798768edf0bca582c", func := "forkledger/forkledgerlaw5.ManytimeVerifies", spec := "manytimeVerifies", recurses := true, apart := false }
def ManytimeVerifiesSaid : Prop := manytimeVerifiesRow.holds Try.pinned (OpenSpec.ofChange manytimeVerifiesSpec)

/-- ITS FALSE NEIGHBOUR: 'it returns false'. Refute it at one input. -/
def manytimeVerifiesWrong : ChangeSpec := { name := "manytimeVerifies", fn := fun _ => fun
  | [d1, d2, d3, d4, d5, d6, d7, d8] => { results := [.lit (.bool false)], args := [d1, d2, d3, d4, d5, d6, d7, d8] }
  | _ => none }
def ManytimeVerifiesWrongFalsely : Prop := manytimeVerifiesRow.holds Try.pinned (OpenSpec.ofChange manytimeVerifiesWrong)

/-- 'forkledgerlaw5.ManytimeApart': WHATEVER THE INPUT: true; the input reads as it did. -/
def manytimeApartSpec : ChangeSpec := { name := "manytimeApart", fn := fun _ => fun
  | [d1, d2, d3, d4] => { results := [.lit (.bool true)], args := [d1, d2, d3, d4] }
  | _ => none }
def manytimeApartRow : OpenClaim := { program := "ytjghengkpbokaaa", sum := "767ef8d32f0b6c0d0649fe895cc4d7cd8ee48c8b0d7a12b798768edf0bca582c", func := "forkledger/forkledgerlaw5.ManytimeApart", spec := "manytimeApart", recurses := true, apart := false }
def ManytimeApartSaid : Prop := manytimeApartRow.holds Try.pinned (OpenSpec.ofChange manytimeApartSpec)

/-- ITS FALSE NEIGHBOUR: 'it returns false'. Refute it at one input. -/
def manytimeApartWrong : ChangeSpec := { name := "manytimeApart", fn := fun _ => fun
  | [d1, d2, d3, d4] => { results := [.lit (.bool false)], args := [d1, d2, d3, d4] }
  | _ => none }
def ManytimeApartWrongFalsely : Prop := manytimeApartRow.holds Try.pinned (OpenSpec.ofChange manytimeApartWrong)

/-- 'forkledgerlaw5.ManytimeKeys': WHATEVER THE INPUT: true; the input reads as it did. -/
def manytimeKeysSpec : ChangeSpec := { name := "manytimeKeys", fn := fun _ => fun
  | [d1, d2, d3, d4] => { results := [.lit (.bool true)], args := [d1, d2, d3, d4] }
  | _ => none }
def manytimeKeysRow : OpenClaim := { program := "ytjghengkpbokaaa", sum := "767ef8d32f0b6c0d0649fe895cc4d7cd8ee48c8b0d7a12b798768edf0bca582c", func := "forkledger/forkledgerlaw5.ManytimeKeys", spec := "manytimeKeys", recurses := true, apart := false }
def ManytimeKeysSaid : Prop := manytimeKeysRow.holds Try.pinned (OpenSpec.ofChange manytimeKeysSpec)

/-- ITS FALSE NEIGHBOUR: 'it returns false'. Refute it at one input. -/
def manytimeKeysWrong : ChangeSpec := { name := "manytimeKeys", fn := fun _ => fun
  | [d1, d2, d3, d4] => { results := [.lit (.bool false)], args := [d1, d2, d3, d4] }
  | _ => none }
def ManytimeKeysWrongFalsely : Prop := manytimeKeysRow.holds Try.pinned (OpenSpec.ofChange manytimeKeysWrong)

/- THE SECOND FORM. 'bulk': how many values and letters a reading holds, each counted each time it is reached (what is shared counts as often as it is met; a slice's spare places count too). A statement '..UptoSaid' is the law's where the arguments, and the package variables that the reading takes, are together of bulk at most 1048576: NARROWER than '..Said'. Prove '..Said' where nothing that the law and all that it calls make is longer than what came in: it says more and counts as full. Else prove '..UptoSaid'. A law counts once. -/
mutual
def uptoBulk {H : Type} : DataW H → Nat
  | .lit (.string bytes) => bytes.length + 1
  | .lit _ => 1
  | .nil => 1
  | .ptr d => uptoBulk d + 1
  | .slice elems spare => uptoBulkAll elems + uptoBulkAll spare + 1
  | .agg parts => uptoBulkAll parts + 1
  | .iface _ d => uptoBulk d + 1
  | .map entries => uptoBulkEntries entries + 1
  | .held _ => 1
def uptoBulkAll {H : Type} : List (DataW H) → Nat
  | [] => 0
  | d :: r => uptoBulk d + uptoBulkAll r
def uptoBulkEntries {H : Type} : List (Lit × DataW H) → Nat
  | [] => 0
  | x :: r => uptoBulkEntry x + uptoBulkEntries r
def uptoBulkEntry {H : Type} : Lit × DataW H → Nat
  | (.string bytes, d) => bytes.length + uptoBulk d + 1
  | (_, d) => uptoBulk d + 1
 end
def uptoSmall : (H : Type) → List (DataW H) → Bool := fun _ ds => decide (uptoBulkAll ds ≤ 1048576)
def OpenSpec.upto (s : _root_.Go.ChangeSpec) : _root_.Go.OpenSpec := { _root_.Go.OpenSpec.ofChange s with cond := some uptoSmall }

/-- 'forkledgerlaw5.ManytimeSizes', WHERE WHAT IT READS IS OF BULK AT MOST 1048576: true; the input reads as it did. -/
def manytimeSizesUptoRow : OpenClaim := { program := "ytjghengkpbokaaa", sum := "767ef8d32f0b6c0d0649fe895cc4d7cd8ee48c8b0d7a12b798768edf0bca582c", func := "forkledger/forkledgerlaw5.ManytimeSizes", spec := "manytimeSizes", apart := false, narrowed := true }
def ManytimeSizesUptoSaid : Prop := manytimeSizesUptoRow.holds Try.pinned (OpenSpec.upto manytimeSizesSpec)

/-- 'forkledgerlaw5.ManytimeSigns', WHERE WHAT IT READS IS OF BULK AT MOST 1048576: true; the input reads as it did. -/
def manytimeSignsUptoRow : OpenClaim := { program := "ytjghengkpbokaaa", sum := "767ef8d32f0b6c0d0649fe895cc4d7cd8ee48c8b0d7a12b798768edf0bca582c", func := "forkledger/forkledgerlaw5.ManytimeSigns", spec := "manytimeSigns", recurses := true, apart := false, narrowed := true }
def ManytimeSignsUptoSaid : Prop := manytimeSignsUptoRow.holds Try.pinned (OpenSpec.upto manytimeSignsSpec)

/-- 'forkledgerlaw5.ManytimeAccepts', WHERE WHAT IT READS IS OF BULK AT MOST 1048576: true; the input reads as it did. -/
def manytimeAcceptsUptoRow : OpenClaim := { program := "ytjghengkpbokaaa", sum := "767ef8d32f0b6c0d0649fe895cc4d7cd8ee48c8b0d7a12b798768edf0bca582c", func := "forkledger/forkledgerlaw5.ManytimeAccepts", spec := "manytimeAccepts", recurses := true, apart := false, narrowed := true }
def ManytimeAcceptsUptoSaid : Prop := manytimeAcceptsUptoRow.holds Try.pinned (OpenSpec.upto manytimeAcceptsSpec)

/-- 'forkledgerlaw5.ManytimeVerifies', WHERE WHAT IT READS IS OF BULK AT MOST 1048576: true; the input reads as it did. -/
def manytimeVerifiesUptoRow : OpenClaim := { program := "ytjghengkpbokaaa", sum := "767ef8d32f0b6c0d0649fe895cc4d7cd8ee48c8b0d7a12b798768edf0bca582c", func := "forkledger/forkledgerlaw5.ManytimeVerifies", spec := "manytimeVerifies", recurses := true, apart := false, narrowed := true }
def ManytimeVerifiesUptoSaid : Prop := manytimeVerifiesUptoRow.holds Try.pinned (OpenSpec.upto manytimeVerifiesSpec)

/-- 'forkledgerlaw5.ManytimeApart', WHERE WHAT IT READS IS OF BULK AT MOST 1048576: true; the input reads as it did. -/
def manytimeApartUptoRow : OpenClaim := { program := "ytjghengkpbokaaa", sum := "767ef8d32f0b6c0d0649fe895cc4d7cd8ee48c8b0d7a12b798768edf0bca582c", func := "forkledger/forkledgerlaw5.ManytimeApart", spec := "manytimeApart", recurses := true, apart := false, narrowed := true }
def ManytimeApartUptoSaid : Prop := manytimeApartUptoRow.holds Try.pinned (OpenSpec.upto manytimeApartSpec)

/-- 'forkledgerlaw5.ManytimeKeys', WHERE WHAT IT READS IS OF BULK AT MOST 1048576: true; the input reads as it did. -/
def manytimeKeysUptoRow : OpenClaim := { program := "ytjghengkpbokaaa", sum := "767ef8d32f0b6c0d0649fe895cc4d7cd8ee48c8b0d7a12b798768edf0bca582c", func := "forkledger/forkledgerlaw5.ManytimeKeys", spec := "manytimeKeys", recurses := true, apart := false, narrowed := true }
def ManytimeKeysUptoSaid : Prop := manytimeKeysUptoRow.holds Try.pinned (OpenSpec.upto manytimeKeysSpec)

end Rows
end Go.Proofs.Ytjghengkpbokaaa
