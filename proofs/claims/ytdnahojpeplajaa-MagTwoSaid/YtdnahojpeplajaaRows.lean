/-
  No cell of these rows narrows 'for every input' (looked for: loops, veiled, ifaces, maps, wideKeys, modest, calm, conditions, laid).
  DERIVED. THE GIVEN ROWS OF THIS SEAT. 4 by the template 'for every input the law returns true; each argument reads behind the call as it read before'; 0 by the template 'total and deterministic' (their statements: YtdnahojpeplajaaTotals.lean).
  GIVEN WITH THE SEED: the statements are not yours to turn. If you find one false, say at which input.
  Laid BY PROGRAM, IN A SANDBOX (cutbox-rows.mjs): the forced cells as the released guide's own fill.sh prints them over the translation 66d7c802291b88a0… (all of the seat's roots in one cut). By AI agents, Wed Nov 11 2026. No macro, syntax, notation, axiom, sorry.
-/
import Derived.Test.YtdnahojpeplajaaChecked
import GoSem.Claim
import GoSem.ClaimJoined
import GoSem.ClaimMapViews
import Derived.JoinedTies
import Derived.KernelRfl
namespace Go.Proofs.Ytdnahojpeplajaa
/- THE CELL 'sum', in the pinned program and in every row, IS THE sha256 OF THE DUMP (.gsa) THAT YtdnahojpeplajaaProg.lean LOADS. Nothing in Lean hashes anything: it is a label: what it is worth is what the hold of that sum in a sandbox is worth. -/
noncomputable def Try.pinned : Pinned := { name := "ytdnahojpeplajaa", sum := "66d7c802291b88a00368e2f4e9a16a038e708a094bbd1fad8af2cf49e789abfc", checked := Try.checked }
namespace Rows
def none {H : Type} : Left H := { results := [], args := [] }

/-- 'allotmentlaw8.MagKnown': WHATEVER THE INPUT: true; the input reads as it did. -/
def magKnownSpec : ChangeSpec := { name := "magKnown", fn := fun _ => fun
  | [] => { results := [.lit (.bool true)], args := [] }
  | _ => none }
def magKnownRow : OpenClaim := { program := "ytdnahojpeplajaa", sum := "66d7c802291b88a00368e2f4e9a16a038e708a094bbd1fad8af2cf49e789abfc", func := "allotment/allotmentlaw8.MagKnown", spec := "magKnown", apart := false }
def MagKnownSaid : Prop := magKnownRow.holds Try.pinned (OpenSpec.ofChange magKnownSpec)

/-- ITS FALSE NEIGHBOUR: 'it returns false'. Refute it at one input. -/
def magKnownWrong : ChangeSpec := { name := "magKnown", fn := fun _ => fun
  | [] => { results := [.lit (.bool false)], args := [] }
  | _ => none }
def MagKnownWrongFalsely : Prop := magKnownRow.holds Try.pinned (OpenSpec.ofChange magKnownWrong)

/-- 'allotmentlaw8.MagTakes': WHATEVER THE INPUT: true; the input reads as it did. -/
def magTakesSpec : ChangeSpec := { name := "magTakes", fn := fun _ => fun
  | [d1, d2, d3] => { results := [.lit (.bool true)], args := [d1, d2, d3] }
  | _ => none }
def magTakesRow : OpenClaim := { program := "ytdnahojpeplajaa", sum := "66d7c802291b88a00368e2f4e9a16a038e708a094bbd1fad8af2cf49e789abfc", func := "allotment/allotmentlaw8.MagTakes", spec := "magTakes", apart := false }
def MagTakesSaid : Prop := magTakesRow.holds Try.pinned (OpenSpec.ofChange magTakesSpec)

/-- ITS FALSE NEIGHBOUR: 'it returns false'. Refute it at one input. -/
def magTakesWrong : ChangeSpec := { name := "magTakes", fn := fun _ => fun
  | [d1, d2, d3] => { results := [.lit (.bool false)], args := [d1, d2, d3] }
  | _ => none }
def MagTakesWrongFalsely : Prop := magTakesRow.holds Try.pinned (OpenSpec.ofChange magTakesWrong)

/-- 'allotmentlaw8.MagBoth': WHATEVER THE INPUT: true; the input reads as it did. -/
def magBothSpec : ChangeSpec := { name := "magBoth", fn := fun _ => fun
  | [d1, d2, d3] => { results := [.lit (.bool true)], args := [d1, d2, d3] }
  | _ => none }
def magBothRow : OpenClaim := { program := "ytdnahojpeplajaa", sum := "66d7c802291b88a00368e2f4e9a16a038e708a094bbd1fad8af2cf49e789abfc", func := "allotment/allotmentlaw8.MagBoth", spec := "magBoth", apart := false }
def MagBothSaid : Prop := magBothRow.holds Try.pinned (OpenSpec.ofChange magBothSpec)

/-- ITS FALSE NEIGHBOUR: 'it returns false'. Refute it at one input. -/
def magBothWrong : ChangeSpec := { name := "magBoth", fn := fun _ => fun
  | [d1, d2, d3] => { results := [.lit (.bool false)], args := [d1, d2, d3] }
  | _ => none }
def MagBothWrongFalsely : Prop := magBothRow.holds Try.pinned (OpenSpec.ofChange magBothWrong)

/-- 'allotmentlaw8.MagTwo': WHATEVER THE INPUT: true; the input reads as it did. -/
def magTwoSpec : ChangeSpec := { name := "magTwo", fn := fun _ => fun
  | [d1, d2, d3] => { results := [.lit (.bool true)], args := [d1, d2, d3] }
  | _ => none }
def magTwoRow : OpenClaim := { program := "ytdnahojpeplajaa", sum := "66d7c802291b88a00368e2f4e9a16a038e708a094bbd1fad8af2cf49e789abfc", func := "allotment/allotmentlaw8.MagTwo", spec := "magTwo", apart := false }
def MagTwoSaid : Prop := magTwoRow.holds Try.pinned (OpenSpec.ofChange magTwoSpec)

/-- ITS FALSE NEIGHBOUR: 'it returns false'. Refute it at one input. -/
def magTwoWrong : ChangeSpec := { name := "magTwo", fn := fun _ => fun
  | [d1, d2, d3] => { results := [.lit (.bool false)], args := [d1, d2, d3] }
  | _ => none }
def MagTwoWrongFalsely : Prop := magTwoRow.holds Try.pinned (OpenSpec.ofChange magTwoWrong)

/- THE SECOND FORM. 'bulk': how many values and letters a reading holds, each counted each time it is reached (what is shared counts as often as it is met; a slice's spare places count too). A statement '..UptoSaid' is the law's where the arguments, and the package variables that the reading takes, are together of bulk at most 1048576: NARROWER than '..Said'. Prove '..Said' where nothing that the law and all that it calls make is longer than what came in: it says more and counts as full. Else prove '..UptoSaid'. A law counts once. -/
mutual
def uptoBulk {H : Type} : DataW H → Nat
  | .lit (.string bytes) => bytes.length + 1
  | .lit _ => 1
  | .nil => 1
  | .ptr d => uptoBulk d + 1
  | .slice elems spare => uptoBulkAll elems + uptoBulkAll spare + 1
  | .agg parts => uptoBulkAll parts + 1
  | .iface _ d => uptoBulk d + 1
  | .map entries => uptoBulkEntries entries + 1
  | .held _ => 1
def uptoBulkAll {H : Type} : List (DataW H) → Nat
  | [] => 0
  | d :: r => uptoBulk d + uptoBulkAll r
def uptoBulkEntries {H : Type} : List (Lit × DataW H) → Nat
  | [] => 0
  | x :: r => uptoBulkEntry x + uptoBulkEntries r
def uptoBulkEntry {H : Type} : Lit × DataW H → Nat
  | (.string bytes, d) => bytes.length + uptoBulk d + 1
  | (_, d) => uptoBulk d + 1
 end
def uptoSmall : (H : Type) → List (DataW H) → Bool := fun _ ds => decide (uptoBulkAll ds ≤ 1048576)
def OpenSpec.upto (s : _root_.Go.ChangeSpec) : _root_.Go.OpenSpec := { _root_.Go.OpenSpec.ofChange s with cond := some uptoSmall }

/-- 'allotmentlaw8.MagKnown', WHERE WHAT IT READS IS OF BULK AT MOST 1048576: true; the input reads as it did. -/
def magKnownUptoRow : OpenClaim := { program := "ytdnahojpeplajaa", sum := "66d7c802291b88a00368e2f4e9a16a038e708a094bbd1fad8af2cf49e789abfc", func := "allotment/allotmentlaw8.MagKnown", spec := "magKnown", apart := false, narrowed := true }
def MagKnownUptoSaid : Prop := magKnownUptoRow.holds Try.pinned (OpenSpec.upto magKnownSpec)

/-- 'allotmentlaw8.MagTakes', WHERE WHAT IT READS IS OF BULK AT MOST 1048576: true; the input reads as it did. -/
def magTakesUptoRow : OpenClaim := { program := "ytdnahojpeplajaa", sum := "66d7c802291b88a00368e2f4e9a16a038e708a094bbd1fad8af2cf49e789abfc", func := "allotment/allotmentlaw8.MagTakes", spec := "magTakes", apart := false, narrowed := true }
def MagTakesUptoSaid : Prop := magTakesUptoRow.holds Try.pinned (OpenSpec.upto magTakesSpec)

/-- 'allotmentlaw8.MagBoth', WHERE WHAT IT READS IS OF BULK AT MOST 1048576: true; the input reads as it did. -/
def magBothUptoRow : OpenClaim := { program := "ytdnahojpeplajaa", sum := "66d7c802291b88a00368e2f4e9a16a038e708a094bbd1fad8af2cf49e789abfc", func := "allotment/allotmentlaw8.MagBoth", spec := "magBoth", apart := false, narrowed := true }
def MagBothUptoSaid : Prop := magBothUptoRow.holds Try.pinned (OpenSpec.upto magBothSpec)

/-- 'allotmentlaw8.MagTwo', WHERE WHAT IT READS IS OF BULK AT MOST 1048576: true; the input reads as it did. -/
def magTwoUptoRow : OpenClaim := { program := "ytdnahojpeplajaa", sum := "66d7c802291b88a00368e2f4e9a16a038e708a094bbd1fad8af2cf49e789abfc", func := "allotment/allotmentlaw8.MagTwo", spec := "magTwo", apart := false, narrowed := true }
def MagTwoUptoSaid : Prop := magTwoUptoRow.holds Try.pinned (OpenSpec.upto magTwoSpec)

end Rows
end Go.Proofs.Ytdnahojpeplajaa
