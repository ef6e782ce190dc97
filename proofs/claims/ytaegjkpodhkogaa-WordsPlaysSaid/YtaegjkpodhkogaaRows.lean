/-
  No cell of these rows narrows 'for every input' (looked for: loops, veiled, ifaces, maps, wideKeys, modest, calm, conditions, laid).
  DERIVED. THE GIVEN ROWS OF THIS SEAT. 5 by the template 'for every input the law returns true; each argument reads behind the call as it read before'; 0 by the template 'total and deterministic' (their statements: YtaegjkpodhkogaaTotals.lean).
  GIVEN WITH THE SEED: the statements are not yours to turn. If you find one false, say at which input.
  Laid BY PROGRAM, IN A SANDBOX (cutbox-rows.mjs): the forced cells as the released guide's own fill.sh prints them over the translation d98d80378290cdd9… (all of the seat's roots in one cut). By AI agents, Wed Nov 11 2026. No macro, syntax, notation, axiom, sorry.
-/
import Derived.Test.YtaegjkpodhkogaaChecked
import GoSem.Claim
import GoSem.ClaimJoined
import GoSem.ClaimMapViews
import Derived.JoinedTies
import Derived.KernelRfl
namespace Go.Proofs.Ytaegjkpodhkogaa
/- THE CELL 'sum', in the pinned program and in every row, IS THE sha256 OF THE DUMP (.gsa) THAT YtaegjkpodhkogaaProg.lean LOADS. Nothing in Lean hashes anything: it is a label: what it is worth is what the hold of that sum in a sandbox is worth. -/
noncomputable def Try.pinned : Pinned := { name := "ytaegjkpodhkogaa", sum := "d98d80378290cdd92280a429fb03427477a794dca1f249023ce25f1f26a36486", checked := Try.checked }
namespace Rows
def none {H : Type} : Left H := { results := [], args := [] }

/-- 'allotmentlaw2.WordsKnown': WHATEVER THE INPUT: true; the input reads as it did. -/
def wordsKnownSpec : ChangeSpec := { name := "wordsKnown", fn := fun _ => fun
  | [] => { results := [.lit (.bool true)], args := [] }
  | _ => none }
def wordsKnownRow : OpenClaim := { program := "ytaegjkpodhkogaa", sum := "d98d80378290cdd92280a429fb03427477a794dca1f249023ce25f1f26a36486", func := "allotment/allotmentlaw2.WordsKnown", spec := "wordsKnown", unfollowed := true, recurses := true, apart := false }
def WordsKnownSaid : Prop := wordsKnownRow.holds Try.pinned (OpenSpec.ofChange wordsKnownSpec)

/-- ITS FALSE NEIGHBOUR: 'it returns false'. Refute it at one input. -/
def wordsKnownWrong : ChangeSpec := { name := "wordsKnown", fn := fun _ => fun
  | [] => { results := [.lit (.bool false)], args := [] }
  | _ => none }
def WordsKnownWrongFalsely : Prop := wordsKnownRow.holds Try.pinned (OpenSpec.ofChange wordsKnownWrong)

/-- 'allotmentlaw2.WordsPlays': WHATEVER THE INPUT: true; the input reads as it did. -/
def wordsPlaysSpec : ChangeSpec := { name := "wordsPlays", fn := fun _ => fun
  | [d1, d2] => { results := [.lit (.bool true)], args := [d1, d2] }
  | _ => none }
def wordsPlaysRow : OpenClaim := { program := "ytaegjkpodhkogaa", sum := "d98d80378290cdd92280a429fb03427477a794dca1f249023ce25f1f26a36486", func := "allotment/allotmentlaw2.WordsPlays", spec := "wordsPlays", unfollowed := true, recurses := true, apart := false }
def WordsPlaysSaid : Prop := wordsPlaysRow.holds Try.pinned (OpenSpec.ofChange wordsPlaysSpec)

/-- ITS FALSE NEIGHBOUR: 'it returns false'. Refute it at one input. -/
def wordsPlaysWrong : ChangeSpec := { name := "wordsPlays", fn := fun _ => fun
  | [d1, d2] => { results := [.lit (.bool false)], args := [d1, d2] }
  | _ => none }
def WordsPlaysWrongFalsely : Prop := wordsPlaysRow.holds Try.pinned (OpenSpec.ofChange wordsPlaysWrong)

/-- 'allotmentlaw2.WordsCounts': WHATEVER THE INPUT: true; the input reads as it did. -/
def wordsCountsSpec : ChangeSpec := { name := "wordsCounts", fn := fun _ => fun
  | [d1, d2] => { results := [.lit (.bool true)], args := [d1, d2] }
  | _ => none }
def wordsCountsRow : OpenClaim := { program := "ytaegjkpodhkogaa", sum := "d98d80378290cdd92280a429fb03427477a794dca1f249023ce25f1f26a36486", func := "allotment/allotmentlaw2.WordsCounts", spec := "wordsCounts", apart := false }
def WordsCountsSaid : Prop := wordsCountsRow.holds Try.pinned (OpenSpec.ofChange wordsCountsSpec)

/-- ITS FALSE NEIGHBOUR: 'it returns false'. Refute it at one input. -/
def wordsCountsWrong : ChangeSpec := { name := "wordsCounts", fn := fun _ => fun
  | [d1, d2] => { results := [.lit (.bool false)], args := [d1, d2] }
  | _ => none }
def WordsCountsWrongFalsely : Prop := wordsCountsRow.holds Try.pinned (OpenSpec.ofChange wordsCountsWrong)

/-- 'allotmentlaw2.WordsGuards': WHATEVER THE INPUT: true; the input reads as it did. -/
def wordsGuardsSpec : ChangeSpec := { name := "wordsGuards", fn := fun _ => fun
  | [d1, d2, d3] => { results := [.lit (.bool true)], args := [d1, d2, d3] }
  | _ => none }
def wordsGuardsRow : OpenClaim := { program := "ytaegjkpodhkogaa", sum := "d98d80378290cdd92280a429fb03427477a794dca1f249023ce25f1f26a36486", func := "allotment/allotmentlaw2.WordsGuards", spec := "wordsGuards", unfollowed := true, recurses := true, apart := false }
def WordsGuardsSaid : Prop := wordsGuardsRow.holds Try.pinned (OpenSpec.ofChange wordsGuardsSpec)

/-- ITS FALSE NEIGHBOUR: 'it returns false'. Refute it at one input. -/
def wordsGuardsWrong : ChangeSpec := { name := "wordsGuards", fn := fun _ => fun
  | [d1, d2, d3] => { results := [.lit (.bool false)], args := [d1, d2, d3] }
  | _ => none }
def WordsGuardsWrongFalsely : Prop := wordsGuardsRow.holds Try.pinned (OpenSpec.ofChange wordsGuardsWrong)

/-- 'allotmentlaw2.WordsOne': WHATEVER THE INPUT: true; the input reads as it did. -/
def wordsOneSpec : ChangeSpec := { name := "wordsOne", fn := fun _ => fun
  | [d1, d2] => { results := [.lit (.bool true)], args := [d1, d2] }
  | _ => none }
def wordsOneRow : OpenClaim := { program := "ytaegjkpodhkogaa", sum := "d98d80378290cdd92280a429fb03427477a794dca1f249023ce25f1f26a36486", func := "allotment/allotmentlaw2.WordsOne", spec := "wordsOne", apart := false }
def WordsOneSaid : Prop := wordsOneRow.holds Try.pinned (OpenSpec.ofChange wordsOneSpec)

/-- ITS FALSE NEIGHBOUR: 'it returns false'. Refute it at one input. -/
def wordsOneWrong : ChangeSpec := { name := "wordsOne", fn := fun _ => fun
  | [d1, d2] => { results := [.lit (.bool false)], args := [d1, d2] }
  | _ => none }
def WordsOneWrongFalsely : Prop := wordsOneRow.holds Try.pinned (OpenSpec.ofChange wordsOneWrong)

/- THE SECOND FORM. 'bulk': how many values and letters a reading holds, each counted each time it is reached (what is shared counts as often as it is met; a slice's spare places count too). A statement '..UptoSaid' is the law's where the arguments, and the package variables that the reading takes, are together of bulk at most 1048576: NARROWER than '..Said'. Prove '..Said' where nothing that the law and all that it calls make is longer than what came in: it says more and counts as full. Else prove '..UptoSaid'. A law counts once. -/
mutual
def uptoBulk {H : Type} : DataW H → Nat
  | .lit (.string bytes) => bytes.length + 1
  | .lit _ => 1
  | .nil => 1
  | .ptr d => uptoBulk d + 1
  | .slice elems spare => uptoBulkAll elems + uptoBulkAll spare + 1
  | .agg parts => uptoBulkAll parts + 1
  | .iface _ d => uptoBulk d + 1
  | .map entries => uptoBulkEntries entries + 1
  | .held _ => 1
def uptoBulkAll {H : Type} : List (DataW H) → Nat
  | [] => 0
  | d :: r => uptoBulk d + uptoBulkAll r
def uptoBulkEntries {H : Type} : List (Lit × DataW H) → Nat
  | [] => 0
  | x :: r => uptoBulkEntry x + uptoBulkEntries r
def uptoBulkEntry {H : Type} : Lit × DataW H → Nat
  | (.string bytes, d) => bytes.length + uptoBulk d + 1
  | (_, d) => uptoBulk d + 1
 end
def uptoSmall : (H : Type) → List (DataW H) → Bool := fun _ ds => decide (uptoBulkAll ds ≤ 1048576)
def OpenSpec.upto (s : _root_.Go.ChangeSpec) : _root_.Go.OpenSpec := { _root_.Go.OpenSpec.ofChange s with cond := some uptoSmall }

/-- 'allotmentlaw2.WordsKnown', WHERE WHAT IT READS IS OF BULK AT MOST 1048576: true; the input reads as it did. -/
def wordsKnownUptoRow : OpenClaim := { program := "ytaegjkpodhkogaa", sum := "d98d80378290cdd92280a429fb03427477a794dca1f249023ce25f1f26a36486", func := "allotment/allotmentlaw2.WordsKnown", spec := "wordsKnown", unfollowed := true, recurses := true, apart := false, narrowed := true }
def WordsKnownUptoSaid : Prop := wordsKnownUptoRow.holds Try.pinned (OpenSpec.upto wordsKnownSpec)

/-- 'allotmentlaw2.WordsPlays', WHERE WHAT IT READS IS OF BULK AT MOST 1048576: true; the input reads as it did. -/
def wordsPlaysUptoRow : OpenClaim := { program := "ytaegjkpodhkogaa", sum := "d98d80378290cdd92280a429fb03427477a794dca1f249023ce25f1f26a36486", func := "allotment/allotmentlaw2.WordsPlays", spec := "wordsPlays", unfollowed := true, recurses := true, apart := false, narrowed := true }
def WordsPlaysUptoSaid : Prop := wordsPlaysUptoRow.holds Try.pinned (OpenSpec.upto wordsPlaysSpec)

/-- 'allotmentlaw2.WordsCounts', WHERE WHAT IT READS IS OF BULK AT MOST 1048576: true; the input reads as it did. -/
def wordsCountsUptoRow : OpenClaim := { program := "ytaegjkpodhkogaa", sum := "d98d80378290cdd92280a429fb03427477a794dca1f249023ce25f1f26a36486", func := "allotment/allotmentlaw2.WordsCounts", spec := "wordsCounts", apart := false, narrowed := true }
def WordsCountsUptoSaid : Prop := wordsCountsUptoRow.holds Try.pinned (OpenSpec.upto wordsCountsSpec)

/-- 'allotmentlaw2.WordsGuards', WHERE WHAT IT READS IS OF BULK AT MOST 1048576: true; the input reads as it did. -/
def wordsGuardsUptoRow : OpenClaim := { program := "ytaegjkpodhkogaa", sum := "d98d80378290cdd92280a429fb03427477a794dca1f249023ce25f1f26a36486", func := "allotment/allotmentlaw2.WordsGuards", spec := "wordsGuards", unfollowed := true, recurses := true, apart := false, narrowed := true }
def WordsGuardsUptoSaid : Prop := wordsGuardsUptoRow.holds Try.pinned (OpenSpec.upto wordsGuardsSpec)

/-- 'allotmentlaw2.WordsOne', WHERE WHAT IT READS IS OF BULK AT MOST 1048576: true; the input reads as it did. -/
def wordsOneUptoRow : OpenClaim := { program := "ytaegjkpodhkogaa", sum := "d98d80378290cdd92280a429fb03427477a794dca1f249023ce25f1f26a36486", func := "allotment/allotmentlaw2.WordsOne", spec := "wordsOne", apart := false, narrowed := true }
def WordsOneUptoSaid : Prop := wordsOneUptoRow.holds Try.pinned (OpenSpec.upto wordsOneSpec)

end Rows
end Go.Proofs.Ytaegjkpodhkogaa
