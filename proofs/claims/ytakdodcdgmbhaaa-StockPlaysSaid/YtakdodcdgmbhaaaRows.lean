/-
  No cell of these rows narrows 'for every input' (looked for: loops, veiled, ifaces, maps, wideKeys, modest, calm, conditions, laid).
  DERIVED. THE GIVEN ROWS OF THIS SEAT. 4 by the template 'for every input the law returns true; each argument reads behind the call as it read before'; 0 by the template 'total and deterministic' (their statements: YtakdodcdgmbhaaaTotals.lean).
  GIVEN WITH THE SEED: the statements are not yours to turn. If you find one false, say at which input.
  Laid BY PROGRAM, IN A SANDBOX (cutbox-rows.mjs): the forced cells as the released guide's own fill.sh prints them over the translation c361182bfaeb60c7… (all of the seat's roots in one cut). By AI agents, Wed Nov 11 2026. No macro, syntax, notation, axiom, sorry.
-/
import Derived.Test.YtakdodcdgmbhaaaChecked
import GoSem.Claim
import GoSem.ClaimJoined
import GoSem.ClaimMapViews
import Derived.JoinedTies
import Derived.KernelRfl
namespace Go.Proofs.Ytakdodcdgmbhaaa
/- THE CELL 'sum', in the pinned program and in every row, IS THE sha256 OF THE DUMP (.gsa) THAT YtakdodcdgmbhaaaProg.lean LOADS. Nothing in Lean hashes anything: it is a label: what it is worth is what the hold of that sum in a sandbox is worth. -/
noncomputable def Try.pinned : Pinned := { name := "ytakdodcdgmbhaaa", sum := "c361182bfaeb60c70dc4f8ff03f2f14444f424037390ea4bc574f3463cfaa2d7", checked := Try.checked }
namespace Rows
def none {H : Type} : Left H := { results := [], args := [] }

/-- 'recouplaw11.StockPlays': WHATEVER THE INPUT: true; the input reads as it did. -/
def stockPlaysSpec : ChangeSpec := { name := "stockPlays", fn := fun _ => fun
  | [d1, d2, d3] => { results := [.lit (.bool true)], args := [d1, d2, d3] }
  | _ => none }
def stockPlaysRow : OpenClaim := { program := "ytakdodcdgmbhaaa", sum := "c361182bfaeb60c70dc4f8ff03f2f14444f424037390ea4bc574f3463cfaa2d7", func := "recoup/recouplaw11.StockPlays", spec := "stockPlays", unfollowed := true, recurses := true, apart := false }
def StockPlaysSaid : Prop := stockPlaysRow.holds Try.pinned (OpenSpec.ofChange stockPlaysSpec)

/-- ITS FALSE NEIGHBOUR: 'it returns false'. Refute it at one input. -/
def stockPlaysWrong : ChangeSpec := { name := "stockPlays", fn := fun _ => fun
  | [d1, d2, d3] => { results := [.lit (.bool false)], args := [d1, d2, d3] }
  | _ => none }
def StockPlaysWrongFalsely : Prop := stockPlaysRow.holds Try.pinned (OpenSpec.ofChange stockPlaysWrong)

/-- 'recouplaw11.StockStays': WHATEVER THE INPUT: true; the input reads as it did. -/
def stockStaysSpec : ChangeSpec := { name := "stockStays", fn := fun _ => fun
  | [d1, d2] => { results := [.lit (.bool true)], args := [d1, d2] }
  | _ => none }
def stockStaysRow : OpenClaim := { program := "ytakdodcdgmbhaaa", sum := "c361182bfaeb60c70dc4f8ff03f2f14444f424037390ea4bc574f3463cfaa2d7", func := "recoup/recouplaw11.StockStays", spec := "stockStays", unfollowed := true, recurses := true, apart := false }
def StockStaysSaid : Prop := stockStaysRow.holds Try.pinned (OpenSpec.ofChange stockStaysSpec)

/-- ITS FALSE NEIGHBOUR: 'it returns false'. Refute it at one input. -/
def stockStaysWrong : ChangeSpec := { name := "stockStays", fn := fun _ => fun
  | [d1, d2] => { results := [.lit (.bool false)], args := [d1, d2] }
  | _ => none }
def StockStaysWrongFalsely : Prop := stockStaysRow.holds Try.pinned (OpenSpec.ofChange stockStaysWrong)

/-- 'recouplaw11.StockMay': WHATEVER THE INPUT: true; the input reads as it did. -/
def stockMaySpec : ChangeSpec := { name := "stockMay", fn := fun _ => fun
  | [d1, d2] => { results := [.lit (.bool true)], args := [d1, d2] }
  | _ => none }
def stockMayRow : OpenClaim := { program := "ytakdodcdgmbhaaa", sum := "c361182bfaeb60c70dc4f8ff03f2f14444f424037390ea4bc574f3463cfaa2d7", func := "recoup/recouplaw11.StockMay", spec := "stockMay", unfollowed := true, recurses := true, apart := false }
def StockMaySaid : Prop := stockMayRow.holds Try.pinned (OpenSpec.ofChange stockMaySpec)

/-- ITS FALSE NEIGHBOUR: 'it returns false'. Refute it at one input. -/
def stockMayWrong : ChangeSpec := { name := "stockMay", fn := fun _ => fun
  | [d1, d2] => { results := [.lit (.bool false)], args := [d1, d2] }
  | _ => none }
def StockMayWrongFalsely : Prop := stockMayRow.holds Try.pinned (OpenSpec.ofChange stockMayWrong)

/-- 'recouplaw11.StockClones': WHATEVER THE INPUT: true; the input reads as it did. -/
def stockClonesSpec : ChangeSpec := { name := "stockClones", fn := fun _ => fun
  | [d1, d2, d3] => { results := [.lit (.bool true)], args := [d1, d2, d3] }
  | _ => none }
def stockClonesRow : OpenClaim := { program := "ytakdodcdgmbhaaa", sum := "c361182bfaeb60c70dc4f8ff03f2f14444f424037390ea4bc574f3463cfaa2d7", func := "recoup/recouplaw11.StockClones", spec := "stockClones", unfollowed := true, recurses := true, apart := false }
def StockClonesSaid : Prop := stockClonesRow.holds Try.pinned (OpenSpec.ofChange stockClonesSpec)

/-- ITS FALSE NEIGHBOUR: 'it returns false'. Refute it at one input. -/
def stockClonesWrong : ChangeSpec := { name := "stockClones", fn := fun _ => fun
  | [d1, d2, d3] => { results := [.lit (.bool false)], args := [d1, d2, d3] }
  | _ => none }
def StockClonesWrongFalsely : Prop := stockClonesRow.holds Try.pinned (OpenSpec.ofChange stockClonesWrong)

/- THE SECOND FORM. 'bulk': how many values and letters a reading holds, each counted each time it is reached (what is shared counts as often as it is met; a slice's spare places count too). A statement '..UptoSaid' is the law's where the arguments, and the package variables that the reading takes, are together of bulk at most 1048576: NARROWER than '..Said'. Prove '..Said' where nothing that the law and all that it calls make is longer than what came in: it says more and counts as full. Else prove '..UptoSaid'. A law counts once. -/
mutual
def uptoBulk {H : Type} : DataW H → Nat
  | .lit (.string bytes) => bytes.length + 1
  | .lit _ => 1
  | .nil => 1
  | .ptr d => uptoBulk d + 1
  | .slice elems spare => uptoBulkAll elems + uptoBulkAll spare + 1
  | .agg parts => uptoBulkAll parts + 1
  | .iface _ d => uptoBulk d + 1
  | .map entries => uptoBulkEntries entries + 1
  | .held _ => 1
def uptoBulkAll {H : Type} : List (DataW H) → Nat
  | [] => 0
  | d :: r => uptoBulk d + uptoBulkAll r
def uptoBulkEntries {H : Type} : List (Lit × DataW H) → Nat
  | [] => 0
  | x :: r => uptoBulkEntry x + uptoBulkEntries r
def uptoBulkEntry {H : Type} : Lit × DataW H → Nat
  | (.string bytes, d) => bytes.length + uptoBulk d + 1
  | (_, d) => uptoBulk d + 1
 end
def uptoSmall : (H : Type) → List (DataW H) → Bool := fun _ ds => decide (uptoBulkAll ds ≤ 1048576)
def OpenSpec.upto (s : _root_.Go.ChangeSpec) : _root_.Go.OpenSpec := { _root_.Go.OpenSpec.ofChange s with cond := some uptoSmall }

/-- 'recouplaw11.StockPlays', WHERE WHAT IT READS IS OF BULK AT MOST 1048576: true; the input reads as it did. -/
def stockPlaysUptoRow : OpenClaim := { program := "ytakdodcdgmbhaaa", sum := "c361182bfaeb60c70dc4f8ff03f2f14444f424037390ea4bc574f3463cfaa2d7", func := "recoup/recouplaw11.StockPlays", spec := "stockPlays", unfollowed := true, recurses := true, apart := false, narrowed := true }
def StockPlaysUptoSaid : Prop := stockPlaysUptoRow.holds Try.pinned (OpenSpec.upto stockPlaysSpec)

/-- 'recouplaw11.StockStays', WHERE WHAT IT READS IS OF BULK AT MOST 1048576: true; the input reads as it did. -/
def stockStaysUptoRow : OpenClaim := { program := "ytakdodcdgmbhaaa", sum := "c361182bfaeb60c70dc4f8ff03f2f14444f424037390ea4bc574f3463cfaa2d7", func := "recoup/recouplaw11.StockStays", spec := "stockStays", unfollowed := true, recurses := true, apart := false, narrowed := true }
def StockStaysUptoSaid : Prop := stockStaysUptoRow.holds Try.pinned (OpenSpec.upto stockStaysSpec)

/-- 'recouplaw11.StockMay', WHERE WHAT IT READS IS OF BULK AT MOST 1048576: true; the input reads as it did. -/
def stockMayUptoRow : OpenClaim := { program := "ytakdodcdgmbhaaa", sum := "c361182bfaeb60c70dc4f8ff03f2f14444f424037390ea4bc574f3463cfaa2d7", func := "recoup/recouplaw11.StockMay", spec := "stockMay", unfollowed := true, recurses := true, apart := false, narrowed := true }
def StockMayUptoSaid : Prop := stockMayUptoRow.holds Try.pinned (OpenSpec.upto stockMaySpec)

/-- 'recouplaw11.StockClones', WHERE WHAT IT READS IS OF BULK AT MOST 1048576: true; the input reads as it did. -/
def stockClonesUptoRow : OpenClaim := { program := "ytakdodcdgmbhaaa", sum := "c361182bfaeb60c70dc4f8ff03f2f14444f424037390ea4bc574f3463cfaa2d7", func := "recoup/recouplaw11.StockClones", spec := "stockClones", unfollowed := true, recurses := true, apart := false, narrowed := true }
def StockClonesUptoSaid : Prop := stockClonesUptoRow.holds Try.pinned (OpenSpec.upto stockClonesSpec)

end Rows
end Go.Proofs.Ytakdodcdgmbhaaa
