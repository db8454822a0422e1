/-
  No cell of these rows narrows 'for every input' (looked for: loops, veiled, ifaces, maps, wideKeys, modest, calm, conditions, laid).
  DERIVED. THE GIVEN ROWS OF THIS SEAT. 4 by the template 'for every input the law returns true; each argument reads behind the call as it read before'; 0 by the template 'total and deterministic' (their statements: YteaapfagajdomaaTotals.lean).
  GIVEN WITH THE SEED: the statements are not yours to turn. If you find one false, say at which input.
  Laid BY PROGRAM, IN A SANDBOX (cutbox-rows.mjs): the forced cells as the released guide's own fill.sh prints them over the translation 45b05e309d898af2… (all of the seat's roots in one cut). By AI agents, Wed Nov 11 2026. No macro, syntax, notation, axiom, sorry.
-/
import Derived.Test.YteaapfagajdomaaChecked
import GoSem.Claim
import GoSem.ClaimJoined
import GoSem.ClaimMapViews
import Derived.JoinedTies
import Derived.KernelRfl
namespace Go.Proofs.Yteaapfagajdomaa
/- THE CELL 'sum', in the pinned program and in every row, IS THE sha256 OF THE DUMP (.gsa) THAT YteaapfagajdomaaProg.lean LOADS. Nothing in Lean hashes anything: it is a label: what it is worth is what the hold of that sum in a sandbox is worth. -/
noncomputable def Try.pinned : Pinned := { name := "yteaapfagajdomaa", sum := "45b05e309d898af2238abe819988f7de9335acbc36428c95d640b3e5e2ce0747", checked := Try.checked }
namespace Rows
def none {H : Type} : Left H := { results := [], args := [] }

/-- 'recouplaw05.CentsSums': WHATEVER THE INPUT: true; the input reads as it did. -/
def centsSumsSpec : ChangeSpec := { name := "centsSums", fn := fun _ => fun
  | [d1, d2] => { results := [.lit (.bool true)], args := [d1, d2] }
  | _ => none }
def centsSumsRow : OpenClaim := { program := "yteaapfagajdomaa", sum := "45b05e309d898af2238abe819988f7de9335acbc36428c95d640b3e5e2ce0747", func := "recoup/recouplaw05.CentsSums", spec := "centsSums", named := ["math/bits.divideError", "math/bits.overflowError"], apart := false }
def CentsSumsSaid : Prop := centsSumsRow.holds Try.pinned (OpenSpec.ofChange centsSumsSpec)

/-- ITS FALSE NEIGHBOUR: 'it returns false'. Refute it at one input. -/
def centsSumsWrong : ChangeSpec := { name := "centsSums", fn := fun _ => fun
  | [d1, d2] => { results := [.lit (.bool false)], args := [d1, d2] }
  | _ => none }
def CentsSumsWrongFalsely : Prop := centsSumsRow.holds Try.pinned (OpenSpec.ofChange centsSumsWrong)

/-- 'recouplaw05.CentsTimes': WHATEVER THE INPUT: true; the input reads as it did. -/
def centsTimesSpec : ChangeSpec := { name := "centsTimes", fn := fun _ => fun
  | [d1, d2] => { results := [.lit (.bool true)], args := [d1, d2] }
  | _ => none }
def centsTimesRow : OpenClaim := { program := "yteaapfagajdomaa", sum := "45b05e309d898af2238abe819988f7de9335acbc36428c95d640b3e5e2ce0747", func := "recoup/recouplaw05.CentsTimes", spec := "centsTimes", named := ["math/bits.divideError", "math/bits.overflowError"], apart := false }
def CentsTimesSaid : Prop := centsTimesRow.holds Try.pinned (OpenSpec.ofChange centsTimesSpec)

/-- ITS FALSE NEIGHBOUR: 'it returns false'. Refute it at one input. -/
def centsTimesWrong : ChangeSpec := { name := "centsTimes", fn := fun _ => fun
  | [d1, d2] => { results := [.lit (.bool false)], args := [d1, d2] }
  | _ => none }
def CentsTimesWrongFalsely : Prop := centsTimesRow.holds Try.pinned (OpenSpec.ofChange centsTimesWrong)

/-- 'recouplaw05.CentsParts': WHATEVER THE INPUT: true; the input reads as it did. -/
def centsPartsSpec : ChangeSpec := { name := "centsParts", fn := fun _ => fun
  | [d1, d2, d3, d4] => { results := [.lit (.bool true)], args := [d1, d2, d3, d4] }
  | _ => none }
def centsPartsRow : OpenClaim := { program := "yteaapfagajdomaa", sum := "45b05e309d898af2238abe819988f7de9335acbc36428c95d640b3e5e2ce0747", func := "recoup/recouplaw05.CentsParts", spec := "centsParts", named := ["math/bits.divideError", "math/bits.overflowError"], apart := false }
def CentsPartsSaid : Prop := centsPartsRow.holds Try.pinned (OpenSpec.ofChange centsPartsSpec)

/-- ITS FALSE NEIGHBOUR: 'it returns false'. Refute it at one input. -/
def centsPartsWrong : ChangeSpec := { name := "centsParts", fn := fun _ => fun
  | [d1, d2, d3, d4] => { results := [.lit (.bool false)], args := [d1, d2, d3, d4] }
  | _ => none }
def CentsPartsWrongFalsely : Prop := centsPartsRow.holds Try.pinned (OpenSpec.ofChange centsPartsWrong)

/-- 'recouplaw05.CentsAll': WHATEVER THE INPUT: true; the input reads as it did. -/
def centsAllSpec : ChangeSpec := { name := "centsAll", fn := fun _ => fun
  | [d] => { results := [.lit (.bool true)], args := [d] }
  | _ => none }
def centsAllRow : OpenClaim := { program := "yteaapfagajdomaa", sum := "45b05e309d898af2238abe819988f7de9335acbc36428c95d640b3e5e2ce0747", func := "recoup/recouplaw05.CentsAll", spec := "centsAll", named := ["math/bits.divideError", "math/bits.overflowError"], apart := false }
def CentsAllSaid : Prop := centsAllRow.holds Try.pinned (OpenSpec.ofChange centsAllSpec)

/-- ITS FALSE NEIGHBOUR: 'it returns false'. Refute it at one input. -/
def centsAllWrong : ChangeSpec := { name := "centsAll", fn := fun _ => fun
  | [d] => { results := [.lit (.bool false)], args := [d] }
  | _ => none }
def CentsAllWrongFalsely : Prop := centsAllRow.holds Try.pinned (OpenSpec.ofChange centsAllWrong)

/- THE SECOND FORM. 'bulk': how many values and letters a reading holds, each counted each time it is reached (what is shared counts as often as it is met; a slice's spare places count too). A statement '..UptoSaid' is the law's where the arguments, and the package variables that the reading takes, are together of bulk at most 1048576: NARROWER than '..Said'. Prove '..Said' where nothing that the law and all that it calls make is longer than what came in: it says more and counts as full. Else prove '..UptoSaid'. A law counts once. -/
mutual
def uptoBulk {H : Type} : DataW H → Nat
  | .lit (.string bytes) => bytes.length + 1
  | .lit _ => 1
  | .nil => 1
  | .ptr d => uptoBulk d + 1
  | .slice elems spare => uptoBulkAll elems + uptoBulkAll spare + 1
  | .agg parts => uptoBulkAll parts + 1
  | .iface _ d => uptoBulk d + 1
  | .map entries => uptoBulkEntries entries + 1
  | .held _ => 1
def uptoBulkAll {H : Type} : List (DataW H) → Nat
  | [] => 0
  | d :: r => uptoBulk d + uptoBulkAll r
def uptoBulkEntries {H : Type} : List (Lit × DataW H) → Nat
  | [] => 0
  | x :: r => uptoBulkEntry x + uptoBulkEntries r
def uptoBulkEntry {H : Type} : Lit × DataW H → Nat
  | (.string bytes, d) => bytes.length + uptoBulk d + 1
  | (_, d) => uptoBulk d + 1
 end
def uptoSmall : (H : Type) → List (DataW H) → Bool := fun _ ds => decide (uptoBulkAll ds ≤ 1048576)
def OpenSpec.upto (s : _root_.Go.ChangeSpec) : _root_.Go.OpenSpec := { _root_.Go.OpenSpec.ofChange s with cond := some uptoSmall }

/-- 'recouplaw05.CentsSums', WHERE WHAT IT READS IS OF BULK AT MOST 1048576: true; the input reads as it did. -/
def centsSumsUptoRow : OpenClaim := { program := "yteaapfagajdomaa", sum := "45b05e309d898af2238abe819988f7de9335acbc36428c95d640b3e5e2ce0747", func := "recoup/recouplaw05.CentsSums", spec := "centsSums", named := ["math/bits.divideError", "math/bits.overflowError"], apart := false, narrowed := true }
def CentsSumsUptoSaid : Prop := centsSumsUptoRow.holds Try.pinned (OpenSpec.upto centsSumsSpec)

/-- 'recouplaw05.CentsTimes', WHERE WHAT IT READS IS OF BULK AT MOST 1048576: true; the input reads as it did. -/
def centsTimesUptoRow : OpenClaim := { program := "yteaapfagajdomaa", sum := "45b05e309d898af2238abe819988f7de9335acbc36428c95d640b3e5e2ce0747", func := "recoup/recouplaw05.CentsTimes", spec := "centsTimes", named := ["math/bits.divideError", "math/bits.overflowError"], apart := false, narrowed := true }
def CentsTimesUptoSaid : Prop := centsTimesUptoRow.holds Try.pinned (OpenSpec.upto centsTimesSpec)

/-- 'recouplaw05.CentsParts', WHERE WHAT IT READS IS OF BULK AT MOST 1048576: true; the input reads as it did. -/
def centsPartsUptoRow : OpenClaim := { program := "yteaapfagajdomaa", sum := "45b05e309d898af2238abe819988f7de9335acbc36428c95d640b3e5e2ce0747", func := "recoup/recouplaw05.CentsParts", spec := "centsParts", named := ["math/bits.divideError", "math/bits.overflowError"], apart := false, narrowed := true }
def CentsPartsUptoSaid : Prop := centsPartsUptoRow.holds Try.pinned (OpenSpec.upto centsPartsSpec)

/-- 'recouplaw05.CentsAll', WHERE WHAT IT READS IS OF BULK AT MOST 1048576: true; the input reads as it did. -/
def centsAllUptoRow : OpenClaim := { program := "yteaapfagajdomaa", sum := "45b05e309d898af2238abe819988f7de9335acbc36428c95d640b3e5e2ce0747", func := "recoup/recouplaw05.CentsAll", spec := "centsAll", named := ["math/bits.divideError", "math/bits.overflowError"], apart := false, narrowed := true }
def CentsAllUptoSaid : Prop := centsAllUptoRow.holds Try.pinned (OpenSpec.upto centsAllSpec)

end Rows
end Go.Proofs.Yteaapfagajdomaa
