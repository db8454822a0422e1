/-
  No cell of these rows narrows 'for every input' (looked for: loops, veiled, ifaces, maps, wideKeys, modest, calm, conditions, laid).
  DERIVED. THE GIVEN ROWS OF THIS SEAT. 4 by the template 'for every input the law returns true; each argument reads behind the call as it read before'; 0 by the template 'total and deterministic' (their statements: YtjlgjdmnjjfhnaaTotals.lean).
  GIVEN WITH THE SEED: the statements are not yours to turn. If you find one false, say at which input.
  Laid BY PROGRAM, IN A SANDBOX (cutbox-rows.mjs): the forced cells as the released guide's own fill.sh prints them over the translation 9995bad07add1ee2… (all of the seat's roots in one cut). By AI agents, Wed Nov 11 2026. No macro, syntax, notation, axiom, sorry.
-/
import Derived.Test.YtjlgjdmnjjfhnaaChecked
import GoSem.Claim
import GoSem.ClaimJoined
import GoSem.ClaimMapViews
import Derived.JoinedTies
import Derived.KernelRfl
namespace Go.Proofs.Ytjlgjdmnjjfhnaa
/- THE CELL 'sum', in the pinned program and in every row, IS THE sha256 OF THE DUMP (.gsa) THAT YtjlgjdmnjjfhnaaProg.lean LOADS. Nothing in Lean hashes anything: it is a label: what it is worth is what the hold of that sum in a sandbox is worth. -/
noncomputable def Try.pinned : Pinned := { name := "ytjlgjdmnjjfhnaa", sum := "9995bad07add1ee26bae7623943988c5d0df974c94948f30731dae6d82fcba09", checked := Try.checked }
namespace Rows
def none {H : Type} : Left H := { results := [], args := [] }

/-- 'recouplaw09.RuleMay': WHATEVER THE INPUT: true; the input reads as it did. -/
def ruleMaySpec : ChangeSpec := { name := "ruleMay", fn := fun _ => fun
  | [d1, d2, d3] => { results := [.lit (.bool true)], args := [d1, d2, d3] }
  | _ => none }
def ruleMayRow : OpenClaim := { program := "ytjlgjdmnjjfhnaa", sum := "9995bad07add1ee26bae7623943988c5d0df974c94948f30731dae6d82fcba09", func := "recoup/recouplaw09.RuleMay", spec := "ruleMay", unfollowed := true, recurses := true, apart := false }
def RuleMaySaid : Prop := ruleMayRow.holds Try.pinned (OpenSpec.ofChange ruleMaySpec)

/-- ITS FALSE NEIGHBOUR: 'it returns false'. Refute it at one input. -/
def ruleMayWrong : ChangeSpec := { name := "ruleMay", fn := fun _ => fun
  | [d1, d2, d3] => { results := [.lit (.bool false)], args := [d1, d2, d3] }
  | _ => none }
def RuleMayWrongFalsely : Prop := ruleMayRow.holds Try.pinned (OpenSpec.ofChange ruleMayWrong)

/-- 'recouplaw09.RuleWorth': WHATEVER THE INPUT: true; the input reads as it did. -/
def ruleWorthSpec : ChangeSpec := { name := "ruleWorth", fn := fun _ => fun
  | [d1, d2, d3, d4] => { results := [.lit (.bool true)], args := [d1, d2, d3, d4] }
  | _ => none }
def ruleWorthRow : OpenClaim := { program := "ytjlgjdmnjjfhnaa", sum := "9995bad07add1ee26bae7623943988c5d0df974c94948f30731dae6d82fcba09", func := "recoup/recouplaw09.RuleWorth", spec := "ruleWorth", unfollowed := true, recurses := true, named := ["math/bits.divideError", "math/bits.overflowError"], apart := false }
def RuleWorthSaid : Prop := ruleWorthRow.holds Try.pinned (OpenSpec.ofChange ruleWorthSpec)

/-- ITS FALSE NEIGHBOUR: 'it returns false'. Refute it at one input. -/
def ruleWorthWrong : ChangeSpec := { name := "ruleWorth", fn := fun _ => fun
  | [d1, d2, d3, d4] => { results := [.lit (.bool false)], args := [d1, d2, d3, d4] }
  | _ => none }
def RuleWorthWrongFalsely : Prop := ruleWorthRow.holds Try.pinned (OpenSpec.ofChange ruleWorthWrong)

/-- 'recouplaw09.RuleBounds': WHATEVER THE INPUT: true; the input reads as it did. -/
def ruleBoundsSpec : ChangeSpec := { name := "ruleBounds", fn := fun _ => fun
  | [d1, d2, d3, d4, d5] => { results := [.lit (.bool true)], args := [d1, d2, d3, d4, d5] }
  | _ => none }
def ruleBoundsRow : OpenClaim := { program := "ytjlgjdmnjjfhnaa", sum := "9995bad07add1ee26bae7623943988c5d0df974c94948f30731dae6d82fcba09", func := "recoup/recouplaw09.RuleBounds", spec := "ruleBounds", unfollowed := true, recurses := true, named := ["math/bits.divideError", "math/bits.overflowError"], apart := false }
def RuleBoundsSaid : Prop := ruleBoundsRow.holds Try.pinned (OpenSpec.ofChange ruleBoundsSpec)

/-- ITS FALSE NEIGHBOUR: 'it returns false'. Refute it at one input. -/
def ruleBoundsWrong : ChangeSpec := { name := "ruleBounds", fn := fun _ => fun
  | [d1, d2, d3, d4, d5] => { results := [.lit (.bool false)], args := [d1, d2, d3, d4, d5] }
  | _ => none }
def RuleBoundsWrongFalsely : Prop := ruleBoundsRow.holds Try.pinned (OpenSpec.ofChange ruleBoundsWrong)

/-- 'recouplaw09.RuleBack': WHATEVER THE INPUT: true; the input reads as it did. -/
def ruleBackSpec : ChangeSpec := { name := "ruleBack", fn := fun _ => fun
  | [d1, d2, d3, d4] => { results := [.lit (.bool true)], args := [d1, d2, d3, d4] }
  | _ => none }
def ruleBackRow : OpenClaim := { program := "ytjlgjdmnjjfhnaa", sum := "9995bad07add1ee26bae7623943988c5d0df974c94948f30731dae6d82fcba09", func := "recoup/recouplaw09.RuleBack", spec := "ruleBack", unfollowed := true, recurses := true, named := ["math/bits.divideError", "math/bits.overflowError"], apart := false }
def RuleBackSaid : Prop := ruleBackRow.holds Try.pinned (OpenSpec.ofChange ruleBackSpec)

/-- ITS FALSE NEIGHBOUR: 'it returns false'. Refute it at one input. -/
def ruleBackWrong : ChangeSpec := { name := "ruleBack", fn := fun _ => fun
  | [d1, d2, d3, d4] => { results := [.lit (.bool false)], args := [d1, d2, d3, d4] }
  | _ => none }
def RuleBackWrongFalsely : Prop := ruleBackRow.holds Try.pinned (OpenSpec.ofChange ruleBackWrong)

/- THE SECOND FORM. 'bulk': how many values and letters a reading holds, each counted each time it is reached (what is shared counts as often as it is met; a slice's spare places count too). A statement '..UptoSaid' is the law's where the arguments, and the package variables that the reading takes, are together of bulk at most 1048576: NARROWER than '..Said'. Prove '..Said' where nothing that the law and all that it calls make is longer than what came in: it says more and counts as full. Else prove '..UptoSaid'. A law counts once. -/
mutual
def uptoBulk {H : Type} : DataW H → Nat
  | .lit (.string bytes) => bytes.length + 1
  | .lit _ => 1
  | .nil => 1
  | .ptr d => uptoBulk d + 1
  | .slice elems spare => uptoBulkAll elems + uptoBulkAll spare + 1
  | .agg parts => uptoBulkAll parts + 1
  | .iface _ d => uptoBulk d + 1
  | .map entries => uptoBulkEntries entries + 1
  | .held _ => 1
def uptoBulkAll {H : Type} : List (DataW H) → Nat
  | [] => 0
  | d :: r => uptoBulk d + uptoBulkAll r
def uptoBulkEntries {H : Type} : List (Lit × DataW H) → Nat
  | [] => 0
  | x :: r => uptoBulkEntry x + uptoBulkEntries r
def uptoBulkEntry {H : Type} : Lit × DataW H → Nat
  | (.string bytes, d) => bytes.length + uptoBulk d + 1
  | (_, d) => uptoBulk d + 1
 end
def uptoSmall : (H : Type) → List (DataW H) → Bool := fun _ ds => decide (uptoBulkAll ds ≤ 1048576)
def OpenSpec.upto (s : _root_.Go.ChangeSpec) : _root_.Go.OpenSpec := { _root_.Go.OpenSpec.ofChange s with cond := some uptoSmall }

/-- 'recouplaw09.RuleMay', WHERE WHAT IT READS IS OF BULK AT MOST 1048576: true; the input reads as it did. -/
def ruleMayUptoRow : OpenClaim := { program := "ytjlgjdmnjjfhnaa", sum := "9995bad07add1ee26bae7623943988c5d0df974c94948f30731dae6d82fcba09", func := "recoup/recouplaw09.RuleMay", spec := "ruleMay", unfollowed := true, recurses := true, apart := false, narrowed := true }
def RuleMayUptoSaid : Prop := ruleMayUptoRow.holds Try.pinned (OpenSpec.upto ruleMaySpec)

/-- 'recouplaw09.RuleWorth', WHERE WHAT IT READS IS OF BULK AT MOST 1048576: true; the input reads as it did. -/
def ruleWorthUptoRow : OpenClaim := { program := "ytjlgjdmnjjfhnaa", sum := "9995bad07add1ee26bae7623943988c5d0df974c94948f30731dae6d82fcba09", func := "recoup/recouplaw09.RuleWorth", spec := "ruleWorth", unfollowed := true, recurses := true, named := ["math/bits.divideError", "math/bits.overflowError"], apart := false, narrowed := true }
def RuleWorthUptoSaid : Prop := ruleWorthUptoRow.holds Try.pinned (OpenSpec.upto ruleWorthSpec)

/-- 'recouplaw09.RuleBounds', WHERE WHAT IT READS IS OF BULK AT MOST 1048576: true; the input reads as it did. -/
def ruleBoundsUptoRow : OpenClaim := { program := "ytjlgjdmnjjfhnaa", sum := "9995bad07add1ee26bae7623943988c5d0df974c94948f30731dae6d82fcba09", func := "recoup/recouplaw09.RuleBounds", spec := "ruleBounds", unfollowed := true, recurses := true, named := ["math/bits.divideError", "math/bits.overflowError"], apart := false, narrowed := true }
def RuleBoundsUptoSaid : Prop := ruleBoundsUptoRow.holds Try.pinned (OpenSpec.upto ruleBoundsSpec)

/-- 'recouplaw09.RuleBack', WHERE WHAT IT READS IS OF BULK AT MOST 1048576: true; the input reads as it did. -/
def ruleBackUptoRow : OpenClaim := { program := "ytjlgjdmnjjfhnaa", sum := "9995bad07add1ee26bae7623943988c5d0df974c94948f30731dae6d82fcba09", func := "recoup/recouplaw09.RuleBack", spec := "ruleBack", unfollowed := true, recurses := true, named := ["math/bits.divideError", "math/bits.overflowError"], apart := false, narrowed := true }
def RuleBackUptoSaid : Prop := ruleBackUptoRow.holds Try.pinned (OpenSpec.upto ruleBackSpec)

end Rows
end Go.Proofs.Ytjlgjdmnjjfhnaa
