/-
  NARROWER THAN 'FOR EVERY INPUT', by the rows' own cells (each row's printed sentence says how): RmaNext: laid · RmaEnds: laid · RmaGrades: laid · RmaBack: laid · RmaReads: laid · RmaEqual: laid.
  DERIVED. THE GIVEN ROWS OF THIS SEAT. 6 by the template 'for every input the law returns true; each argument reads behind the call as it read before'; 0 by the template 'total and deterministic' (their statements: YtkjkamcjbhhefaaDoorTotals.lean).
  GIVEN WITH THE SEED: the statements are not yours to turn. If you find one false, say at which input.
  Laid BY PROGRAM, IN A SANDBOX (cutbox-rows.mjs): the forced cells as the released guide's own fill.sh prints them over the translation a654270799f7b73a… (all of the seat's roots in one cut). By AI agents, Wed Nov 11 2026. No macro, syntax, notation, axiom, sorry.
-/
import Derived.Test.YtkjkamcjbhhefaaDoorChecked
import GoSem.Claim
import GoSem.ClaimJoined
import GoSem.ClaimMapViews
import Derived.JoinedTies
import Derived.KernelRfl
namespace Go.Proofs.YtkjkamcjbhhefaaDoor
/- THE CELL 'sum', in the pinned program and in every row, IS THE sha256 OF THE DUMP (.gsa) THAT YtkjkamcjbhhefaaDoorProg.lean LOADS. Nothing in Lean hashes anything: it is a label: what it is worth is what the hold of that sum in a sandbox is worth. -/
noncomputable def Tryd.pinned : Pinned := { name := "ytkjkamcjbhhefaadoor", sum := "a654270799f7b73a7f97d92f2d1129a20198d5cf8564073ca4891f4437aa4b40", checked := Tryd.checked }
namespace Rows
def none {H : Type} : Left H := { results := [], args := [] }

/- WHAT THE LISTED PACKAGE-LEVEL VARIABLES READ AS WHEN THE CALL BEGINS. Each datum BY PROGRAM (the guide's laid-datum.mjs) off the statement by which the dump's own 'gosem.cut.vars' lays the variable. In a bare row this is a premise. The card (YtkjkamcjbhhefaaDoorCards.lean) ties it to the program's text. -/
def laid_recoup_rma_steps {H : Type} : DataW H := .agg [.agg [.lit (.int .i64 1), .lit (.int .i64 1), .lit (.int .i64 2)], .agg [.lit (.int .i64 2), .lit (.int .i64 2), .lit (.int .i64 3)], .agg [.lit (.int .i64 3), .lit (.int .i64 3), .lit (.int .i64 4)], .agg [.lit (.int .i64 4), .lit (.int .i64 4), .lit (.int .i64 5)], .agg [.lit (.int .i64 5), .lit (.int .i64 3), .lit (.int .i64 5)], .agg [.lit (.int .i64 6), .lit (.int .i64 5), .lit (.int .i64 6)], .agg [.lit (.int .i64 7), .lit (.int .i64 1), .lit (.int .i64 7)], .agg [.lit (.int .i64 7), .lit (.int .i64 2), .lit (.int .i64 7)], .agg [.lit (.int .i64 8), .lit (.int .i64 1), .lit (.int .i64 8)], .agg [.lit (.int .i64 8), .lit (.int .i64 2), .lit (.int .i64 8)], .agg [.lit (.int .i64 9), .lit (.int .i64 1), .lit (.int .i64 9)], .agg [.lit (.int .i64 9), .lit (.int .i64 2), .lit (.int .i64 9)]]

/-- 'recouplaw14.RmaNext': WHATEVER THE INPUT: true; the input reads as it did. -/
def rmaNextSpec : ChangeSpec := { name := "rmaNext", fn := fun _ => fun
  | [d1, d2] => { results := [.lit (.bool true)], args := [d1, d2] }
  | _ => none }
def rmaNextRow : OpenClaim := { program := "ytkjkamcjbhhefaadoor", sum := "a654270799f7b73a7f97d92f2d1129a20198d5cf8564073ca4891f4437aa4b40", func := "recoup/recouplaw14.RmaNext", spec := "rmaNext", named := ["recoup/rma.steps"], apart := false, laid := [("recoup/rma.steps", laid_recoup_rma_steps)] }
def RmaNextSaid : Prop := rmaNextRow.holds Tryd.pinned (OpenSpec.ofChange rmaNextSpec)

/-- ITS FALSE NEIGHBOUR: 'it returns false'. Refute it at one input. -/
def rmaNextWrong : ChangeSpec := { name := "rmaNext", fn := fun _ => fun
  | [d1, d2] => { results := [.lit (.bool false)], args := [d1, d2] }
  | _ => none }
def RmaNextWrongFalsely : Prop := rmaNextRow.holds Tryd.pinned (OpenSpec.ofChange rmaNextWrong)

/-- 'recouplaw14.RmaEnds': WHATEVER THE INPUT: true; the input reads as it did. -/
def rmaEndsSpec : ChangeSpec := { name := "rmaEnds", fn := fun _ => fun
  | [d] => { results := [.lit (.bool true)], args := [d] }
  | _ => none }
def rmaEndsRow : OpenClaim := { program := "ytkjkamcjbhhefaadoor", sum := "a654270799f7b73a7f97d92f2d1129a20198d5cf8564073ca4891f4437aa4b40", func := "recoup/recouplaw14.RmaEnds", spec := "rmaEnds", named := ["recoup/rma.steps"], apart := false, laid := [("recoup/rma.steps", laid_recoup_rma_steps)] }
def RmaEndsSaid : Prop := rmaEndsRow.holds Tryd.pinned (OpenSpec.ofChange rmaEndsSpec)

/-- ITS FALSE NEIGHBOUR: 'it returns false'. Refute it at one input. -/
def rmaEndsWrong : ChangeSpec := { name := "rmaEnds", fn := fun _ => fun
  | [d] => { results := [.lit (.bool false)], args := [d] }
  | _ => none }
def RmaEndsWrongFalsely : Prop := rmaEndsRow.holds Tryd.pinned (OpenSpec.ofChange rmaEndsWrong)

/-- 'recouplaw14.RmaGrades': WHATEVER THE INPUT: true; the input reads as it did. -/
def rmaGradesSpec : ChangeSpec := { name := "rmaGrades", fn := fun _ => fun
  | [d1, d2, d3] => { results := [.lit (.bool true)], args := [d1, d2, d3] }
  | _ => none }
def rmaGradesRow : OpenClaim := { program := "ytkjkamcjbhhefaadoor", sum := "a654270799f7b73a7f97d92f2d1129a20198d5cf8564073ca4891f4437aa4b40", func := "recoup/recouplaw14.RmaGrades", spec := "rmaGrades", named := ["recoup/rma.steps"], apart := false, laid := [("recoup/rma.steps", laid_recoup_rma_steps)] }
def RmaGradesSaid : Prop := rmaGradesRow.holds Tryd.pinned (OpenSpec.ofChange rmaGradesSpec)

/-- ITS FALSE NEIGHBOUR: 'it returns false'. Refute it at one input. -/
def rmaGradesWrong : ChangeSpec := { name := "rmaGrades", fn := fun _ => fun
  | [d1, d2, d3] => { results := [.lit (.bool false)], args := [d1, d2, d3] }
  | _ => none }
def RmaGradesWrongFalsely : Prop := rmaGradesRow.holds Tryd.pinned (OpenSpec.ofChange rmaGradesWrong)

/-- 'recouplaw14.RmaBack': WHATEVER THE INPUT: true; the input reads as it did. -/
def rmaBackSpec : ChangeSpec := { name := "rmaBack", fn := fun _ => fun
  | [d] => { results := [.lit (.bool true)], args := [d] }
  | _ => none }
def rmaBackRow : OpenClaim := { program := "ytkjkamcjbhhefaadoor", sum := "a654270799f7b73a7f97d92f2d1129a20198d5cf8564073ca4891f4437aa4b40", func := "recoup/recouplaw14.RmaBack", spec := "rmaBack", named := ["recoup/rma.steps"], apart := false, laid := [("recoup/rma.steps", laid_recoup_rma_steps)] }
def RmaBackSaid : Prop := rmaBackRow.holds Tryd.pinned (OpenSpec.ofChange rmaBackSpec)

/-- ITS FALSE NEIGHBOUR: 'it returns false'. Refute it at one input. -/
def rmaBackWrong : ChangeSpec := { name := "rmaBack", fn := fun _ => fun
  | [d] => { results := [.lit (.bool false)], args := [d] }
  | _ => none }
def RmaBackWrongFalsely : Prop := rmaBackRow.holds Tryd.pinned (OpenSpec.ofChange rmaBackWrong)

/-- 'recouplaw14.RmaReads': WHATEVER THE INPUT: true; the input reads as it did. -/
def rmaReadsSpec : ChangeSpec := { name := "rmaReads", fn := fun _ => fun
  | [d] => { results := [.lit (.bool true)], args := [d] }
  | _ => none }
def rmaReadsRow : OpenClaim := { program := "ytkjkamcjbhhefaadoor", sum := "a654270799f7b73a7f97d92f2d1129a20198d5cf8564073ca4891f4437aa4b40", func := "recoup/recouplaw14.RmaReads", spec := "rmaReads", named := ["recoup/rma.steps"], apart := false, laid := [("recoup/rma.steps", laid_recoup_rma_steps)] }
def RmaReadsSaid : Prop := rmaReadsRow.holds Tryd.pinned (OpenSpec.ofChange rmaReadsSpec)

/-- ITS FALSE NEIGHBOUR: 'it returns false'. Refute it at one input. -/
def rmaReadsWrong : ChangeSpec := { name := "rmaReads", fn := fun _ => fun
  | [d] => { results := [.lit (.bool false)], args := [d] }
  | _ => none }
def RmaReadsWrongFalsely : Prop := rmaReadsRow.holds Tryd.pinned (OpenSpec.ofChange rmaReadsWrong)

/-- 'recouplaw14.RmaEqual': WHATEVER THE INPUT: true; the input reads as it did. -/
def rmaEqualSpec : ChangeSpec := { name := "rmaEqual", fn := fun _ => fun
  | [d1, d2] => { results := [.lit (.bool true)], args := [d1, d2] }
  | _ => none }
def rmaEqualRow : OpenClaim := { program := "ytkjkamcjbhhefaadoor", sum := "a654270799f7b73a7f97d92f2d1129a20198d5cf8564073ca4891f4437aa4b40", func := "recoup/recouplaw14.RmaEqual", spec := "rmaEqual", named := ["recoup/rma.steps"], apart := false, laid := [("recoup/rma.steps", laid_recoup_rma_steps)] }
def RmaEqualSaid : Prop := rmaEqualRow.holds Tryd.pinned (OpenSpec.ofChange rmaEqualSpec)

/-- ITS FALSE NEIGHBOUR: 'it returns false'. Refute it at one input. -/
def rmaEqualWrong : ChangeSpec := { name := "rmaEqual", fn := fun _ => fun
  | [d1, d2] => { results := [.lit (.bool false)], args := [d1, d2] }
  | _ => none }
def RmaEqualWrongFalsely : Prop := rmaEqualRow.holds Tryd.pinned (OpenSpec.ofChange rmaEqualWrong)

/- THE SECOND FORM. 'bulk': how many values and letters a reading holds, each counted each time it is reached (what is shared counts as often as it is met; a slice's spare places count too). A statement '..UptoSaid' is the law's where the arguments, and the package variables that the reading takes, are together of bulk at most 1048576: NARROWER than '..Said'. Prove '..Said' where nothing that the law and all that it calls make is longer than what came in: it says more and counts as full. Else prove '..UptoSaid'. A law counts once. -/
mutual
def uptoBulk {H : Type} : DataW H → Nat
  | .lit (.string bytes) => bytes.length + 1
  | .lit _ => 1
  | .nil => 1
  | .ptr d => uptoBulk d + 1
  | .slice elems spare => uptoBulkAll elems + uptoBulkAll spare + 1
  | .agg parts => uptoBulkAll parts + 1
  | .iface _ d => uptoBulk d + 1
  | .map entries => uptoBulkEntries entries + 1
  | .held _ => 1
def uptoBulkAll {H : Type} : List (DataW H) → Nat
  | [] => 0
  | d :: r => uptoBulk d + uptoBulkAll r
def uptoBulkEntries {H : Type} : List (Lit × DataW H) → Nat
  | [] => 0
  | x :: r => uptoBulkEntry x + uptoBulkEntries r
def uptoBulkEntry {H : Type} : Lit × DataW H → Nat
  | (.string bytes, d) => bytes.length + uptoBulk d + 1
  | (_, d) => uptoBulk d + 1
 end
def uptoSmall : (H : Type) → List (DataW H) → Bool := fun _ ds => decide (uptoBulkAll ds ≤ 1048576)
def OpenSpec.upto (s : _root_.Go.ChangeSpec) : _root_.Go.OpenSpec := { _root_.Go.OpenSpec.ofChange s with cond := some uptoSmall }

/-- 'recouplaw14.RmaNext', WHERE WHAT IT READS IS OF BULK AT MOST 1048576: true; the input reads as it did. -/
def rmaNextUptoRow : OpenClaim := { program := "ytkjkamcjbhhefaadoor", sum := "a654270799f7b73a7f97d92f2d1129a20198d5cf8564073ca4891f4437aa4b40", func := "recoup/recouplaw14.RmaNext", spec := "rmaNext", named := ["recoup/rma.steps"], apart := false, laid := [("recoup/rma.steps", laid_recoup_rma_steps)], narrowed := true }
def RmaNextUptoSaid : Prop := rmaNextUptoRow.holds Tryd.pinned (OpenSpec.upto rmaNextSpec)

/-- 'recouplaw14.RmaEnds', WHERE WHAT IT READS IS OF BULK AT MOST 1048576: true; the input reads as it did. -/
def rmaEndsUptoRow : OpenClaim := { program := "ytkjkamcjbhhefaadoor", sum := "a654270799f7b73a7f97d92f2d1129a20198d5cf8564073ca4891f4437aa4b40", func := "recoup/recouplaw14.RmaEnds", spec := "rmaEnds", named := ["recoup/rma.steps"], apart := false, laid := [("recoup/rma.steps", laid_recoup_rma_steps)], narrowed := true }
def RmaEndsUptoSaid : Prop := rmaEndsUptoRow.holds Tryd.pinned (OpenSpec.upto rmaEndsSpec)

/-- 'recouplaw14.RmaGrades', WHERE WHAT IT READS IS OF BULK AT MOST 1048576: true; the input reads as it did. -/
def rmaGradesUptoRow : OpenClaim := { program := "ytkjkamcjbhhefaadoor", sum := "a654270799f7b73a7f97d92f2d1129a20198d5cf8564073ca4891f4437aa4b40", func := "recoup/recouplaw14.RmaGrades", spec := "rmaGrades", named := ["recoup/rma.steps"], apart := false, laid := [("recoup/rma.steps", laid_recoup_rma_steps)], narrowed := true }
def RmaGradesUptoSaid : Prop := rmaGradesUptoRow.holds Tryd.pinned (OpenSpec.upto rmaGradesSpec)

/-- 'recouplaw14.RmaBack', WHERE WHAT IT READS IS OF BULK AT MOST 1048576: true; the input reads as it did. -/
def rmaBackUptoRow : OpenClaim := { program := "ytkjkamcjbhhefaadoor", sum := "a654270799f7b73a7f97d92f2d1129a20198d5cf8564073ca4891f4437aa4b40", func := "recoup/recouplaw14.RmaBack", spec := "rmaBack", named := ["recoup/rma.steps"], apart := false, laid := [("recoup/rma.steps", laid_recoup_rma_steps)], narrowed := true }
def RmaBackUptoSaid : Prop := rmaBackUptoRow.holds Tryd.pinned (OpenSpec.upto rmaBackSpec)

/-- 'recouplaw14.RmaReads', WHERE WHAT IT READS IS OF BULK AT MOST 1048576: true; the input reads as it did. -/
def rmaReadsUptoRow : OpenClaim := { program := "ytkjkamcjbhhefaadoor", sum := "a654270799f7b73a7f97d92f2d1129a20198d5cf8564073ca4891f4437aa4b40", func := "recoup/recouplaw14.RmaReads", spec := "rmaReads", named := ["recoup/rma.steps"], apart := false, laid := [("recoup/rma.steps", laid_recoup_rma_steps)], narrowed := true }
def RmaReadsUptoSaid : Prop := rmaReadsUptoRow.holds Tryd.pinned (OpenSpec.upto rmaReadsSpec)

/-- 'recouplaw14.RmaEqual', WHERE WHAT IT READS IS OF BULK AT MOST 1048576: true; the input reads as it did. -/
def rmaEqualUptoRow : OpenClaim := { program := "ytkjkamcjbhhefaadoor", sum := "a654270799f7b73a7f97d92f2d1129a20198d5cf8564073ca4891f4437aa4b40", func := "recoup/recouplaw14.RmaEqual", spec := "rmaEqual", named := ["recoup/rma.steps"], apart := false, laid := [("recoup/rma.steps", laid_recoup_rma_steps)], narrowed := true }
def RmaEqualUptoSaid : Prop := rmaEqualUptoRow.holds Tryd.pinned (OpenSpec.upto rmaEqualSpec)

end Rows
end Go.Proofs.YtkjkamcjbhhefaaDoor
