/-
  DERIVED. GIVEN WITH THE SEED: THE CARDS: each row of YtkjkamcjbhhefaaDoorRows.lean that lists a variable, with what it lists TIED to the program's text (the seventh form; the later family's looks); each row that meets fmt, with fmt's text TOLD by the authors' own Lean function (tested against real Go, not proved from fmt's source: count such statements apart). THE CARD IS WHAT COUNTS. Prove the row's statement (the work); the ties are given (YtkjkamcjbhhefaaDoorTie.lean); close each card by the builder's one call (the guide's Derived/Test/ToyasCard.lean, 'card_holds'). Laid BY PROGRAM, IN A SANDBOX (cutbox-door.mjs). By AI agents, Wed Nov 11 2026. No macro, syntax, notation, axiom, sorry.
-/
import Derived.Test.YtkjkamcjbhhefaaDoorRows
import GoSem.ClaimSeven
namespace Go.Proofs.YtkjkamcjbhhefaaDoor
namespace Rows

/-- THE TIED CARD OF 'recouplaw14.RmaNext'. -/
def rmaNextCard : Claim7 := { stood := { row := rmaNextRow, standIns := [], harness := (true, "2843289d467df3eae111bfdeeb3f37e282aaf7182ed31684dab7aab5855c0da4"), looks := false }, kinds := [], alts := [], laidByText := true, laidKinds := [.data], laidTests := true, laidLooks := .later }
def RmaNextCardSaid : Prop := Claim7.holds Tryd.pinned (.plain (OpenSpec.ofChange rmaNextSpec)) rmaNextCard

/-- THE TIED CARD OF 'recouplaw14.RmaEnds'. -/
def rmaEndsCard : Claim7 := { stood := { row := rmaEndsRow, standIns := [], harness := (true, "2843289d467df3eae111bfdeeb3f37e282aaf7182ed31684dab7aab5855c0da4"), looks := false }, kinds := [], alts := [], laidByText := true, laidKinds := [.data], laidTests := true, laidLooks := .later }
def RmaEndsCardSaid : Prop := Claim7.holds Tryd.pinned (.plain (OpenSpec.ofChange rmaEndsSpec)) rmaEndsCard

/-- THE TIED CARD OF 'recouplaw14.RmaGrades'. -/
def rmaGradesCard : Claim7 := { stood := { row := rmaGradesRow, standIns := [], harness := (true, "2843289d467df3eae111bfdeeb3f37e282aaf7182ed31684dab7aab5855c0da4"), looks := false }, kinds := [], alts := [], laidByText := true, laidKinds := [.data], laidTests := true, laidLooks := .later }
def RmaGradesCardSaid : Prop := Claim7.holds Tryd.pinned (.plain (OpenSpec.ofChange rmaGradesSpec)) rmaGradesCard

/-- THE TIED CARD OF 'recouplaw14.RmaBack'. -/
def rmaBackCard : Claim7 := { stood := { row := rmaBackRow, standIns := [], harness := (true, "2843289d467df3eae111bfdeeb3f37e282aaf7182ed31684dab7aab5855c0da4"), looks := false }, kinds := [], alts := [], laidByText := true, laidKinds := [.data], laidTests := true, laidLooks := .later }
def RmaBackCardSaid : Prop := Claim7.holds Tryd.pinned (.plain (OpenSpec.ofChange rmaBackSpec)) rmaBackCard

/-- THE TIED CARD OF 'recouplaw14.RmaReads'. -/
def rmaReadsCard : Claim7 := { stood := { row := rmaReadsRow, standIns := [], harness := (true, "2843289d467df3eae111bfdeeb3f37e282aaf7182ed31684dab7aab5855c0da4"), looks := false }, kinds := [], alts := [], laidByText := true, laidKinds := [.data], laidTests := true, laidLooks := .later }
def RmaReadsCardSaid : Prop := Claim7.holds Tryd.pinned (.plain (OpenSpec.ofChange rmaReadsSpec)) rmaReadsCard

/-- THE TIED CARD OF 'recouplaw14.RmaEqual'. -/
def rmaEqualCard : Claim7 := { stood := { row := rmaEqualRow, standIns := [], harness := (true, "2843289d467df3eae111bfdeeb3f37e282aaf7182ed31684dab7aab5855c0da4"), looks := false }, kinds := [], alts := [], laidByText := true, laidKinds := [.data], laidTests := true, laidLooks := .later }
def RmaEqualCardSaid : Prop := Claim7.holds Tryd.pinned (.plain (OpenSpec.ofChange rmaEqualSpec)) rmaEqualCard

/-- THE SECOND FORM's CARD OF 'recouplaw14.RmaNext'. -/
def rmaNextUptoCard : Claim7 := { stood := { row := rmaNextUptoRow, standIns := [], harness := (true, "2843289d467df3eae111bfdeeb3f37e282aaf7182ed31684dab7aab5855c0da4"), looks := false }, kinds := [], alts := [], laidByText := true, laidKinds := [.data], laidTests := true, laidLooks := .later }
def RmaNextUptoCardSaid : Prop := Claim7.holds Tryd.pinned (.plain (OpenSpec.upto rmaNextSpec)) rmaNextUptoCard

/-- THE SECOND FORM's CARD OF 'recouplaw14.RmaEnds'. -/
def rmaEndsUptoCard : Claim7 := { stood := { row := rmaEndsUptoRow, standIns := [], harness := (true, "2843289d467df3eae111bfdeeb3f37e282aaf7182ed31684dab7aab5855c0da4"), looks := false }, kinds := [], alts := [], laidByText := true, laidKinds := [.data], laidTests := true, laidLooks := .later }
def RmaEndsUptoCardSaid : Prop := Claim7.holds Tryd.pinned (.plain (OpenSpec.upto rmaEndsSpec)) rmaEndsUptoCard

/-- THE SECOND FORM's CARD OF 'recouplaw14.RmaGrades'. -/
def rmaGradesUptoCard : Claim7 := { stood := { row := rmaGradesUptoRow, standIns := [], harness := (true, "2843289d467df3eae111bfdeeb3f37e282aaf7182ed31684dab7aab5855c0da4"), looks := false }, kinds := [], alts := [], laidByText := true, laidKinds := [.data], laidTests := true, laidLooks := .later }
def RmaGradesUptoCardSaid : Prop := Claim7.holds Tryd.pinned (.plain (OpenSpec.upto rmaGradesSpec)) rmaGradesUptoCard

/-- THE SECOND FORM's CARD OF 'recouplaw14.RmaBack'. -/
def rmaBackUptoCard : Claim7 := { stood := { row := rmaBackUptoRow, standIns := [], harness := (true, "2843289d467df3eae111bfdeeb3f37e282aaf7182ed31684dab7aab5855c0da4"), looks := false }, kinds := [], alts := [], laidByText := true, laidKinds := [.data], laidTests := true, laidLooks := .later }
def RmaBackUptoCardSaid : Prop := Claim7.holds Tryd.pinned (.plain (OpenSpec.upto rmaBackSpec)) rmaBackUptoCard

/-- THE SECOND FORM's CARD OF 'recouplaw14.RmaReads'. -/
def rmaReadsUptoCard : Claim7 := { stood := { row := rmaReadsUptoRow, standIns := [], harness := (true, "2843289d467df3eae111bfdeeb3f37e282aaf7182ed31684dab7aab5855c0da4"), looks := false }, kinds := [], alts := [], laidByText := true, laidKinds := [.data], laidTests := true, laidLooks := .later }
def RmaReadsUptoCardSaid : Prop := Claim7.holds Tryd.pinned (.plain (OpenSpec.upto rmaReadsSpec)) rmaReadsUptoCard

/-- THE SECOND FORM's CARD OF 'recouplaw14.RmaEqual'. -/
def rmaEqualUptoCard : Claim7 := { stood := { row := rmaEqualUptoRow, standIns := [], harness := (true, "2843289d467df3eae111bfdeeb3f37e282aaf7182ed31684dab7aab5855c0da4"), looks := false }, kinds := [], alts := [], laidByText := true, laidKinds := [.data], laidTests := true, laidLooks := .later }
def RmaEqualUptoCardSaid : Prop := Claim7.holds Tryd.pinned (.plain (OpenSpec.upto rmaEqualSpec)) rmaEqualUptoCard
end Rows
end Go.Proofs.YtkjkamcjbhhefaaDoor
