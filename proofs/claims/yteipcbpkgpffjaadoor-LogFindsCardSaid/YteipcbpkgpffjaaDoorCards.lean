/-
  DERIVED. GIVEN WITH THE SEED: THE CARDS: each row of YteipcbpkgpffjaaDoorRows.lean that lists a variable, with what it lists TIED to the program's text (the seventh form; the later family's looks); each row that meets fmt, with fmt's text TOLD by the authors' own Lean function (tested against real Go, not proved from fmt's source: count such statements apart). THE CARD IS WHAT COUNTS. Prove the row's statement (the work); the ties are given (YteipcbpkgpffjaaDoorTie.lean); close each card by the builder's one call (the guide's Derived/Test/ToyasCard.lean, 'card_holds'). Laid BY PROGRAM, IN A SANDBOX (cutbox-door.mjs). By AI agents, Wed Nov 11 2026. No macro, syntax, notation, axiom, sorry.
-/
import Derived.Test.YteipcbpkgpffjaaDoorRows
import GoSem.ClaimSeven
namespace Go.Proofs.YteipcbpkgpffjaaDoor
namespace Rows

/-- THE TIED CARD OF 'recouplaw04.LogStays'. -/
def logStaysCard : Claim7 := { stood := { row := logStaysRow, standIns := [], harness := (true, "6d5e30c1d150944bc73fc5d34079c484aed19f6b1c9720dc0878a12b880cf225"), looks := false }, kinds := [], alts := [], laidByText := true, laidKinds := [.data], laidTests := true, laidLooks := .later }
def LogStaysCardSaid : Prop := Claim7.holds Tryd.pinned (.plain (OpenSpec.ofChange logStaysSpec)) logStaysCard

/-- THE TIED CARD OF 'recouplaw04.LogFinds'. -/
def logFindsCard : Claim7 := { stood := { row := logFindsRow, standIns := [], harness := (true, "6d5e30c1d150944bc73fc5d34079c484aed19f6b1c9720dc0878a12b880cf225"), looks := false }, kinds := [], alts := [], laidByText := true, laidKinds := [.data], laidTests := true, laidLooks := .later }
def LogFindsCardSaid : Prop := Claim7.holds Tryd.pinned (.plain (OpenSpec.ofChange logFindsSpec)) logFindsCard

/-- THE TIED CARD OF 'recouplaw04.LogFull'. -/
def logFullCard : Claim7 := { stood := { row := logFullRow, standIns := [], harness := (true, "6d5e30c1d150944bc73fc5d34079c484aed19f6b1c9720dc0878a12b880cf225"), looks := false }, kinds := [], alts := [], laidByText := true, laidKinds := [.data], laidTests := true, laidLooks := .later }
def LogFullCardSaid : Prop := Claim7.holds Tryd.pinned (.plain (OpenSpec.ofChange logFullSpec)) logFullCard

/-- THE TIED CARD OF 'recouplaw04.LogTurns'. -/
def logTurnsCard : Claim7 := { stood := { row := logTurnsRow, standIns := [], harness := (true, "6d5e30c1d150944bc73fc5d34079c484aed19f6b1c9720dc0878a12b880cf225"), looks := false }, kinds := [], alts := [], laidByText := true, laidKinds := [.data], laidTests := true, laidLooks := .later }
def LogTurnsCardSaid : Prop := Claim7.holds Tryd.pinned (.plain (OpenSpec.ofChange logTurnsSpec)) logTurnsCard

/-- THE SECOND FORM's CARD OF 'recouplaw04.LogStays'. -/
def logStaysUptoCard : Claim7 := { stood := { row := logStaysUptoRow, standIns := [], harness := (true, "6d5e30c1d150944bc73fc5d34079c484aed19f6b1c9720dc0878a12b880cf225"), looks := false }, kinds := [], alts := [], laidByText := true, laidKinds := [.data], laidTests := true, laidLooks := .later }
def LogStaysUptoCardSaid : Prop := Claim7.holds Tryd.pinned (.plain (OpenSpec.upto logStaysSpec)) logStaysUptoCard

/-- THE SECOND FORM's CARD OF 'recouplaw04.LogFinds'. -/
def logFindsUptoCard : Claim7 := { stood := { row := logFindsUptoRow, standIns := [], harness := (true, "6d5e30c1d150944bc73fc5d34079c484aed19f6b1c9720dc0878a12b880cf225"), looks := false }, kinds := [], alts := [], laidByText := true, laidKinds := [.data], laidTests := true, laidLooks := .later }
def LogFindsUptoCardSaid : Prop := Claim7.holds Tryd.pinned (.plain (OpenSpec.upto logFindsSpec)) logFindsUptoCard

/-- THE SECOND FORM's CARD OF 'recouplaw04.LogFull'. -/
def logFullUptoCard : Claim7 := { stood := { row := logFullUptoRow, standIns := [], harness := (true, "6d5e30c1d150944bc73fc5d34079c484aed19f6b1c9720dc0878a12b880cf225"), looks := false }, kinds := [], alts := [], laidByText := true, laidKinds := [.data], laidTests := true, laidLooks := .later }
def LogFullUptoCardSaid : Prop := Claim7.holds Tryd.pinned (.plain (OpenSpec.upto logFullSpec)) logFullUptoCard

/-- THE SECOND FORM's CARD OF 'recouplaw04.LogTurns'. -/
def logTurnsUptoCard : Claim7 := { stood := { row := logTurnsUptoRow, standIns := [], harness := (true, "6d5e30c1d150944bc73fc5d34079c484aed19f6b1c9720dc0878a12b880cf225"), looks := false }, kinds := [], alts := [], laidByText := true, laidKinds := [.data], laidTests := true, laidLooks := .later }
def LogTurnsUptoCardSaid : Prop := Claim7.holds Tryd.pinned (.plain (OpenSpec.upto logTurnsSpec)) logTurnsUptoCard
end Rows
end Go.Proofs.YteipcbpkgpffjaaDoor
