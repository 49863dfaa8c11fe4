/-
  DERIVED. GIVEN WITH THE SEED: THE CARDS: each row of YtmafdoodgkhgeaaDoorRows.lean that lists a variable, with what it lists TIED to the program's text (the seventh form; the later family's looks); each row that meets fmt, with fmt's text TOLD by the authors' own Lean function (tested against real Go, not proved from fmt's source: count such statements apart). THE CARD IS WHAT COUNTS. Prove the row's statement (the work); the ties are given (YtmafdoodgkhgeaaDoorTie.lean); close each card by the builder's one call (the guide's Derived/Test/ToyasCard.lean, 'card_holds'). Laid BY PROGRAM, IN A SANDBOX (cutbox-door.mjs). By AI agents, Wed Nov 11 2026. No macro, syntax, notation, axiom, sorry.
-/
import Derived.Test.YtmafdoodgkhgeaaDoorRows
import GoSem.ClaimSeven
namespace Go.Proofs.YtmafdoodgkhgeaaDoor
namespace Rows

/-- THE TIED CARD OF 'sumpterlaw01.MarkSums'. -/
def markSumsCard : Claim7 := { stood := { row := markSumsRow, standIns := [], harness := (true, "a36602749a216f5b3fccdc5e44da619c002a43379f78b789973f3857bd046de9"), looks := false }, kinds := [], alts := [], laidByText := true, laidKinds := [.data], laidTests := true, laidLooks := .later }
def MarkSumsCardSaid : Prop := Claim7.holds Tryd.pinned (.plain (OpenSpec.ofChange markSumsSpec)) markSumsCard

/-- THE TIED CARD OF 'sumpterlaw01.MarkCloses'. -/
def markClosesCard : Claim7 := { stood := { row := markClosesRow, standIns := [], harness := (true, "a36602749a216f5b3fccdc5e44da619c002a43379f78b789973f3857bd046de9"), looks := false }, kinds := [], alts := [], laidByText := true, laidKinds := [.data], laidTests := true, laidLooks := .later }
def MarkClosesCardSaid : Prop := Claim7.holds Tryd.pinned (.plain (OpenSpec.ofChange markClosesSpec)) markClosesCard

/-- THE TIED CARD OF 'sumpterlaw01.MarkOpens'. -/
def markOpensCard : Claim7 := { stood := { row := markOpensRow, standIns := [], harness := (true, "a36602749a216f5b3fccdc5e44da619c002a43379f78b789973f3857bd046de9"), looks := false }, kinds := [], alts := [], laidByText := true, laidKinds := [.data], laidTests := true, laidLooks := .later }
def MarkOpensCardSaid : Prop := Claim7.holds Tryd.pinned (.plain (OpenSpec.ofChange markOpensSpec)) markOpensCard

/-- THE TIED CARD OF 'sumpterlaw01.MarkShows'. -/
def markShowsCard : Claim7 := { stood := { row := markShowsRow, standIns := [], harness := (true, "a36602749a216f5b3fccdc5e44da619c002a43379f78b789973f3857bd046de9"), looks := false }, kinds := [], alts := [], laidByText := true, laidKinds := [.data], laidTests := true, laidLooks := .later }
def MarkShowsCardSaid : Prop := Claim7.holds Tryd.pinned (.plain (OpenSpec.ofChange markShowsSpec)) markShowsCard

/-- THE TIED CARD OF 'sumpterlaw01.MarkParts'. -/
def markPartsCard : Claim7 := { stood := { row := markPartsRow, standIns := [], harness := (true, "a36602749a216f5b3fccdc5e44da619c002a43379f78b789973f3857bd046de9"), looks := false }, kinds := [], alts := [], laidByText := true, laidKinds := [.data], laidTests := true, laidLooks := .later }
def MarkPartsCardSaid : Prop := Claim7.holds Tryd.pinned (.plain (OpenSpec.ofChange markPartsSpec)) markPartsCard

/-- THE SECOND FORM's CARD OF 'sumpterlaw01.MarkSums'. -/
def markSumsUptoCard : Claim7 := { stood := { row := markSumsUptoRow, standIns := [], harness := (true, "a36602749a216f5b3fccdc5e44da619c002a43379f78b789973f3857bd046de9"), looks := false }, kinds := [], alts := [], laidByText := true, laidKinds := [.data], laidTests := true, laidLooks := .later }
def MarkSumsUptoCardSaid : Prop := Claim7.holds Tryd.pinned (.plain (OpenSpec.upto markSumsSpec)) markSumsUptoCard

/-- THE SECOND FORM's CARD OF 'sumpterlaw01.MarkCloses'. -/
def markClosesUptoCard : Claim7 := { stood := { row := markClosesUptoRow, standIns := [], harness := (true, "a36602749a216f5b3fccdc5e44da619c002a43379f78b789973f3857bd046de9"), looks := false }, kinds := [], alts := [], laidByText := true, laidKinds := [.data], laidTests := true, laidLooks := .later }
def MarkClosesUptoCardSaid : Prop := Claim7.holds Tryd.pinned (.plain (OpenSpec.upto markClosesSpec)) markClosesUptoCard

/-- THE SECOND FORM's CARD OF 'sumpterlaw01.MarkOpens'. -/
def markOpensUptoCard : Claim7 := { stood := { row := markOpensUptoRow, standIns := [], harness := (true, "a36602749a216f5b3fccdc5e44da619c002a43379f78b789973f3857bd046de9"), looks := false }, kinds := [], alts := [], laidByText := true, laidKinds := [.data], laidTests := true, laidLooks := .later }
def MarkOpensUptoCardSaid : Prop := Claim7.holds Tryd.pinned (.plain (OpenSpec.upto markOpensSpec)) markOpensUptoCard

/-- THE SECOND FORM's CARD OF 'sumpterlaw01.MarkShows'. -/
def markShowsUptoCard : Claim7 := { stood := { row := markShowsUptoRow, standIns := [], harness := (true, "a36602749a216f5b3fccdc5e44da619c002a43379f78b789973f3857bd046de9"), looks := false }, kinds := [], alts := [], laidByText := true, laidKinds := [.data], laidTests := true, laidLooks := .later }
def MarkShowsUptoCardSaid : Prop := Claim7.holds Tryd.pinned (.plain (OpenSpec.upto markShowsSpec)) markShowsUptoCard

/-- THE SECOND FORM's CARD OF 'sumpterlaw01.MarkParts'. -/
def markPartsUptoCard : Claim7 := { stood := { row := markPartsUptoRow, standIns := [], harness := (true, "a36602749a216f5b3fccdc5e44da619c002a43379f78b789973f3857bd046de9"), looks := false }, kinds := [], alts := [], laidByText := true, laidKinds := [.data], laidTests := true, laidLooks := .later }
def MarkPartsUptoCardSaid : Prop := Claim7.holds Tryd.pinned (.plain (OpenSpec.upto markPartsSpec)) markPartsUptoCard
end Rows
end Go.Proofs.YtmafdoodgkhgeaaDoor
