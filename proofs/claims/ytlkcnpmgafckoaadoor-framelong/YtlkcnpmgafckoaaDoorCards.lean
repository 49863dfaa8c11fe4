/-
  DERIVED. GIVEN WITH THE SEED: THE CARDS: each row of YtlkcnpmgafckoaaDoorRows.lean that lists a variable, with what it lists TIED to the program's text (the seventh form; the later family's looks); each row that meets fmt, with fmt's text TOLD by the authors' own Lean function (tested against real Go, not proved from fmt's source: count such statements apart). THE CARD IS WHAT COUNTS. Prove the row's statement (the work); the ties are given (YtlkcnpmgafckoaaDoorTie.lean); close each card by the builder's one call (the guide's Derived/Test/ToyasCard.lean, 'card_holds'). Laid BY PROGRAM, IN A SANDBOX (cutbox-door.mjs). By AI agents, Wed Nov 11 2026. No macro, syntax, notation, axiom, sorry.
-/
import Derived.Test.YtlkcnpmgafckoaaDoorRows
import GoSem.ClaimSeven
namespace Go.Proofs.YtlkcnpmgafckoaaDoor
namespace Rows

/-- THE TIED CARD OF 'sumpterlaw05.FrameRights'. -/
def frameRightsCard : Claim7 := { stood := { row := frameRightsRow, standIns := [], harness := (true, "36ddeef4efcb836440dbb86b5b814d8a66f6bdb91b2baa14eef5a2bceae2d044"), looks := false }, kinds := [], alts := [], laidByText := true, laidKinds := [.data], laidTests := true, laidLooks := .later }
def FrameRightsCardSaid : Prop := Claim7.holds Tryd.pinned (.plain (OpenSpec.ofChange frameRightsSpec)) frameRightsCard

/-- THE TIED CARD OF 'sumpterlaw05.FrameEncodes'. -/
def frameEncodesCard : Claim7 := { stood := { row := frameEncodesRow, standIns := [], harness := (true, "36ddeef4efcb836440dbb86b5b814d8a66f6bdb91b2baa14eef5a2bceae2d044"), looks := false }, kinds := [], alts := [], laidByText := true, laidKinds := [.data], laidTests := true, laidLooks := .later }
def FrameEncodesCardSaid : Prop := Claim7.holds Tryd.pinned (.plain (OpenSpec.ofChange frameEncodesSpec)) frameEncodesCard

/-- THE TIED CARD OF 'sumpterlaw05.FrameDecodes'. -/
def frameDecodesCard : Claim7 := { stood := { row := frameDecodesRow, standIns := [], harness := (true, "36ddeef4efcb836440dbb86b5b814d8a66f6bdb91b2baa14eef5a2bceae2d044"), looks := false }, kinds := [], alts := [], laidByText := true, laidKinds := [.data], laidTests := true, laidLooks := .later }
def FrameDecodesCardSaid : Prop := Claim7.holds Tryd.pinned (.plain (OpenSpec.ofChange frameDecodesSpec)) frameDecodesCard

/-- THE TIED CARD OF 'sumpterlaw05.FrameInners'. -/
def frameInnersCard : Claim7 := { stood := { row := frameInnersRow, standIns := [], harness := (true, "36ddeef4efcb836440dbb86b5b814d8a66f6bdb91b2baa14eef5a2bceae2d044"), looks := false }, kinds := [], alts := [], laidByText := true, laidKinds := [.data], laidTests := true, laidLooks := .later }
def FrameInnersCardSaid : Prop := Claim7.holds Tryd.pinned (.plain (OpenSpec.ofChange frameInnersSpec)) frameInnersCard

/-- THE TIED CARD OF 'sumpterlaw05.FrameTurned'. -/
def frameTurnedCard : Claim7 := { stood := { row := frameTurnedRow, standIns := [], harness := (true, "36ddeef4efcb836440dbb86b5b814d8a66f6bdb91b2baa14eef5a2bceae2d044"), looks := false }, kinds := [], alts := [], laidByText := true, laidKinds := [.data], laidTests := true, laidLooks := .later }
def FrameTurnedCardSaid : Prop := Claim7.holds Tryd.pinned (.plain (OpenSpec.ofChange frameTurnedSpec)) frameTurnedCard

/-- THE TIED CARD OF 'sumpterlaw05.FrameLong'. -/
def frameLongCard : Claim7 := { stood := { row := frameLongRow, standIns := [], harness := (true, "36ddeef4efcb836440dbb86b5b814d8a66f6bdb91b2baa14eef5a2bceae2d044"), looks := false }, kinds := [], alts := [], laidByText := true, laidKinds := [.data], laidTests := true, laidLooks := .later }
def FrameLongCardSaid : Prop := Claim7.holds Tryd.pinned (.plain (OpenSpec.ofChange frameLongSpec)) frameLongCard

/-- THE TIED CARD OF 'sumpterlaw05.FrameOnce'. -/
def frameOnceCard : Claim7 := { stood := { row := frameOnceRow, standIns := [], harness := (true, "36ddeef4efcb836440dbb86b5b814d8a66f6bdb91b2baa14eef5a2bceae2d044"), looks := false }, kinds := [], alts := [], laidByText := true, laidKinds := [.data], laidTests := true, laidLooks := .later }
def FrameOnceCardSaid : Prop := Claim7.holds Tryd.pinned (.plain (OpenSpec.ofChange frameOnceSpec)) frameOnceCard

/-- THE SECOND FORM's CARD OF 'sumpterlaw05.FrameRights'. -/
def frameRightsUptoCard : Claim7 := { stood := { row := frameRightsUptoRow, standIns := [], harness := (true, "36ddeef4efcb836440dbb86b5b814d8a66f6bdb91b2baa14eef5a2bceae2d044"), looks := false }, kinds := [], alts := [], laidByText := true, laidKinds := [.data], laidTests := true, laidLooks := .later }
def FrameRightsUptoCardSaid : Prop := Claim7.holds Tryd.pinned (.plain (OpenSpec.upto frameRightsSpec)) frameRightsUptoCard

/-- THE SECOND FORM's CARD OF 'sumpterlaw05.FrameEncodes'. -/
def frameEncodesUptoCard : Claim7 := { stood := { row := frameEncodesUptoRow, standIns := [], harness := (true, "36ddeef4efcb836440dbb86b5b814d8a66f6bdb91b2baa14eef5a2bceae2d044"), looks := false }, kinds := [], alts := [], laidByText := true, laidKinds := [.data], laidTests := true, laidLooks := .later }
def FrameEncodesUptoCardSaid : Prop := Claim7.holds Tryd.pinned (.plain (OpenSpec.upto frameEncodesSpec)) frameEncodesUptoCard

/-- THE SECOND FORM's CARD OF 'sumpterlaw05.FrameDecodes'. -/
def frameDecodesUptoCard : Claim7 := { stood := { row := frameDecodesUptoRow, standIns := [], harness := (true, "36ddeef4efcb836440dbb86b5b814d8a66f6bdb91b2baa14eef5a2bceae2d044"), looks := false }, kinds := [], alts := [], laidByText := true, laidKinds := [.data], laidTests := true, laidLooks := .later }
def FrameDecodesUptoCardSaid : Prop := Claim7.holds Tryd.pinned (.plain (OpenSpec.upto frameDecodesSpec)) frameDecodesUptoCard

/-- THE SECOND FORM's CARD OF 'sumpterlaw05.FrameInners'. -/
def frameInnersUptoCard : Claim7 := { stood := { row := frameInnersUptoRow, standIns := [], harness := (true, "36ddeef4efcb836440dbb86b5b814d8a66f6bdb91b2baa14eef5a2bceae2d044"), looks := false }, kinds := [], alts := [], laidByText := true, laidKinds := [.data], laidTests := true, laidLooks := .later }
def FrameInnersUptoCardSaid : Prop := Claim7.holds Tryd.pinned (.plain (OpenSpec.upto frameInnersSpec)) frameInnersUptoCard

/-- THE SECOND FORM's CARD OF 'sumpterlaw05.FrameTurned'. -/
def frameTurnedUptoCard : Claim7 := { stood := { row := frameTurnedUptoRow, standIns := [], harness := (true, "36ddeef4efcb836440dbb86b5b814d8a66f6bdb91b2baa14eef5a2bceae2d044"), looks := false }, kinds := [], alts := [], laidByText := true, laidKinds := [.data], laidTests := true, laidLooks := .later }
def FrameTurnedUptoCardSaid : Prop := Claim7.holds Tryd.pinned (.plain (OpenSpec.upto frameTurnedSpec)) frameTurnedUptoCard

/-- THE SECOND FORM's CARD OF 'sumpterlaw05.FrameLong'. -/
def frameLongUptoCard : Claim7 := { stood := { row := frameLongUptoRow, standIns := [], harness := (true, "36ddeef4efcb836440dbb86b5b814d8a66f6bdb91b2baa14eef5a2bceae2d044"), looks := false }, kinds := [], alts := [], laidByText := true, laidKinds := [.data], laidTests := true, laidLooks := .later }
def FrameLongUptoCardSaid : Prop := Claim7.holds Tryd.pinned (.plain (OpenSpec.upto frameLongSpec)) frameLongUptoCard

/-- THE SECOND FORM's CARD OF 'sumpterlaw05.FrameOnce'. -/
def frameOnceUptoCard : Claim7 := { stood := { row := frameOnceUptoRow, standIns := [], harness := (true, "36ddeef4efcb836440dbb86b5b814d8a66f6bdb91b2baa14eef5a2bceae2d044"), looks := false }, kinds := [], alts := [], laidByText := true, laidKinds := [.data], laidTests := true, laidLooks := .later }
def FrameOnceUptoCardSaid : Prop := Claim7.holds Tryd.pinned (.plain (OpenSpec.upto frameOnceSpec)) frameOnceUptoCard
end Rows
end Go.Proofs.YtlkcnpmgafckoaaDoor
