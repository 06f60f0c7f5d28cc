/-
  DERIVED. GIVEN WITH THE SEED: THE CARDS: each row of YtfmpibmhhfmajaaGreatDoorRows.lean that lists a variable, with what it lists TIED to the program's text (the seventh form; the later family's looks); each row that meets fmt, with fmt's text TOLD by the authors' own Lean function (tested against real Go, not proved from fmt's source: count such statements apart). THE CARD IS WHAT COUNTS. Prove the row's statement (the work); the ties are given (YtfmpibmhhfmajaaGreatDoorTie.lean); close each card by the builder's one call (the guide's Derived/Test/ToyasCard.lean, 'card_holds'). Laid BY PROGRAM, IN A SANDBOX (cutbox-door.mjs). By AI agents, Wed Nov 11 2026. No macro, syntax, notation, axiom, sorry.
-/
import Derived.Test.YtfmpibmhhfmajaaGreatDoorRows
import GoSem.ClaimSeven
namespace Go.Proofs.YtfmpibmhhfmajaaGreatDoor
namespace Rows

/-- THE TIED CARD OF 'packhorselaw16.SnapNames'. -/
def snapNamesCard : Claim7 := { stood := { row := snapNamesRow, standIns := [], harness := (true, "7211ade92e030d1b02c38d6059b840fdc4cfa25b6508450c7d7337196200ccfb"), looks := false }, kinds := [], alts := [], laidByText := true, laidKinds := [.data], laidTests := true, laidLooks := .later }
def SnapNamesCardSaid : Prop := Claim7.holds Tryz.pinned (.plain (OpenSpec.ofChange snapNamesSpec)) snapNamesCard

/-- THE TIED CARD OF 'packhorselaw16.SnapCommands'. -/
def snapCommandsCard : Claim7 := { stood := { row := snapCommandsRow, standIns := [], harness := (true, "7211ade92e030d1b02c38d6059b840fdc4cfa25b6508450c7d7337196200ccfb"), looks := false }, kinds := [], alts := [], laidByText := true, laidKinds := [.data], laidTests := true, laidLooks := .later }
def SnapCommandsCardSaid : Prop := Claim7.holds Tryz.pinned (.plain (OpenSpec.ofChange snapCommandsSpec)) snapCommandsCard

/-- THE TIED CARD OF 'packhorselaw16.SnapTold'. -/
def snapToldCard : Claim7 := { stood := { row := snapToldRow, standIns := [], harness := (true, "7211ade92e030d1b02c38d6059b840fdc4cfa25b6508450c7d7337196200ccfb"), looks := false }, kinds := [], alts := [], laidByText := true, laidKinds := [.data], laidTests := true, laidLooks := .later }
def SnapToldCardSaid : Prop := Claim7.holds Tryz.pinned (.plain (OpenSpec.ofChange snapToldSpec)) snapToldCard

/-- THE TIED CARD OF 'packhorselaw16.SnapStates'. -/
def snapStatesCard : Claim7 := { stood := { row := snapStatesRow, standIns := [], harness := (true, "7211ade92e030d1b02c38d6059b840fdc4cfa25b6508450c7d7337196200ccfb"), looks := false }, kinds := [], alts := [], laidByText := true, laidKinds := [.data], laidTests := true, laidLooks := .later }
def SnapStatesCardSaid : Prop := Claim7.holds Tryz.pinned (.plain (OpenSpec.ofChange snapStatesSpec)) snapStatesCard

/-- THE TIED CARD OF 'packhorselaw16.SnapReads'. -/
def snapReadsCard : Claim7 := { stood := { row := snapReadsRow, standIns := [], harness := (true, "7211ade92e030d1b02c38d6059b840fdc4cfa25b6508450c7d7337196200ccfb"), looks := false }, kinds := [], alts := [], laidByText := true, laidKinds := [.data], laidTests := true, laidLooks := .later }
def SnapReadsCardSaid : Prop := Claim7.holds Tryz.pinned (.plain (OpenSpec.ofChange snapReadsSpec)) snapReadsCard

/-- THE TIED CARD OF 'packhorselaw16.SnapApart'. -/
def snapApartCard : Claim7 := { stood := { row := snapApartRow, standIns := [], harness := (true, "7211ade92e030d1b02c38d6059b840fdc4cfa25b6508450c7d7337196200ccfb"), looks := false }, kinds := [], alts := [], laidByText := true, laidKinds := [.data], laidTests := true, laidLooks := .later }
def SnapApartCardSaid : Prop := Claim7.holds Tryz.pinned (.plain (OpenSpec.ofChange snapApartSpec)) snapApartCard

/-- THE TIED CARD OF 'packhorselaw16.SnapCut'. -/
def snapCutCard : Claim7 := { stood := { row := snapCutRow, standIns := [], harness := (true, "7211ade92e030d1b02c38d6059b840fdc4cfa25b6508450c7d7337196200ccfb"), looks := false }, kinds := [], alts := [], laidByText := true, laidKinds := [.data], laidTests := true, laidLooks := .later }
def SnapCutCardSaid : Prop := Claim7.holds Tryz.pinned (.plain (OpenSpec.ofChange snapCutSpec)) snapCutCard

/-- THE SECOND FORM's CARD OF 'packhorselaw16.SnapNames'. -/
def snapNamesUptoCard : Claim7 := { stood := { row := snapNamesUptoRow, standIns := [], harness := (true, "7211ade92e030d1b02c38d6059b840fdc4cfa25b6508450c7d7337196200ccfb"), looks := false }, kinds := [], alts := [], laidByText := true, laidKinds := [.data], laidTests := true, laidLooks := .later }
def SnapNamesUptoCardSaid : Prop := Claim7.holds Tryz.pinned (.plain (OpenSpec.upto snapNamesSpec)) snapNamesUptoCard

/-- THE SECOND FORM's CARD OF 'packhorselaw16.SnapCommands'. -/
def snapCommandsUptoCard : Claim7 := { stood := { row := snapCommandsUptoRow, standIns := [], harness := (true, "7211ade92e030d1b02c38d6059b840fdc4cfa25b6508450c7d7337196200ccfb"), looks := false }, kinds := [], alts := [], laidByText := true, laidKinds := [.data], laidTests := true, laidLooks := .later }
def SnapCommandsUptoCardSaid : Prop := Claim7.holds Tryz.pinned (.plain (OpenSpec.upto snapCommandsSpec)) snapCommandsUptoCard

/-- THE SECOND FORM's CARD OF 'packhorselaw16.SnapTold'. -/
def snapToldUptoCard : Claim7 := { stood := { row := snapToldUptoRow, standIns := [], harness := (true, "7211ade92e030d1b02c38d6059b840fdc4cfa25b6508450c7d7337196200ccfb"), looks := false }, kinds := [], alts := [], laidByText := true, laidKinds := [.data], laidTests := true, laidLooks := .later }
def SnapToldUptoCardSaid : Prop := Claim7.holds Tryz.pinned (.plain (OpenSpec.upto snapToldSpec)) snapToldUptoCard

/-- THE SECOND FORM's CARD OF 'packhorselaw16.SnapStates'. -/
def snapStatesUptoCard : Claim7 := { stood := { row := snapStatesUptoRow, standIns := [], harness := (true, "7211ade92e030d1b02c38d6059b840fdc4cfa25b6508450c7d7337196200ccfb"), looks := false }, kinds := [], alts := [], laidByText := true, laidKinds := [.data], laidTests := true, laidLooks := .later }
def SnapStatesUptoCardSaid : Prop := Claim7.holds Tryz.pinned (.plain (OpenSpec.upto snapStatesSpec)) snapStatesUptoCard

/-- THE SECOND FORM's CARD OF 'packhorselaw16.SnapReads'. -/
def snapReadsUptoCard : Claim7 := { stood := { row := snapReadsUptoRow, standIns := [], harness := (true, "7211ade92e030d1b02c38d6059b840fdc4cfa25b6508450c7d7337196200ccfb"), looks := false }, kinds := [], alts := [], laidByText := true, laidKinds := [.data], laidTests := true, laidLooks := .later }
def SnapReadsUptoCardSaid : Prop := Claim7.holds Tryz.pinned (.plain (OpenSpec.upto snapReadsSpec)) snapReadsUptoCard

/-- THE SECOND FORM's CARD OF 'packhorselaw16.SnapApart'. -/
def snapApartUptoCard : Claim7 := { stood := { row := snapApartUptoRow, standIns := [], harness := (true, "7211ade92e030d1b02c38d6059b840fdc4cfa25b6508450c7d7337196200ccfb"), looks := false }, kinds := [], alts := [], laidByText := true, laidKinds := [.data], laidTests := true, laidLooks := .later }
def SnapApartUptoCardSaid : Prop := Claim7.holds Tryz.pinned (.plain (OpenSpec.upto snapApartSpec)) snapApartUptoCard

/-- THE SECOND FORM's CARD OF 'packhorselaw16.SnapCut'. -/
def snapCutUptoCard : Claim7 := { stood := { row := snapCutUptoRow, standIns := [], harness := (true, "7211ade92e030d1b02c38d6059b840fdc4cfa25b6508450c7d7337196200ccfb"), looks := false }, kinds := [], alts := [], laidByText := true, laidKinds := [.data], laidTests := true, laidLooks := .later }
def SnapCutUptoCardSaid : Prop := Claim7.holds Tryz.pinned (.plain (OpenSpec.upto snapCutSpec)) snapCutUptoCard
end Rows
end Go.Proofs.YtfmpibmhhfmajaaGreatDoor
