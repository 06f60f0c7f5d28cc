/-
  DERIVED. GIVEN WITH THE SEED: THE CARDS: each row of YtpmgafmbmjokhaaDoorRows.lean that lists a variable, with what it lists TIED to the program's text (the seventh form; the later family's looks); each row that meets fmt, with fmt's text TOLD by the authors' own Lean function (tested against real Go, not proved from fmt's source: count such statements apart). THE CARD IS WHAT COUNTS. Prove the row's statement (the work); the ties are given (YtpmgafmbmjokhaaDoorTie.lean); close each card by the builder's one call (the guide's Derived/Test/ToyasCard.lean, 'card_holds'). Laid BY PROGRAM, IN A SANDBOX (cutbox-door.mjs). By AI agents, Wed Nov 11 2026. No macro, syntax, notation, axiom, sorry.
-/
import Derived.Test.YtpmgafmbmjokhaaDoorRows
import GoSem.ClaimSeven
namespace Go.Proofs.YtpmgafmbmjokhaaDoor
namespace Rows

/-- THE TIED CARD OF 'packhorselaw10.OrderNames'. -/
def orderNamesCard : Claim7 := { stood := { row := orderNamesRow, standIns := [], harness := (true, "db7d36a8fcd4a6f4a5356ce2f23838d6e17feea37500562e3ee373e41b0adea9"), looks := false }, kinds := [], alts := [], laidByText := true, laidKinds := [.data], laidTests := true, laidLooks := .later }
def OrderNamesCardSaid : Prop := Claim7.holds Tryd.pinned (.plain (OpenSpec.ofChange orderNamesSpec)) orderNamesCard

/-- THE SECOND FORM's CARD OF 'packhorselaw10.OrderNames'. -/
def orderNamesUptoCard : Claim7 := { stood := { row := orderNamesUptoRow, standIns := [], harness := (true, "db7d36a8fcd4a6f4a5356ce2f23838d6e17feea37500562e3ee373e41b0adea9"), looks := false }, kinds := [], alts := [], laidByText := true, laidKinds := [.data], laidTests := true, laidLooks := .later }
def OrderNamesUptoCardSaid : Prop := Claim7.holds Tryd.pinned (.plain (OpenSpec.upto orderNamesSpec)) orderNamesUptoCard
end Rows
end Go.Proofs.YtpmgafmbmjokhaaDoor
