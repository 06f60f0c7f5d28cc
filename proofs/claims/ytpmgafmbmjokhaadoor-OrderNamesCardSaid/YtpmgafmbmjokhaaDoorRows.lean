/-
  NARROWER THAN 'FOR EVERY INPUT', by the rows' own cells (each row's printed sentence says how): OrderNames: laid.
  DERIVED. THE GIVEN ROWS OF THIS SEAT. 1 by the template 'for every input the law returns true; each argument reads behind the call as it read before'; 0 by the template 'total and deterministic' (their statements: YtpmgafmbmjokhaaDoorTotals.lean).
  GIVEN WITH THE SEED: the statements are not yours to turn. If you find one false, say at which input.
  Laid BY PROGRAM, IN A SANDBOX (cutbox-rows.mjs): the forced cells as the released guide's own fill.sh prints them over the translation 8de86a652d0f2f73… (all of the seat's roots in one cut). By AI agents, Wed Nov 11 2026. No macro, syntax, notation, axiom, sorry.
-/
import Derived.Test.YtpmgafmbmjokhaaDoorChecked
import GoSem.Claim
import GoSem.ClaimJoined
import GoSem.ClaimMapViews
import Derived.JoinedTies
import Derived.KernelRfl
namespace Go.Proofs.YtpmgafmbmjokhaaDoor
/- THE CELL 'sum', in the pinned program and in every row, IS THE sha256 OF THE DUMP (.gsa) THAT YtpmgafmbmjokhaaDoorProg.lean LOADS. Nothing in Lean hashes anything: it is a label: what it is worth is what the hold of that sum in a sandbox is worth. -/
noncomputable def Tryd.pinned : Pinned := { name := "ytpmgafmbmjokhaadoor", sum := "8de86a652d0f2f737340659c03dee4b726f8a3bd6b7fe3243ee88db4a96bbcc6", checked := Tryd.checked }
namespace Rows
def none {H : Type} : Left H := { results := [], args := [] }

/- WHAT THE LISTED PACKAGE-LEVEL VARIABLES READ AS WHEN THE CALL BEGINS. Each datum BY PROGRAM (the guide's laid-datum.mjs) off the statement by which the dump's own 'gosem.cut.vars' lays the variable. In a bare row this is a premise. The card (YtpmgafmbmjokhaaDoorCards.lean) ties it to the program's text. -/
def laid_packhorse_order_names {H : Type} : DataW H := .agg [.lit (.string []), .lit (.string [114, 101, 115, 101, 114, 118, 105, 110, 103]), .lit (.string [97, 117, 116, 104, 111, 114, 105, 115, 105, 110, 103]), .lit (.string [119, 97, 105, 116, 105, 110, 103]), .lit (.string [112, 105, 99, 107, 105, 110, 103]), .lit (.string [112, 97, 99, 107, 101, 100]), .lit (.string [115, 101, 110, 100, 105, 110, 103]), .lit (.string [99, 97, 112, 116, 117, 114, 105, 110, 103]), .lit (.string [115, 104, 105, 112, 112, 101, 100]), .lit (.string [118, 111, 105, 100, 105, 110, 103]), .lit (.string [114, 101, 108, 101, 97, 115, 105, 110, 103]), .lit (.string [99, 111, 109, 112, 101, 110, 115, 97, 116, 101, 100]), .lit (.string [115, 116, 117, 99, 107])]

/-- 'packhorselaw10.OrderNames': WHATEVER THE INPUT: true; the input reads as it did. -/
def orderNamesSpec : ChangeSpec := { name := "orderNames", fn := fun _ => fun
  | [] => { results := [.lit (.bool true)], args := [] }
  | _ => none }
def orderNamesRow : OpenClaim := { program := "ytpmgafmbmjokhaadoor", sum := "8de86a652d0f2f737340659c03dee4b726f8a3bd6b7fe3243ee88db4a96bbcc6", func := "packhorse/packhorselaw10.OrderNames", spec := "orderNames", inPlace := ["internal/bytealg.abigen_runtime_cmpstring"], named := ["packhorse/order.names"], apart := false, laid := [("packhorse/order.names", laid_packhorse_order_names)] }
def OrderNamesSaid : Prop := orderNamesRow.holds Tryd.pinned (OpenSpec.ofChange orderNamesSpec)

/-- ITS FALSE NEIGHBOUR: 'it returns false'. Refute it at one input. -/
def orderNamesWrong : ChangeSpec := { name := "orderNames", fn := fun _ => fun
  | [] => { results := [.lit (.bool false)], args := [] }
  | _ => none }
def OrderNamesWrongFalsely : Prop := orderNamesRow.holds Tryd.pinned (OpenSpec.ofChange orderNamesWrong)

/- THE SECOND FORM. 'bulk': how many values and letters a reading holds, each counted each time it is reached (what is shared counts as often as it is met; a slice's spare places count too). A statement '..UptoSaid' is the law's where the arguments, and the package variables that the reading takes, are together of bulk at most 1048576: NARROWER than '..Said'. Prove '..Said' where nothing that the law and all that it calls make is longer than what came in: it says more and counts as full. Else prove '..UptoSaid'. A law counts once. -/
mutual
def uptoBulk {H : Type} : DataW H → Nat
  | .lit (.string bytes) => bytes.length + 1
  | .lit _ => 1
  | .nil => 1
  | .ptr d => uptoBulk d + 1
  | .slice elems spare => uptoBulkAll elems + uptoBulkAll spare + 1
  | .agg parts => uptoBulkAll parts + 1
  | .iface _ d => uptoBulk d + 1
  | .map entries => uptoBulkEntries entries + 1
  | .held _ => 1
def uptoBulkAll {H : Type} : List (DataW H) → Nat
  | [] => 0
  | d :: r => uptoBulk d + uptoBulkAll r
def uptoBulkEntries {H : Type} : List (Lit × DataW H) → Nat
  | [] => 0
  | x :: r => uptoBulkEntry x + uptoBulkEntries r
def uptoBulkEntry {H : Type} : Lit × DataW H → Nat
  | (.string bytes, d) => bytes.length + uptoBulk d + 1
  | (_, d) => uptoBulk d + 1
 end
def uptoSmall : (H : Type) → List (DataW H) → Bool := fun _ ds => decide (uptoBulkAll ds ≤ 1048576)
def OpenSpec.upto (s : _root_.Go.ChangeSpec) : _root_.Go.OpenSpec := { _root_.Go.OpenSpec.ofChange s with cond := some uptoSmall }

/-- 'packhorselaw10.OrderNames', WHERE WHAT IT READS IS OF BULK AT MOST 1048576: true; the input reads as it did. -/
def orderNamesUptoRow : OpenClaim := { program := "ytpmgafmbmjokhaadoor", sum := "8de86a652d0f2f737340659c03dee4b726f8a3bd6b7fe3243ee88db4a96bbcc6", func := "packhorse/packhorselaw10.OrderNames", spec := "orderNames", inPlace := ["internal/bytealg.abigen_runtime_cmpstring"], named := ["packhorse/order.names"], apart := false, laid := [("packhorse/order.names", laid_packhorse_order_names)], narrowed := true }
def OrderNamesUptoSaid : Prop := orderNamesUptoRow.holds Tryd.pinned (OpenSpec.upto orderNamesSpec)

end Rows
end Go.Proofs.YtpmgafmbmjokhaaDoor
