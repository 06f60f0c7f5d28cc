/-
  No cell of these rows narrows 'for every input' (looked for: loops, veiled, ifaces, maps, wideKeys, modest, calm, conditions, laid).
  DERIVED. THE GIVEN ROWS OF THIS SEAT. 6 by the template 'for every input the law returns true; each argument reads behind the call as it read before'; 0 by the template 'total and deterministic' (their statements: YtlggakjfgapppaaTotals.lean).
  GIVEN WITH THE SEED: the statements are not yours to turn. If you find one false, say at which input.
  Laid BY PROGRAM, IN A SANDBOX (cutbox-rows.mjs): the forced cells as the released guide's own fill.sh prints them over the translation 202d3b36a80852e2… (all of the seat's roots in one cut). By AI agents, Wed Nov 11 2026. No macro, syntax, notation, axiom, sorry.
-/
import Derived.Test.YtlggakjfgapppaaChecked
import GoSem.Claim
import GoSem.ClaimJoined
import GoSem.ClaimMapViews
import Derived.JoinedTies
import Derived.KernelRfl
namespace Go.Proofs.Ytlggakjfgapppaa
/- THE CELL 'sum', in the pinned program and in every row, IS THE sha256 OF THE DUMP (.gsa) THAT YtlggakjfgapppaaProg.lean LOADS. Nothing in Lean hashes anything: it is a label: what it is worth is what the hold of that sum in a sandbox is worth. -/
noncomputable def Try.pinned : Pinned := { name := "ytlggakjfgapppaa", sum := "202d3b36a80852e2514b00a137f1d63176f8360cd86bb22b6a8a43994322ace7", checked := Try.checked }
namespace Rows
def none {H : Type} : Left H := { results := [], args := [] }

/-- 'packhorselaw14.SagaNames': WHATEVER THE INPUT: true; the input reads as it did. -/
def sagaNamesSpec : ChangeSpec := { name := "sagaNames", fn := fun _ => fun
  | [] => { results := [.lit (.bool true)], args := [] }
  | _ => none }
def sagaNamesRow : OpenClaim := { program := "ytlggakjfgapppaa", sum := "202d3b36a80852e2514b00a137f1d63176f8360cd86bb22b6a8a43994322ace7", func := "packhorse/packhorselaw14.SagaNames", spec := "sagaNames", apart := false }
def SagaNamesSaid : Prop := sagaNamesRow.holds Try.pinned (OpenSpec.ofChange sagaNamesSpec)

/-- ITS FALSE NEIGHBOUR: 'it returns false'. Refute it at one input. -/
def sagaNamesWrong : ChangeSpec := { name := "sagaNames", fn := fun _ => fun
  | [] => { results := [.lit (.bool false)], args := [] }
  | _ => none }
def SagaNamesWrongFalsely : Prop := sagaNamesRow.holds Try.pinned (OpenSpec.ofChange sagaNamesWrong)

/-- 'packhorselaw14.SagaSteps': WHATEVER THE INPUT: true; the input reads as it did. -/
def sagaStepsSpec : ChangeSpec := { name := "sagaSteps", fn := fun _ => fun
  | [d1, d2, d3] => { results := [.lit (.bool true)], args := [d1, d2, d3] }
  | _ => none }
def sagaStepsRow : OpenClaim := { program := "ytlggakjfgapppaa", sum := "202d3b36a80852e2514b00a137f1d63176f8360cd86bb22b6a8a43994322ace7", func := "packhorse/packhorselaw14.SagaSteps", spec := "sagaSteps", apart := false }
def SagaStepsSaid : Prop := sagaStepsRow.holds Try.pinned (OpenSpec.ofChange sagaStepsSpec)

/-- ITS FALSE NEIGHBOUR: 'it returns false'. Refute it at one input. -/
def sagaStepsWrong : ChangeSpec := { name := "sagaSteps", fn := fun _ => fun
  | [d1, d2, d3] => { results := [.lit (.bool false)], args := [d1, d2, d3] }
  | _ => none }
def SagaStepsWrongFalsely : Prop := sagaStepsRow.holds Try.pinned (OpenSpec.ofChange sagaStepsWrong)

/-- 'packhorselaw14.SagaGivenUp': WHATEVER THE INPUT: true; the input reads as it did. -/
def sagaGivenUpSpec : ChangeSpec := { name := "sagaGivenUp", fn := fun _ => fun
  | [d1, d2] => { results := [.lit (.bool true)], args := [d1, d2] }
  | _ => none }
def sagaGivenUpRow : OpenClaim := { program := "ytlggakjfgapppaa", sum := "202d3b36a80852e2514b00a137f1d63176f8360cd86bb22b6a8a43994322ace7", func := "packhorse/packhorselaw14.SagaGivenUp", spec := "sagaGivenUp", apart := false }
def SagaGivenUpSaid : Prop := sagaGivenUpRow.holds Try.pinned (OpenSpec.ofChange sagaGivenUpSpec)

/-- ITS FALSE NEIGHBOUR: 'it returns false'. Refute it at one input. -/
def sagaGivenUpWrong : ChangeSpec := { name := "sagaGivenUp", fn := fun _ => fun
  | [d1, d2] => { results := [.lit (.bool false)], args := [d1, d2] }
  | _ => none }
def SagaGivenUpWrongFalsely : Prop := sagaGivenUpRow.holds Try.pinned (OpenSpec.ofChange sagaGivenUpWrong)

/-- 'packhorselaw14.SagaEnds': WHATEVER THE INPUT: true; the input reads as it did. -/
def sagaEndsSpec : ChangeSpec := { name := "sagaEnds", fn := fun _ => fun
  | [d1, d2, d3] => { results := [.lit (.bool true)], args := [d1, d2, d3] }
  | _ => none }
def sagaEndsRow : OpenClaim := { program := "ytlggakjfgapppaa", sum := "202d3b36a80852e2514b00a137f1d63176f8360cd86bb22b6a8a43994322ace7", func := "packhorse/packhorselaw14.SagaEnds", spec := "sagaEnds", apart := false }
def SagaEndsSaid : Prop := sagaEndsRow.holds Try.pinned (OpenSpec.ofChange sagaEndsSpec)

/-- ITS FALSE NEIGHBOUR: 'it returns false'. Refute it at one input. -/
def sagaEndsWrong : ChangeSpec := { name := "sagaEnds", fn := fun _ => fun
  | [d1, d2, d3] => { results := [.lit (.bool false)], args := [d1, d2, d3] }
  | _ => none }
def SagaEndsWrongFalsely : Prop := sagaEndsRow.holds Try.pinned (OpenSpec.ofChange sagaEndsWrong)

/-- 'packhorselaw14.SagaUndoes': WHATEVER THE INPUT: true; the input reads as it did. -/
def sagaUndoesSpec : ChangeSpec := { name := "sagaUndoes", fn := fun _ => fun
  | [d1, d2, d3] => { results := [.lit (.bool true)], args := [d1, d2, d3] }
  | _ => none }
def sagaUndoesRow : OpenClaim := { program := "ytlggakjfgapppaa", sum := "202d3b36a80852e2514b00a137f1d63176f8360cd86bb22b6a8a43994322ace7", func := "packhorse/packhorselaw14.SagaUndoes", spec := "sagaUndoes", apart := false }
def SagaUndoesSaid : Prop := sagaUndoesRow.holds Try.pinned (OpenSpec.ofChange sagaUndoesSpec)

/-- ITS FALSE NEIGHBOUR: 'it returns false'. Refute it at one input. -/
def sagaUndoesWrong : ChangeSpec := { name := "sagaUndoes", fn := fun _ => fun
  | [d1, d2, d3] => { results := [.lit (.bool false)], args := [d1, d2, d3] }
  | _ => none }
def SagaUndoesWrongFalsely : Prop := sagaUndoesRow.holds Try.pinned (OpenSpec.ofChange sagaUndoesWrong)

/-- 'packhorselaw14.SagaRefuses': WHATEVER THE INPUT: true; the input reads as it did. -/
def sagaRefusesSpec : ChangeSpec := { name := "sagaRefuses", fn := fun _ => fun
  | [d1, d2] => { results := [.lit (.bool true)], args := [d1, d2] }
  | _ => none }
def sagaRefusesRow : OpenClaim := { program := "ytlggakjfgapppaa", sum := "202d3b36a80852e2514b00a137f1d63176f8360cd86bb22b6a8a43994322ace7", func := "packhorse/packhorselaw14.SagaRefuses", spec := "sagaRefuses", apart := false }
def SagaRefusesSaid : Prop := sagaRefusesRow.holds Try.pinned (OpenSpec.ofChange sagaRefusesSpec)

/-- ITS FALSE NEIGHBOUR: 'it returns false'. Refute it at one input. -/
def sagaRefusesWrong : ChangeSpec := { name := "sagaRefuses", fn := fun _ => fun
  | [d1, d2] => { results := [.lit (.bool false)], args := [d1, d2] }
  | _ => none }
def SagaRefusesWrongFalsely : Prop := sagaRefusesRow.holds Try.pinned (OpenSpec.ofChange sagaRefusesWrong)

/- THE SECOND FORM. 'bulk': how many values and letters a reading holds, each counted each time it is reached (what is shared counts as often as it is met; a slice's spare places count too). A statement '..UptoSaid' is the law's where the arguments, and the package variables that the reading takes, are together of bulk at most 1048576: NARROWER than '..Said'. Prove '..Said' where nothing that the law and all that it calls make is longer than what came in: it says more and counts as full. Else prove '..UptoSaid'. A law counts once. -/
mutual
def uptoBulk {H : Type} : DataW H → Nat
  | .lit (.string bytes) => bytes.length + 1
  | .lit _ => 1
  | .nil => 1
  | .ptr d => uptoBulk d + 1
  | .slice elems spare => uptoBulkAll elems + uptoBulkAll spare + 1
  | .agg parts => uptoBulkAll parts + 1
  | .iface _ d => uptoBulk d + 1
  | .map entries => uptoBulkEntries entries + 1
  | .held _ => 1
def uptoBulkAll {H : Type} : List (DataW H) → Nat
  | [] => 0
  | d :: r => uptoBulk d + uptoBulkAll r
def uptoBulkEntries {H : Type} : List (Lit × DataW H) → Nat
  | [] => 0
  | x :: r => uptoBulkEntry x + uptoBulkEntries r
def uptoBulkEntry {H : Type} : Lit × DataW H → Nat
  | (.string bytes, d) => bytes.length + uptoBulk d + 1
  | (_, d) => uptoBulk d + 1
 end
def uptoSmall : (H : Type) → List (DataW H) → Bool := fun _ ds => decide (uptoBulkAll ds ≤ 1048576)
def OpenSpec.upto (s : _root_.Go.ChangeSpec) : _root_.Go.OpenSpec := { _root_.Go.OpenSpec.ofChange s with cond := some uptoSmall }

/-- 'packhorselaw14.SagaNames', WHERE WHAT IT READS IS OF BULK AT MOST 1048576: true; the input reads as it did. -/
def sagaNamesUptoRow : OpenClaim := { program := "ytlggakjfgapppaa", sum := "202d3b36a80852e2514b00a137f1d63176f8360cd86bb22b6a8a43994322ace7", func := "packhorse/packhorselaw14.SagaNames", spec := "sagaNames", apart := false, narrowed := true }
def SagaNamesUptoSaid : Prop := sagaNamesUptoRow.holds Try.pinned (OpenSpec.upto sagaNamesSpec)

/-- 'packhorselaw14.SagaSteps', WHERE WHAT IT READS IS OF BULK AT MOST 1048576: true; the input reads as it did. -/
def sagaStepsUptoRow : OpenClaim := { program := "ytlggakjfgapppaa", sum := "202d3b36a80852e2514b00a137f1d63176f8360cd86bb22b6a8a43994322ace7", func := "packhorse/packhorselaw14.SagaSteps", spec := "sagaSteps", apart := false, narrowed := true }
def SagaStepsUptoSaid : Prop := sagaStepsUptoRow.holds Try.pinned (OpenSpec.upto sagaStepsSpec)

/-- 'packhorselaw14.SagaGivenUp', WHERE WHAT IT READS IS OF BULK AT MOST 1048576: true; the input reads as it did. -/
def sagaGivenUpUptoRow : OpenClaim := { program := "ytlggakjfgapppaa", sum := "202d3b36a80852e2514b00a137f1d63176f8360cd86bb22b6a8a43994322ace7", func := "packhorse/packhorselaw14.SagaGivenUp", spec := "sagaGivenUp", apart := false, narrowed := true }
def SagaGivenUpUptoSaid : Prop := sagaGivenUpUptoRow.holds Try.pinned (OpenSpec.upto sagaGivenUpSpec)

/-- 'packhorselaw14.SagaEnds', WHERE WHAT IT READS IS OF BULK AT MOST 1048576: true; the input reads as it did. -/
def sagaEndsUptoRow : OpenClaim := { program := "ytlggakjfgapppaa", sum := "202d3b36a80852e2514b00a137f1d63176f8360cd86bb22b6a8a43994322ace7", func := "packhorse/packhorselaw14.SagaEnds", spec := "sagaEnds", apart := false, narrowed := true }
def SagaEndsUptoSaid : Prop := sagaEndsUptoRow.holds Try.pinned (OpenSpec.upto sagaEndsSpec)

/-- 'packhorselaw14.SagaUndoes', WHERE WHAT IT READS IS OF BULK AT MOST 1048576: true; the input reads as it did. -/
def sagaUndoesUptoRow : OpenClaim := { program := "ytlggakjfgapppaa", sum := "202d3b36a80852e2514b00a137f1d63176f8360cd86bb22b6a8a43994322ace7", func := "packhorse/packhorselaw14.SagaUndoes", spec := "sagaUndoes", apart := false, narrowed := true }
def SagaUndoesUptoSaid : Prop := sagaUndoesUptoRow.holds Try.pinned (OpenSpec.upto sagaUndoesSpec)

/-- 'packhorselaw14.SagaRefuses', WHERE WHAT IT READS IS OF BULK AT MOST 1048576: true; the input reads as it did. -/
def sagaRefusesUptoRow : OpenClaim := { program := "ytlggakjfgapppaa", sum := "202d3b36a80852e2514b00a137f1d63176f8360cd86bb22b6a8a43994322ace7", func := "packhorse/packhorselaw14.SagaRefuses", spec := "sagaRefuses", apart := false, narrowed := true }
def SagaRefusesUptoSaid : Prop := sagaRefusesUptoRow.holds Try.pinned (OpenSpec.upto sagaRefusesSpec)

end Rows
end Go.Proofs.Ytlggakjfgapppaa
