/-
  No cell of these rows narrows 'for every input' (looked for: loops, veiled, ifaces, maps, wideKeys, modest, calm, conditions, laid).
  DERIVED. THE GIVEN ROWS OF THIS SEAT. 6 by the template 'for every input the law returns true; each argument reads behind the call as it read before'; 0 by the template 'total and deterministic' (their statements: YtciijkognhdddaaTotals.lean).
  GIVEN WITH THE SEED: the statements are not yours to turn. If you find one false, say at which input.
  Laid BY PROGRAM, IN A SANDBOX (cutbox-rows.mjs): the forced cells as the released guide's own fill.sh prints them over the translation 8a669221bec31b81… (all of the seat's roots in one cut). By AI agents, Wed Nov 11 2026. No macro, syntax, notation, axiom, sorry.
-/
import Derived.Test.YtciijkognhdddaaChecked
import GoSem.Claim
import GoSem.ClaimJoined
import GoSem.ClaimMapViews
import Derived.JoinedTies
import Derived.KernelRfl
namespace Go.Proofs.Ytciijkognhdddaa
/- THE CELL 'sum', in the pinned program and in every row, IS THE sha256 OF THE DUMP (.gsa) THAT YtciijkognhdddaaProg.lean LOADS. Nothing in Lean hashes anything: it is a label: what it is worth is what the hold of that sum in a sandbox is worth. -/
noncomputable def Try.pinned : Pinned := { name := "ytciijkognhdddaa", sum := "8a669221bec31b816e88a659218d32de8160ecb50f5b7b8a3e95fb77e38d2912", checked := Try.checked }
namespace Rows
def none {H : Type} : Left H := { results := [], args := [] }

/-- 'packhorselaw13.OutboxNames': WHATEVER THE INPUT: true; the input reads as it did. -/
def outboxNamesSpec : ChangeSpec := { name := "outboxNames", fn := fun _ => fun
  | [] => { results := [.lit (.bool true)], args := [] }
  | _ => none }
def outboxNamesRow : OpenClaim := { program := "ytciijkognhdddaa", sum := "8a669221bec31b816e88a659218d32de8160ecb50f5b7b8a3e95fb77e38d2912", func := "packhorse/packhorselaw13.OutboxNames", spec := "outboxNames", unfollowed := true, recurses := true, apart := false }
def OutboxNamesSaid : Prop := outboxNamesRow.holds Try.pinned (OpenSpec.ofChange outboxNamesSpec)

/-- ITS FALSE NEIGHBOUR: 'it returns false'. Refute it at one input. -/
def outboxNamesWrong : ChangeSpec := { name := "outboxNames", fn := fun _ => fun
  | [] => { results := [.lit (.bool false)], args := [] }
  | _ => none }
def OutboxNamesWrongFalsely : Prop := outboxNamesRow.holds Try.pinned (OpenSpec.ofChange outboxNamesWrong)

/-- 'packhorselaw13.OutboxRuns': WHATEVER THE INPUT: true; the input reads as it did. -/
def outboxRunsSpec : ChangeSpec := { name := "outboxRuns", fn := fun _ => fun
  | [d1, d2] => { results := [.lit (.bool true)], args := [d1, d2] }
  | _ => none }
def outboxRunsRow : OpenClaim := { program := "ytciijkognhdddaa", sum := "8a669221bec31b816e88a659218d32de8160ecb50f5b7b8a3e95fb77e38d2912", func := "packhorse/packhorselaw13.OutboxRuns", spec := "outboxRuns", unfollowed := true, recurses := true, apart := false }
def OutboxRunsSaid : Prop := outboxRunsRow.holds Try.pinned (OpenSpec.ofChange outboxRunsSpec)

/-- ITS FALSE NEIGHBOUR: 'it returns false'. Refute it at one input. -/
def outboxRunsWrong : ChangeSpec := { name := "outboxRuns", fn := fun _ => fun
  | [d1, d2] => { results := [.lit (.bool false)], args := [d1, d2] }
  | _ => none }
def OutboxRunsWrongFalsely : Prop := outboxRunsRow.holds Try.pinned (OpenSpec.ofChange outboxRunsWrong)

/-- 'packhorselaw13.OutboxBytes': WHATEVER THE INPUT: true; the input reads as it did. -/
def outboxBytesSpec : ChangeSpec := { name := "outboxBytes", fn := fun _ => fun
  | [d1, d2] => { results := [.lit (.bool true)], args := [d1, d2] }
  | _ => none }
def outboxBytesRow : OpenClaim := { program := "ytciijkognhdddaa", sum := "8a669221bec31b816e88a659218d32de8160ecb50f5b7b8a3e95fb77e38d2912", func := "packhorse/packhorselaw13.OutboxBytes", spec := "outboxBytes", unfollowed := true, recurses := true, apart := false }
def OutboxBytesSaid : Prop := outboxBytesRow.holds Try.pinned (OpenSpec.ofChange outboxBytesSpec)

/-- ITS FALSE NEIGHBOUR: 'it returns false'. Refute it at one input. -/
def outboxBytesWrong : ChangeSpec := { name := "outboxBytes", fn := fun _ => fun
  | [d1, d2] => { results := [.lit (.bool false)], args := [d1, d2] }
  | _ => none }
def OutboxBytesWrongFalsely : Prop := outboxBytesRow.holds Try.pinned (OpenSpec.ofChange outboxBytesWrong)

/-- 'packhorselaw13.OutboxWaits': WHATEVER THE INPUT: true; the input reads as it did. -/
def outboxWaitsSpec : ChangeSpec := { name := "outboxWaits", fn := fun _ => fun
  | [d1, d2] => { results := [.lit (.bool true)], args := [d1, d2] }
  | _ => none }
def outboxWaitsRow : OpenClaim := { program := "ytciijkognhdddaa", sum := "8a669221bec31b816e88a659218d32de8160ecb50f5b7b8a3e95fb77e38d2912", func := "packhorse/packhorselaw13.OutboxWaits", spec := "outboxWaits", unfollowed := true, recurses := true, apart := false }
def OutboxWaitsSaid : Prop := outboxWaitsRow.holds Try.pinned (OpenSpec.ofChange outboxWaitsSpec)

/-- ITS FALSE NEIGHBOUR: 'it returns false'. Refute it at one input. -/
def outboxWaitsWrong : ChangeSpec := { name := "outboxWaits", fn := fun _ => fun
  | [d1, d2] => { results := [.lit (.bool false)], args := [d1, d2] }
  | _ => none }
def OutboxWaitsWrongFalsely : Prop := outboxWaitsRow.holds Try.pinned (OpenSpec.ofChange outboxWaitsWrong)

/-- 'packhorselaw13.OutboxBack': WHATEVER THE INPUT: true; the input reads as it did. -/
def outboxBackSpec : ChangeSpec := { name := "outboxBack", fn := fun _ => fun
  | [d1, d2, d3] => { results := [.lit (.bool true)], args := [d1, d2, d3] }
  | _ => none }
def outboxBackRow : OpenClaim := { program := "ytciijkognhdddaa", sum := "8a669221bec31b816e88a659218d32de8160ecb50f5b7b8a3e95fb77e38d2912", func := "packhorse/packhorselaw13.OutboxBack", spec := "outboxBack", unfollowed := true, recurses := true, apart := false }
def OutboxBackSaid : Prop := outboxBackRow.holds Try.pinned (OpenSpec.ofChange outboxBackSpec)

/-- ITS FALSE NEIGHBOUR: 'it returns false'. Refute it at one input. -/
def outboxBackWrong : ChangeSpec := { name := "outboxBack", fn := fun _ => fun
  | [d1, d2, d3] => { results := [.lit (.bool false)], args := [d1, d2, d3] }
  | _ => none }
def OutboxBackWrongFalsely : Prop := outboxBackRow.holds Try.pinned (OpenSpec.ofChange outboxBackWrong)

/-- 'packhorselaw13.OutboxCut': WHATEVER THE INPUT: true; the input reads as it did. -/
def outboxCutSpec : ChangeSpec := { name := "outboxCut", fn := fun _ => fun
  | [d1, d2, d3] => { results := [.lit (.bool true)], args := [d1, d2, d3] }
  | _ => none }
def outboxCutRow : OpenClaim := { program := "ytciijkognhdddaa", sum := "8a669221bec31b816e88a659218d32de8160ecb50f5b7b8a3e95fb77e38d2912", func := "packhorse/packhorselaw13.OutboxCut", spec := "outboxCut", unfollowed := true, recurses := true, apart := false }
def OutboxCutSaid : Prop := outboxCutRow.holds Try.pinned (OpenSpec.ofChange outboxCutSpec)

/-- ITS FALSE NEIGHBOUR: 'it returns false'. Refute it at one input. -/
def outboxCutWrong : ChangeSpec := { name := "outboxCut", fn := fun _ => fun
  | [d1, d2, d3] => { results := [.lit (.bool false)], args := [d1, d2, d3] }
  | _ => none }
def OutboxCutWrongFalsely : Prop := outboxCutRow.holds Try.pinned (OpenSpec.ofChange outboxCutWrong)

/- THE SECOND FORM. 'bulk': how many values and letters a reading holds, each counted each time it is reached (what is shared counts as often as it is met; a slice's spare places count too). A statement '..UptoSaid' is the law's where the arguments, and the package variables that the reading takes, are together of bulk at most 1048576: NARROWER than '..Said'. Prove '..Said' where nothing that the law and all that it calls make is longer than what came in: it says more and counts as full. Else prove '..UptoSaid'. A law counts once. -/
mutual
def uptoBulk {H : Type} : DataW H → Nat
  | .lit (.string bytes) => bytes.length + 1
  | .lit _ => 1
  | .nil => 1
  | .ptr d => uptoBulk d + 1
  | .slice elems spare => uptoBulkAll elems + uptoBulkAll spare + 1
  | .agg parts => uptoBulkAll parts + 1
  | .iface _ d => uptoBulk d + 1
  | .map entries => uptoBulkEntries entries + 1
  | .held _ => 1
def uptoBulkAll {H : Type} : List (DataW H) → Nat
  | [] => 0
  | d :: r => uptoBulk d + uptoBulkAll r
def uptoBulkEntries {H : Type} : List (Lit × DataW H) → Nat
  | [] => 0
  | x :: r => uptoBulkEntry x + uptoBulkEntries r
def uptoBulkEntry {H : Type} : Lit × DataW H → Nat
  | (.string bytes, d) => bytes.length + uptoBulk d + 1
  | (_, d) => uptoBulk d + 1
 end
def uptoSmall : (H : Type) → List (DataW H) → Bool := fun _ ds => decide (uptoBulkAll ds ≤ 1048576)
def OpenSpec.upto (s : _root_.Go.ChangeSpec) : _root_.Go.OpenSpec := { _root_.Go.OpenSpec.ofChange s with cond := some uptoSmall }

/-- 'packhorselaw13.OutboxNames', WHERE WHAT IT READS IS OF BULK AT MOST 1048576: true; the input reads as it did. -/
def outboxNamesUptoRow : OpenClaim := { program := "ytciijkognhdddaa", sum := "8a669221bec31b816e88a659218d32de8160ecb50f5b7b8a3e95fb77e38d2912", func := "packhorse/packhorselaw13.OutboxNames", spec := "outboxNames", unfollowed := true, recurses := true, apart := false, narrowed := true }
def OutboxNamesUptoSaid : Prop := outboxNamesUptoRow.holds Try.pinned (OpenSpec.upto outboxNamesSpec)

/-- 'packhorselaw13.OutboxRuns', WHERE WHAT IT READS IS OF BULK AT MOST 1048576: true; the input reads as it did. -/
def outboxRunsUptoRow : OpenClaim := { program := "ytciijkognhdddaa", sum := "8a669221bec31b816e88a659218d32de8160ecb50f5b7b8a3e95fb77e38d2912", func := "packhorse/packhorselaw13.OutboxRuns", spec := "outboxRuns", unfollowed := true, recurses := true, apart := false, narrowed := true }
def OutboxRunsUptoSaid : Prop := outboxRunsUptoRow.holds Try.pinned (OpenSpec.upto outboxRunsSpec)

/-- 'packhorselaw13.OutboxBytes', WHERE WHAT IT READS IS OF BULK AT MOST 1048576: true; the input reads as it did. -/
def outboxBytesUptoRow : OpenClaim := { program := "ytciijkognhdddaa", sum := "8a669221bec31b816e88a659218d32de8160ecb50f5b7b8a3e95fb77e38d2912", func := "packhorse/packhorselaw13.OutboxBytes", spec := "outboxBytes", unfollowed := true, recurses := true, apart := false, narrowed := true }
def OutboxBytesUptoSaid : Prop := outboxBytesUptoRow.holds Try.pinned (OpenSpec.upto outboxBytesSpec)

/-- 'packhorselaw13.OutboxWaits', WHERE WHAT IT READS IS OF BULK AT MOST 1048576: true; the input reads as it did. -/
def outboxWaitsUptoRow : OpenClaim := { program := "ytciijkognhdddaa", sum := "8a669221bec31b816e88a659218d32de8160ecb50f5b7b8a3e95fb77e38d2912", func := "packhorse/packhorselaw13.OutboxWaits", spec := "outboxWaits", unfollowed := true, recurses := true, apart := false, narrowed := true }
def OutboxWaitsUptoSaid : Prop := outboxWaitsUptoRow.holds Try.pinned (OpenSpec.upto outboxWaitsSpec)

/-- 'packhorselaw13.OutboxBack', WHERE WHAT IT READS IS OF BULK AT MOST 1048576: true; the input reads as it did. -/
def outboxBackUptoRow : OpenClaim := { program := "ytciijkognhdddaa", sum := "8a669221bec31b816e88a659218d32de8160ecb50f5b7b8a3e95fb77e38d2912", func := "packhorse/packhorselaw13.OutboxBack", spec := "outboxBack", unfollowed := true, recurses := true, apart := false, narrowed := true }
def OutboxBackUptoSaid : Prop := outboxBackUptoRow.holds Try.pinned (OpenSpec.upto outboxBackSpec)

/-- 'packhorselaw13.OutboxCut', WHERE WHAT IT READS IS OF BULK AT MOST 1048576: true; the input reads as it did. -/
def outboxCutUptoRow : OpenClaim := { program := "ytciijkognhdddaa", sum := "8a669221bec31b816e88a659218d32de8160ecb50f5b7b8a3e95fb77e38d2912", func := "packhorse/packhorselaw13.OutboxCut", spec := "outboxCut", unfollowed := true, recurses := true, apart := false, narrowed := true }
def OutboxCutUptoSaid : Prop := outboxCutUptoRow.holds Try.pinned (OpenSpec.upto outboxCutSpec)

end Rows
end Go.Proofs.Ytciijkognhdddaa
