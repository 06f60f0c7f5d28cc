/-
  NARROWER THAN 'FOR EVERY INPUT', by the rows' own cells (each row's printed sentence says how): SnapNames: laid · SnapCommands: laid · SnapTold: laid · SnapStates: laid · SnapReads: laid · SnapApart: laid · SnapCut: laid.
  DERIVED. THE GIVEN ROWS OF THIS SEAT. 7 by the template 'for every input the law returns true; each argument reads behind the call as it read before'; 0 by the template 'total and deterministic' (their statements: YtfmpibmhhfmajaaGreatDoorTotals.lean).
  GIVEN WITH THE SEED: the statements are not yours to turn. If you find one false, say at which input.
  Laid BY PROGRAM, IN A SANDBOX (cutbox-rows.mjs): the forced cells as the released guide's own fill.sh prints them over the translation 0c17bad3de2ba510… (all of the seat's roots in one cut). By AI agents, Wed Nov 11 2026. No macro, syntax, notation, axiom, sorry.
-/
import Derived.Test.YtfmpibmhhfmajaaGreatDoorChecked
import GoSem.Claim
import GoSem.ClaimJoined
import GoSem.ClaimMapViews
import Derived.JoinedTies
import Derived.KernelRfl
namespace Go.Proofs.YtfmpibmhhfmajaaGreatDoor
/- THE CELL 'sum', in the pinned program and in every row, IS THE sha256 OF THE DUMP (.gsa) THAT YtfmpibmhhfmajaaGreatDoorProg.lean LOADS. Nothing in Lean hashes anything: it is a label: what it is worth is what the hold of that sum in a sandbox is worth. -/
noncomputable def Tryz.pinned : Pinned := { name := "ytfmpibmhhfmajaagreatdoor", sum := "0c17bad3de2ba5100e4ef70eba35e010a504a8376a9f816869ca8fd6fce92b53", checked := Tryz.checked }
namespace Rows
def none {H : Type} : Left H := { results := [], args := [] }

/- WHAT THE LISTED PACKAGE-LEVEL VARIABLES READ AS WHEN THE CALL BEGINS. Each datum BY PROGRAM (the guide's laid-datum.mjs) off the statement by which the dump's own 'gosem.cut.vars' lays the variable. In a bare row this is a premise. The card (YtfmpibmhhfmajaaGreatDoorCards.lean) ties it to the program's text. -/
def laid_packhorse_snap_kinds {H : Type} : DataW H := .agg [.agg [.lit (.bool false), .lit (.bool false), .lit (.bool false), .lit (.bool false), .lit (.bool false), .lit (.int .i64 0)], .agg [.lit (.bool true), .lit (.bool true), .lit (.bool true), .lit (.bool true), .lit (.bool false), .lit (.int .i64 0)], .agg [.lit (.bool true), .lit (.bool false), .lit (.bool false), .lit (.bool false), .lit (.bool false), .lit (.int .i64 0)], .agg [.lit (.bool true), .lit (.bool false), .lit (.bool true), .lit (.bool false), .lit (.bool false), .lit (.int .i64 0)], .agg [.lit (.bool false), .lit (.bool false), .lit (.bool false), .lit (.bool false), .lit (.bool false), .lit (.int .i64 96)], .agg [.lit (.bool false), .lit (.bool false), .lit (.bool false), .lit (.bool false), .lit (.bool true), .lit (.int .i64 1000000000000)], .agg [.lit (.bool false), .lit (.bool false), .lit (.bool false), .lit (.bool false), .lit (.bool false), .lit (.int .i64 0)], .agg [.lit (.bool false), .lit (.bool false), .lit (.bool false), .lit (.bool false), .lit (.bool false), .lit (.int .i64 0)], .agg [.lit (.bool true), .lit (.bool false), .lit (.bool false), .lit (.bool false), .lit (.bool false), .lit (.int .i64 0)]]

/-- 'packhorselaw16.SnapNames': WHATEVER THE INPUT: true; the input reads as it did. -/
def snapNamesSpec : ChangeSpec := { name := "snapNames", fn := fun _ => fun
  | [] => { results := [.lit (.bool true)], args := [] }
  | _ => none }
def snapNamesRow : OpenClaim := { program := "ytfmpibmhhfmajaagreatdoor", sum := "0c17bad3de2ba5100e4ef70eba35e010a504a8376a9f816869ca8fd6fce92b53", func := "packhorse/packhorselaw16.SnapNames", spec := "snapNames", inPlace := ["internal/bytealg.abigen_runtime_cmpstring", "slices.overlaps[int]"], unfollowed := true, recurses := true, named := ["packhorse/snap.kinds"], plainKeys := false, apart := false, laid := [("packhorse/snap.kinds", laid_packhorse_snap_kinds)] }
def SnapNamesSaid : Prop := snapNamesRow.holds Tryz.pinned (OpenSpec.ofChange snapNamesSpec)

/-- ITS FALSE NEIGHBOUR: 'it returns false'. Refute it at one input. -/
def snapNamesWrong : ChangeSpec := { name := "snapNames", fn := fun _ => fun
  | [] => { results := [.lit (.bool false)], args := [] }
  | _ => none }
def SnapNamesWrongFalsely : Prop := snapNamesRow.holds Tryz.pinned (OpenSpec.ofChange snapNamesWrong)

/-- 'packhorselaw16.SnapCommands': WHATEVER THE INPUT: true; the input reads as it did. -/
def snapCommandsSpec : ChangeSpec := { name := "snapCommands", fn := fun _ => fun
  | [d1, d2] => { results := [.lit (.bool true)], args := [d1, d2] }
  | _ => none }
def snapCommandsRow : OpenClaim := { program := "ytfmpibmhhfmajaagreatdoor", sum := "0c17bad3de2ba5100e4ef70eba35e010a504a8376a9f816869ca8fd6fce92b53", func := "packhorse/packhorselaw16.SnapCommands", spec := "snapCommands", inPlace := ["slices.overlaps[int]", "internal/bytealg.abigen_runtime_cmpstring"], unfollowed := true, recurses := true, named := ["packhorse/snap.kinds"], plainKeys := false, apart := false, laid := [("packhorse/snap.kinds", laid_packhorse_snap_kinds)] }
def SnapCommandsSaid : Prop := snapCommandsRow.holds Tryz.pinned (OpenSpec.ofChange snapCommandsSpec)

/-- ITS FALSE NEIGHBOUR: 'it returns false'. Refute it at one input. -/
def snapCommandsWrong : ChangeSpec := { name := "snapCommands", fn := fun _ => fun
  | [d1, d2] => { results := [.lit (.bool false)], args := [d1, d2] }
  | _ => none }
def SnapCommandsWrongFalsely : Prop := snapCommandsRow.holds Tryz.pinned (OpenSpec.ofChange snapCommandsWrong)

/-- 'packhorselaw16.SnapTold': WHATEVER THE INPUT: true; the input reads as it did. -/
def snapToldSpec : ChangeSpec := { name := "snapTold", fn := fun _ => fun
  | [d] => { results := [.lit (.bool true)], args := [d] }
  | _ => none }
def snapToldRow : OpenClaim := { program := "ytfmpibmhhfmajaagreatdoor", sum := "0c17bad3de2ba5100e4ef70eba35e010a504a8376a9f816869ca8fd6fce92b53", func := "packhorse/packhorselaw16.SnapTold", spec := "snapTold", inPlace := ["slices.overlaps[int]", "internal/bytealg.abigen_runtime_cmpstring"], unfollowed := true, recurses := true, named := ["packhorse/snap.kinds"], plainKeys := false, apart := false, laid := [("packhorse/snap.kinds", laid_packhorse_snap_kinds)] }
def SnapToldSaid : Prop := snapToldRow.holds Tryz.pinned (OpenSpec.ofChange snapToldSpec)

/-- ITS FALSE NEIGHBOUR: 'it returns false'. Refute it at one input. -/
def snapToldWrong : ChangeSpec := { name := "snapTold", fn := fun _ => fun
  | [d] => { results := [.lit (.bool false)], args := [d] }
  | _ => none }
def SnapToldWrongFalsely : Prop := snapToldRow.holds Tryz.pinned (OpenSpec.ofChange snapToldWrong)

/-- 'packhorselaw16.SnapStates': WHATEVER THE INPUT: true; the input reads as it did. -/
def snapStatesSpec : ChangeSpec := { name := "snapStates", fn := fun _ => fun
  | [d] => { results := [.lit (.bool true)], args := [d] }
  | _ => none }
def snapStatesRow : OpenClaim := { program := "ytfmpibmhhfmajaagreatdoor", sum := "0c17bad3de2ba5100e4ef70eba35e010a504a8376a9f816869ca8fd6fce92b53", func := "packhorse/packhorselaw16.SnapStates", spec := "snapStates", inPlace := ["slices.overlaps[int]", "internal/bytealg.abigen_runtime_cmpstring"], unfollowed := true, recurses := true, named := ["packhorse/snap.kinds"], plainKeys := false, apart := false, laid := [("packhorse/snap.kinds", laid_packhorse_snap_kinds)] }
def SnapStatesSaid : Prop := snapStatesRow.holds Tryz.pinned (OpenSpec.ofChange snapStatesSpec)

/-- ITS FALSE NEIGHBOUR: 'it returns false'. Refute it at one input. -/
def snapStatesWrong : ChangeSpec := { name := "snapStates", fn := fun _ => fun
  | [d] => { results := [.lit (.bool false)], args := [d] }
  | _ => none }
def SnapStatesWrongFalsely : Prop := snapStatesRow.holds Tryz.pinned (OpenSpec.ofChange snapStatesWrong)

/-- 'packhorselaw16.SnapReads': WHATEVER THE INPUT: true; the input reads as it did. -/
def snapReadsSpec : ChangeSpec := { name := "snapReads", fn := fun _ => fun
  | [d] => { results := [.lit (.bool true)], args := [d] }
  | _ => none }
def snapReadsRow : OpenClaim := { program := "ytfmpibmhhfmajaagreatdoor", sum := "0c17bad3de2ba5100e4ef70eba35e010a504a8376a9f816869ca8fd6fce92b53", func := "packhorse/packhorselaw16.SnapReads", spec := "snapReads", inPlace := ["slices.overlaps[int]", "internal/bytealg.abigen_runtime_cmpstring"], unfollowed := true, recurses := true, named := ["packhorse/snap.kinds"], plainKeys := false, apart := false, laid := [("packhorse/snap.kinds", laid_packhorse_snap_kinds)] }
def SnapReadsSaid : Prop := snapReadsRow.holds Tryz.pinned (OpenSpec.ofChange snapReadsSpec)

/-- ITS FALSE NEIGHBOUR: 'it returns false'. Refute it at one input. -/
def snapReadsWrong : ChangeSpec := { name := "snapReads", fn := fun _ => fun
  | [d] => { results := [.lit (.bool false)], args := [d] }
  | _ => none }
def SnapReadsWrongFalsely : Prop := snapReadsRow.holds Tryz.pinned (OpenSpec.ofChange snapReadsWrong)

/-- 'packhorselaw16.SnapApart': WHATEVER THE INPUT: true; the input reads as it did. -/
def snapApartSpec : ChangeSpec := { name := "snapApart", fn := fun _ => fun
  | [d1, d2] => { results := [.lit (.bool true)], args := [d1, d2] }
  | _ => none }
def snapApartRow : OpenClaim := { program := "ytfmpibmhhfmajaagreatdoor", sum := "0c17bad3de2ba5100e4ef70eba35e010a504a8376a9f816869ca8fd6fce92b53", func := "packhorse/packhorselaw16.SnapApart", spec := "snapApart", inPlace := ["slices.overlaps[int]", "internal/bytealg.abigen_runtime_cmpstring"], unfollowed := true, recurses := true, named := ["packhorse/snap.kinds"], plainKeys := false, apart := false, laid := [("packhorse/snap.kinds", laid_packhorse_snap_kinds)] }
def SnapApartSaid : Prop := snapApartRow.holds Tryz.pinned (OpenSpec.ofChange snapApartSpec)

/-- ITS FALSE NEIGHBOUR: 'it returns false'. Refute it at one input. -/
def snapApartWrong : ChangeSpec := { name := "snapApart", fn := fun _ => fun
  | [d1, d2] => { results := [.lit (.bool false)], args := [d1, d2] }
  | _ => none }
def SnapApartWrongFalsely : Prop := snapApartRow.holds Tryz.pinned (OpenSpec.ofChange snapApartWrong)

/-- 'packhorselaw16.SnapCut': WHATEVER THE INPUT: true; the input reads as it did. -/
def snapCutSpec : ChangeSpec := { name := "snapCut", fn := fun _ => fun
  | [d1, d2, d3] => { results := [.lit (.bool true)], args := [d1, d2, d3] }
  | _ => none }
def snapCutRow : OpenClaim := { program := "ytfmpibmhhfmajaagreatdoor", sum := "0c17bad3de2ba5100e4ef70eba35e010a504a8376a9f816869ca8fd6fce92b53", func := "packhorse/packhorselaw16.SnapCut", spec := "snapCut", inPlace := ["slices.overlaps[int]", "internal/bytealg.abigen_runtime_cmpstring"], unfollowed := true, recurses := true, named := ["packhorse/snap.kinds"], plainKeys := false, apart := false, laid := [("packhorse/snap.kinds", laid_packhorse_snap_kinds)] }
def SnapCutSaid : Prop := snapCutRow.holds Tryz.pinned (OpenSpec.ofChange snapCutSpec)

/-- ITS FALSE NEIGHBOUR: 'it returns false'. Refute it at one input. -/
def snapCutWrong : ChangeSpec := { name := "snapCut", fn := fun _ => fun
  | [d1, d2, d3] => { results := [.lit (.bool false)], args := [d1, d2, d3] }
  | _ => none }
def SnapCutWrongFalsely : Prop := snapCutRow.holds Tryz.pinned (OpenSpec.ofChange snapCutWrong)

/- THE SECOND FORM. 'bulk': how many values and letters a reading holds, each counted each time it is reached (what is shared counts as often as it is met; a slice's spare places count too). A statement '..UptoSaid' is the law's where the arguments, and the package variables that the reading takes, are together of bulk at most 1048576: NARROWER than '..Said'. Prove '..Said' where nothing that the law and all that it calls make is longer than what came in: it says more and counts as full. Else prove '..UptoSaid'. A law counts once. -/
mutual
def uptoBulk {H : Type} : DataW H → Nat
  | .lit (.string bytes) => bytes.length + 1
  | .lit _ => 1
  | .nil => 1
  | .ptr d => uptoBulk d + 1
  | .slice elems spare => uptoBulkAll elems + uptoBulkAll spare + 1
  | .agg parts => uptoBulkAll parts + 1
  | .iface _ d => uptoBulk d + 1
  | .map entries => uptoBulkEntries entries + 1
  | .held _ => 1
def uptoBulkAll {H : Type} : List (DataW H) → Nat
  | [] => 0
  | d :: r => uptoBulk d + uptoBulkAll r
def uptoBulkEntries {H : Type} : List (Lit × DataW H) → Nat
  | [] => 0
  | x :: r => uptoBulkEntry x + uptoBulkEntries r
def uptoBulkEntry {H : Type} : Lit × DataW H → Nat
  | (.string bytes, d) => bytes.length + uptoBulk d + 1
  | (_, d) => uptoBulk d + 1
 end
def uptoSmall : (H : Type) → List (DataW H) → Bool := fun _ ds => decide (uptoBulkAll ds ≤ 1048576)
def OpenSpec.upto (s : _root_.Go.ChangeSpec) : _root_.Go.OpenSpec := { _root_.Go.OpenSpec.ofChange s with cond := some uptoSmall }

/-- 'packhorselaw16.SnapNames', WHERE WHAT IT READS IS OF BULK AT MOST 1048576: true; the input reads as it did. -/
def snapNamesUptoRow : OpenClaim := { program := "ytfmpibmhhfmajaagreatdoor", sum := "0c17bad3de2ba5100e4ef70eba35e010a504a8376a9f816869ca8fd6fce92b53", func := "packhorse/packhorselaw16.SnapNames", spec := "snapNames", inPlace := ["internal/bytealg.abigen_runtime_cmpstring", "slices.overlaps[int]"], unfollowed := true, recurses := true, named := ["packhorse/snap.kinds"], plainKeys := false, apart := false, laid := [("packhorse/snap.kinds", laid_packhorse_snap_kinds)], narrowed := true }
def SnapNamesUptoSaid : Prop := snapNamesUptoRow.holds Tryz.pinned (OpenSpec.upto snapNamesSpec)

/-- 'packhorselaw16.SnapCommands', WHERE WHAT IT READS IS OF BULK AT MOST 1048576: true; the input reads as it did. -/
def snapCommandsUptoRow : OpenClaim := { program := "ytfmpibmhhfmajaagreatdoor", sum := "0c17bad3de2ba5100e4ef70eba35e010a504a8376a9f816869ca8fd6fce92b53", func := "packhorse/packhorselaw16.SnapCommands", spec := "snapCommands", inPlace := ["slices.overlaps[int]", "internal/bytealg.abigen_runtime_cmpstring"], unfollowed := true, recurses := true, named := ["packhorse/snap.kinds"], plainKeys := false, apart := false, laid := [("packhorse/snap.kinds", laid_packhorse_snap_kinds)], narrowed := true }
def SnapCommandsUptoSaid : Prop := snapCommandsUptoRow.holds Tryz.pinned (OpenSpec.upto snapCommandsSpec)

/-- 'packhorselaw16.SnapTold', WHERE WHAT IT READS IS OF BULK AT MOST 1048576: true; the input reads as it did. -/
def snapToldUptoRow : OpenClaim := { program := "ytfmpibmhhfmajaagreatdoor", sum := "0c17bad3de2ba5100e4ef70eba35e010a504a8376a9f816869ca8fd6fce92b53", func := "packhorse/packhorselaw16.SnapTold", spec := "snapTold", inPlace := ["slices.overlaps[int]", "internal/bytealg.abigen_runtime_cmpstring"], unfollowed := true, recurses := true, named := ["packhorse/snap.kinds"], plainKeys := false, apart := false, laid := [("packhorse/snap.kinds", laid_packhorse_snap_kinds)], narrowed := true }
def SnapToldUptoSaid : Prop := snapToldUptoRow.holds Tryz.pinned (OpenSpec.upto snapToldSpec)

/-- 'packhorselaw16.SnapStates', WHERE WHAT IT READS IS OF BULK AT MOST 1048576: true; the input reads as it did. -/
def snapStatesUptoRow : OpenClaim := { program := "ytfmpibmhhfmajaagreatdoor", sum := "0c17bad3de2ba5100e4ef70eba35e010a504a8376a9f816869ca8fd6fce92b53", func := "packhorse/packhorselaw16.SnapStates", spec := "snapStates", inPlace := ["slices.overlaps[int]", "internal/bytealg.abigen_runtime_cmpstring"], unfollowed := true, recurses := true, named := ["packhorse/snap.kinds"], plainKeys := false, apart := false, laid := [("packhorse/snap.kinds", laid_packhorse_snap_kinds)], narrowed := true }
def SnapStatesUptoSaid : Prop := snapStatesUptoRow.holds Tryz.pinned (OpenSpec.upto snapStatesSpec)

/-- 'packhorselaw16.SnapReads', WHERE WHAT IT READS IS OF BULK AT MOST 1048576: true; the input reads as it did. -/
def snapReadsUptoRow : OpenClaim := { program := "ytfmpibmhhfmajaagreatdoor", sum := "0c17bad3de2ba5100e4ef70eba35e010a504a8376a9f816869ca8fd6fce92b53", func := "packhorse/packhorselaw16.SnapReads", spec := "snapReads", inPlace := ["slices.overlaps[int]", "internal/bytealg.abigen_runtime_cmpstring"], unfollowed := true, recurses := true, named := ["packhorse/snap.kinds"], plainKeys := false, apart := false, laid := [("packhorse/snap.kinds", laid_packhorse_snap_kinds)], narrowed := true }
def SnapReadsUptoSaid : Prop := snapReadsUptoRow.holds Tryz.pinned (OpenSpec.upto snapReadsSpec)

/-- 'packhorselaw16.SnapApart', WHERE WHAT IT READS IS OF BULK AT MOST 1048576: true; the input reads as it did. -/
def snapApartUptoRow : OpenClaim := { program := "ytfmpibmhhfmajaagreatdoor", sum := "0c17bad3de2ba5100e4ef70eba35e010a504a8376a9f816869ca8fd6fce92b53", func := "packhorse/packhorselaw16.SnapApart", spec := "snapApart", inPlace := ["slices.overlaps[int]", "internal/bytealg.abigen_runtime_cmpstring"], unfollowed := true, recurses := true, named := ["packhorse/snap.kinds"], plainKeys := false, apart := false, laid := [("packhorse/snap.kinds", laid_packhorse_snap_kinds)], narrowed := true }
def SnapApartUptoSaid : Prop := snapApartUptoRow.holds Tryz.pinned (OpenSpec.upto snapApartSpec)

/-- 'packhorselaw16.SnapCut', WHERE WHAT IT READS IS OF BULK AT MOST 1048576: true; the input reads as it did. -/
def snapCutUptoRow : OpenClaim := { program := "ytfmpibmhhfmajaagreatdoor", sum := "0c17bad3de2ba5100e4ef70eba35e010a504a8376a9f816869ca8fd6fce92b53", func := "packhorse/packhorselaw16.SnapCut", spec := "snapCut", inPlace := ["slices.overlaps[int]", "internal/bytealg.abigen_runtime_cmpstring"], unfollowed := true, recurses := true, named := ["packhorse/snap.kinds"], plainKeys := false, apart := false, laid := [("packhorse/snap.kinds", laid_packhorse_snap_kinds)], narrowed := true }
def SnapCutUptoSaid : Prop := snapCutUptoRow.holds Tryz.pinned (OpenSpec.upto snapCutSpec)

end Rows
end Go.Proofs.YtfmpibmhhfmajaaGreatDoor
