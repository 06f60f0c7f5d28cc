/-
  No cell of these rows narrows 'for every input' (looked for: loops, veiled, ifaces, maps, wideKeys, modest, calm, conditions, laid).
  DERIVED. THE GIVEN ROWS OF THIS SEAT. 7 by the template 'for every input the law returns true; each argument reads behind the call as it read before'; 0 by the template 'total and deterministic' (their statements: YtbhknaggbenfnaaTotals.lean).
  GIVEN WITH THE SEED: the statements are not yours to turn. If you find one false, say at which input.
  Laid BY PROGRAM, IN A SANDBOX (cutbox-rows.mjs): the forced cells as the released guide's own fill.sh prints them over the translation 38cd780f2c1d6f8d… (all of the seat's roots in one cut). By AI agents, Wed Nov 11 2026. No macro, syntax, notation, axiom, sorry.
-/
import Derived.Test.YtbhknaggbenfnaaChecked
import GoSem.Claim
import GoSem.ClaimJoined
import GoSem.ClaimMapViews
import Derived.JoinedTies
import Derived.KernelRfl
namespace Go.Proofs.Ytbhknaggbenfnaa
/- THE CELL 'sum', in the pinned program and in every row, IS THE sha256 OF THE DUMP (.gsa) THAT YtbhknaggbenfnaaProg.lean LOADS. Nothing in Lean hashes anything: it is a label: what it is worth is what the hold of that sum in a sandbox is worth. -/
noncomputable def Try.pinned : Pinned := { name := "ytbhknaggbenfnaa", sum := "38cd780f2c1d6f8de97de10af94f4dbcaa336a57fea9d9d9c936e7e506229abc", checked := Try.checked }
namespace Rows
def none {H : Type} : Left H := { results := [], args := [] }

/-- 'packhorselaw12.HalvesNames': WHATEVER THE INPUT: true; the input reads as it did. -/
def halvesNamesSpec : ChangeSpec := { name := "halvesNames", fn := fun _ => fun
  | [] => { results := [.lit (.bool true)], args := [] }
  | _ => none }
def halvesNamesRow : OpenClaim := { program := "ytbhknaggbenfnaa", sum := "38cd780f2c1d6f8de97de10af94f4dbcaa336a57fea9d9d9c936e7e506229abc", func := "packhorse/packhorselaw12.HalvesNames", spec := "halvesNames", apart := false }
def HalvesNamesSaid : Prop := halvesNamesRow.holds Try.pinned (OpenSpec.ofChange halvesNamesSpec)

/-- ITS FALSE NEIGHBOUR: 'it returns false'. Refute it at one input. -/
def halvesNamesWrong : ChangeSpec := { name := "halvesNames", fn := fun _ => fun
  | [] => { results := [.lit (.bool false)], args := [] }
  | _ => none }
def HalvesNamesWrongFalsely : Prop := halvesNamesRow.holds Try.pinned (OpenSpec.ofChange halvesNamesWrong)

/-- 'packhorselaw12.HalvesRuns': WHATEVER THE INPUT: true; the input reads as it did. -/
def halvesRunsSpec : ChangeSpec := { name := "halvesRuns", fn := fun _ => fun
  | [d1, d2] => { results := [.lit (.bool true)], args := [d1, d2] }
  | _ => none }
def halvesRunsRow : OpenClaim := { program := "ytbhknaggbenfnaa", sum := "38cd780f2c1d6f8de97de10af94f4dbcaa336a57fea9d9d9c936e7e506229abc", func := "packhorse/packhorselaw12.HalvesRuns", spec := "halvesRuns", apart := false }
def HalvesRunsSaid : Prop := halvesRunsRow.holds Try.pinned (OpenSpec.ofChange halvesRunsSpec)

/-- ITS FALSE NEIGHBOUR: 'it returns false'. Refute it at one input. -/
def halvesRunsWrong : ChangeSpec := { name := "halvesRuns", fn := fun _ => fun
  | [d1, d2] => { results := [.lit (.bool false)], args := [d1, d2] }
  | _ => none }
def HalvesRunsWrongFalsely : Prop := halvesRunsRow.holds Try.pinned (OpenSpec.ofChange halvesRunsWrong)

/-- 'packhorselaw12.HalvesBound': WHATEVER THE INPUT: true; the input reads as it did. -/
def halvesBoundSpec : ChangeSpec := { name := "halvesBound", fn := fun _ => fun
  | [d1, d2] => { results := [.lit (.bool true)], args := [d1, d2] }
  | _ => none }
def halvesBoundRow : OpenClaim := { program := "ytbhknaggbenfnaa", sum := "38cd780f2c1d6f8de97de10af94f4dbcaa336a57fea9d9d9c936e7e506229abc", func := "packhorse/packhorselaw12.HalvesBound", spec := "halvesBound", apart := false }
def HalvesBoundSaid : Prop := halvesBoundRow.holds Try.pinned (OpenSpec.ofChange halvesBoundSpec)

/-- ITS FALSE NEIGHBOUR: 'it returns false'. Refute it at one input. -/
def halvesBoundWrong : ChangeSpec := { name := "halvesBound", fn := fun _ => fun
  | [d1, d2] => { results := [.lit (.bool false)], args := [d1, d2] }
  | _ => none }
def HalvesBoundWrongFalsely : Prop := halvesBoundRow.holds Try.pinned (OpenSpec.ofChange halvesBoundWrong)

/-- 'packhorselaw12.HalvesFinds': WHATEVER THE INPUT: true; the input reads as it did. -/
def halvesFindsSpec : ChangeSpec := { name := "halvesFinds", fn := fun _ => fun
  | [d1, d2] => { results := [.lit (.bool true)], args := [d1, d2] }
  | _ => none }
def halvesFindsRow : OpenClaim := { program := "ytbhknaggbenfnaa", sum := "38cd780f2c1d6f8de97de10af94f4dbcaa336a57fea9d9d9c936e7e506229abc", func := "packhorse/packhorselaw12.HalvesFinds", spec := "halvesFinds", apart := false }
def HalvesFindsSaid : Prop := halvesFindsRow.holds Try.pinned (OpenSpec.ofChange halvesFindsSpec)

/-- ITS FALSE NEIGHBOUR: 'it returns false'. Refute it at one input. -/
def halvesFindsWrong : ChangeSpec := { name := "halvesFinds", fn := fun _ => fun
  | [d1, d2] => { results := [.lit (.bool false)], args := [d1, d2] }
  | _ => none }
def HalvesFindsWrongFalsely : Prop := halvesFindsRow.holds Try.pinned (OpenSpec.ofChange halvesFindsWrong)

/-- 'packhorselaw12.HalvesSplits': WHATEVER THE INPUT: true; the input reads as it did. -/
def halvesSplitsSpec : ChangeSpec := { name := "halvesSplits", fn := fun _ => fun
  | [d] => { results := [.lit (.bool true)], args := [d] }
  | _ => none }
def halvesSplitsRow : OpenClaim := { program := "ytbhknaggbenfnaa", sum := "38cd780f2c1d6f8de97de10af94f4dbcaa336a57fea9d9d9c936e7e506229abc", func := "packhorse/packhorselaw12.HalvesSplits", spec := "halvesSplits", apart := false }
def HalvesSplitsSaid : Prop := halvesSplitsRow.holds Try.pinned (OpenSpec.ofChange halvesSplitsSpec)

/-- ITS FALSE NEIGHBOUR: 'it returns false'. Refute it at one input. -/
def halvesSplitsWrong : ChangeSpec := { name := "halvesSplits", fn := fun _ => fun
  | [d] => { results := [.lit (.bool false)], args := [d] }
  | _ => none }
def HalvesSplitsWrongFalsely : Prop := halvesSplitsRow.holds Try.pinned (OpenSpec.ofChange halvesSplitsWrong)

/-- 'packhorselaw12.HalvesOne': WHATEVER THE INPUT: true; the input reads as it did. -/
def halvesOneSpec : ChangeSpec := { name := "halvesOne", fn := fun _ => fun
  | [d1, d2] => { results := [.lit (.bool true)], args := [d1, d2] }
  | _ => none }
def halvesOneRow : OpenClaim := { program := "ytbhknaggbenfnaa", sum := "38cd780f2c1d6f8de97de10af94f4dbcaa336a57fea9d9d9c936e7e506229abc", func := "packhorse/packhorselaw12.HalvesOne", spec := "halvesOne", apart := false }
def HalvesOneSaid : Prop := halvesOneRow.holds Try.pinned (OpenSpec.ofChange halvesOneSpec)

/-- ITS FALSE NEIGHBOUR: 'it returns false'. Refute it at one input. -/
def halvesOneWrong : ChangeSpec := { name := "halvesOne", fn := fun _ => fun
  | [d1, d2] => { results := [.lit (.bool false)], args := [d1, d2] }
  | _ => none }
def HalvesOneWrongFalsely : Prop := halvesOneRow.holds Try.pinned (OpenSpec.ofChange halvesOneWrong)

/-- 'packhorselaw12.HalvesAll': WHATEVER THE INPUT: true; the input reads as it did. -/
def halvesAllSpec : ChangeSpec := { name := "halvesAll", fn := fun _ => fun
  | [d1, d2] => { results := [.lit (.bool true)], args := [d1, d2] }
  | _ => none }
def halvesAllRow : OpenClaim := { program := "ytbhknaggbenfnaa", sum := "38cd780f2c1d6f8de97de10af94f4dbcaa336a57fea9d9d9c936e7e506229abc", func := "packhorse/packhorselaw12.HalvesAll", spec := "halvesAll", apart := false }
def HalvesAllSaid : Prop := halvesAllRow.holds Try.pinned (OpenSpec.ofChange halvesAllSpec)

/-- ITS FALSE NEIGHBOUR: 'it returns false'. Refute it at one input. -/
def halvesAllWrong : ChangeSpec := { name := "halvesAll", fn := fun _ => fun
  | [d1, d2] => { results := [.lit (.bool false)], args := [d1, d2] }
  | _ => none }
def HalvesAllWrongFalsely : Prop := halvesAllRow.holds Try.pinned (OpenSpec.ofChange halvesAllWrong)

/- THE SECOND FORM. 'bulk': how many values and letters a reading holds, each counted each time it is reached (what is shared counts as often as it is met; a slice's spare places count too). A statement '..UptoSaid' is the law's where the arguments, and the package variables that the reading takes, are together of bulk at most 1048576: NARROWER than '..Said'. Prove '..Said' where nothing that the law and all that it calls make is longer than what came in: it says more and counts as full. Else prove '..UptoSaid'. A law counts once. -/
mutual
def uptoBulk {H : Type} : DataW H → Nat
  | .lit (.string bytes) => bytes.length + 1
  | .lit _ => 1
  | .nil => 1
  | .ptr d => uptoBulk d + 1
  | .slice elems spare => uptoBulkAll elems + uptoBulkAll spare + 1
  | .agg parts => uptoBulkAll parts + 1
  | .iface _ d => uptoBulk d + 1
  | .map entries => uptoBulkEntries entries + 1
  | .held _ => 1
def uptoBulkAll {H : Type} : List (DataW H) → Nat
  | [] => 0
  | d :: r => uptoBulk d + uptoBulkAll r
def uptoBulkEntries {H : Type} : List (Lit × DataW H) → Nat
  | [] => 0
  | x :: r => uptoBulkEntry x + uptoBulkEntries r
def uptoBulkEntry {H : Type} : Lit × DataW H → Nat
  | (.string bytes, d) => bytes.length + uptoBulk d + 1
  | (_, d) => uptoBulk d + 1
 end
def uptoSmall : (H : Type) → List (DataW H) → Bool := fun _ ds => decide (uptoBulkAll ds ≤ 1048576)
def OpenSpec.upto (s : _root_.Go.ChangeSpec) : _root_.Go.OpenSpec := { _root_.Go.OpenSpec.ofChange s with cond := some uptoSmall }

/-- 'packhorselaw12.HalvesNames', WHERE WHAT IT READS IS OF BULK AT MOST 1048576: true; the input reads as it did. -/
def halvesNamesUptoRow : OpenClaim := { program := "ytbhknaggbenfnaa", sum := "38cd780f2c1d6f8de97de10af94f4dbcaa336a57fea9d9d9c936e7e506229abc", func := "packhorse/packhorselaw12.HalvesNames", spec := "halvesNames", apart := false, narrowed := true }
def HalvesNamesUptoSaid : Prop := halvesNamesUptoRow.holds Try.pinned (OpenSpec.upto halvesNamesSpec)

/-- 'packhorselaw12.HalvesRuns', WHERE WHAT IT READS IS OF BULK AT MOST 1048576: true; the input reads as it did. -/
def halvesRunsUptoRow : OpenClaim := { program := "ytbhknaggbenfnaa", sum := "38cd780f2c1d6f8de97de10af94f4dbcaa336a57fea9d9d9c936e7e506229abc", func := "packhorse/packhorselaw12.HalvesRuns", spec := "halvesRuns", apart := false, narrowed := true }
def HalvesRunsUptoSaid : Prop := halvesRunsUptoRow.holds Try.pinned (OpenSpec.upto halvesRunsSpec)

/-- 'packhorselaw12.HalvesBound', WHERE WHAT IT READS IS OF BULK AT MOST 1048576: true; the input reads as it did. -/
def halvesBoundUptoRow : OpenClaim := { program := "ytbhknaggbenfnaa", sum := "38cd780f2c1d6f8de97de10af94f4dbcaa336a57fea9d9d9c936e7e506229abc", func := "packhorse/packhorselaw12.HalvesBound", spec := "halvesBound", apart := false, narrowed := true }
def HalvesBoundUptoSaid : Prop := halvesBoundUptoRow.holds Try.pinned (OpenSpec.upto halvesBoundSpec)

/-- 'packhorselaw12.HalvesFinds', WHERE WHAT IT READS IS OF BULK AT MOST 1048576: true; the input reads as it did. -/
def halvesFindsUptoRow : OpenClaim := { program := "ytbhknaggbenfnaa", sum := "38cd780f2c1d6f8de97de10af94f4dbcaa336a57fea9d9d9c936e7e506229abc", func := "packhorse/packhorselaw12.HalvesFinds", spec := "halvesFinds", apart := false, narrowed := true }
def HalvesFindsUptoSaid : Prop := halvesFindsUptoRow.holds Try.pinned (OpenSpec.upto halvesFindsSpec)

/-- 'packhorselaw12.HalvesSplits', WHERE WHAT IT READS IS OF BULK AT MOST 1048576: true; the input reads as it did. -/
def halvesSplitsUptoRow : OpenClaim := { program := "ytbhknaggbenfnaa", sum := "38cd780f2c1d6f8de97de10af94f4dbcaa336a57fea9d9d9c936e7e506229abc", func := "packhorse/packhorselaw12.HalvesSplits", spec := "halvesSplits", apart := false, narrowed := true }
def HalvesSplitsUptoSaid : Prop := halvesSplitsUptoRow.holds Try.pinned (OpenSpec.upto halvesSplitsSpec)

/-- 'packhorselaw12.HalvesOne', WHERE WHAT IT READS IS OF BULK AT MOST 1048576: true; the input reads as it did. -/
def halvesOneUptoRow : OpenClaim := { program := "ytbhknaggbenfnaa", sum := "38cd780f2c1d6f8de97de10af94f4dbcaa336a57fea9d9d9c936e7e506229abc", func := "packhorse/packhorselaw12.HalvesOne", spec := "halvesOne", apart := false, narrowed := true }
def HalvesOneUptoSaid : Prop := halvesOneUptoRow.holds Try.pinned (OpenSpec.upto halvesOneSpec)

/-- 'packhorselaw12.HalvesAll', WHERE WHAT IT READS IS OF BULK AT MOST 1048576: true; the input reads as it did. -/
def halvesAllUptoRow : OpenClaim := { program := "ytbhknaggbenfnaa", sum := "38cd780f2c1d6f8de97de10af94f4dbcaa336a57fea9d9d9c936e7e506229abc", func := "packhorse/packhorselaw12.HalvesAll", spec := "halvesAll", apart := false, narrowed := true }
def HalvesAllUptoSaid : Prop := halvesAllUptoRow.holds Try.pinned (OpenSpec.upto halvesAllSpec)

end Rows
end Go.Proofs.Ytbhknaggbenfnaa
