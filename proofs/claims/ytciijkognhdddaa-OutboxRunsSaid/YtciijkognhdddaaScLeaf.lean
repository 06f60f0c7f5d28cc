/- What Right of package tally answers, the document's Right of numbers and Group; three texts in a block. -/
import Derived.Test.YtciijkognhdddaaScPlain
import Derived.Test.YtciijkognhdddaaLbRef
import Derived.Test.YtciijkognhdddaaBkFar
namespace Go.Proofs.Ytciijkognhdddaa
set_option maxRecDepth 100000
open Go.RowKit

set_option maxHeartbeats 1000000 in
theorem tally_any (n : Int) (w : World) : Calls Try.prog 63 #[.int .i64 n] w (BoolSame (tallyB n) w) := by
  have HE := Lib.hid (show tallyB n = (decide (0 ≤ n) && decide (n ≤ 1000000000000)) by rw [Bool.eq_iff_iff]; simp [tallyB])
  cases h1 : decide (0 ≤ n) <;> cases h2 : decide (n ≤ 1000000000000)
  all_goals
    rw [h1, h2] at HE
    go_enter Try.func63, Try.ntmps63
    go_wp2_with fail
    go_ret
    exact ⟨by rw [HE.out]; rfl, rfl⟩
end Go.Proofs.Ytciijkognhdddaa
