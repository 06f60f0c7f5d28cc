/- Ticks, and numbers above nought. -/
namespace Go.Proofs.Ytciijkognhdddaa

def tickB (n : Int) : Bool := decide (0 ≤ n ∧ n ≤ 1099511627776)
def aboveB (n : Int) : Bool := decide (1 ≤ n ∧ n ≤ 1000000000000)
theorem tickB_iff (n : Int) : tickB n = true ↔ 0 ≤ n ∧ n ≤ 1099511627776 := by simp [tickB]
theorem aboveB_iff (n : Int) : aboveB n = true ↔ 1 ≤ n ∧ n ≤ 1000000000000 := by simp [aboveB]

end Go.Proofs.Ytciijkognhdddaa
