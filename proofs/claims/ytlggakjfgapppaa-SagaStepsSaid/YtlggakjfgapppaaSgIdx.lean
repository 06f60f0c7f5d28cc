/- What stands at a place of the document's table. -/
import Derived.Test.YtlggakjfgapppaaSgTab
namespace Go.Proofs.Ytlggakjfgapppaa
set_option maxRecDepth 100000
open Go.RowKit Go.ChangeShapes Go.WideShapes Go.ChangeAt

/-- A phase's row, and an event's place in it. -/
def rowC (g : Bool) (p : Nat) : Array Value := #[.int .i64 (rowT g p 0).1, .int .i64 (rowT g p 0).2, .int .i64 (rowT g p 1).1, .int .i64 (rowT g p 1).2, .int .i64 (rowT g p 2).1, .int .i64 (rowT g p 2).2, .int .i64 (rowT g p 3).1, .int .i64 (rowT g p 3).2, .int .i64 (rowT g p 4).1, .int .i64 (rowT g p 4).2]
theorem idx_row (g : Bool) {p : Int} (hp : 1 ≤ p ∧ p ≤ 12) (W : World) : (Instr.index 44 (tabV g) (.int .i64 p)).run Try.prog W = .ok (.agg (rowC g p.toNat)) W := by
  have h : p = 1 ∨ p = 2 ∨ p = 3 ∨ p = 4 ∨ p = 5 ∨ p = 6 ∨ p = 7 ∨ p = 8 ∨ p = 9 ∨ p = 10 ∨ p = 11 ∨ p = 12 := by omega
  rcases h with rfl | rfl | rfl | rfl | rfl | rfl | rfl | rfl | rfl | rfl | rfl | rfl <;> cases g <;> (show _ = _; kernel_rfl)
theorem idx_one (g : Bool) (p : Nat) {e : Int} (he : 1 ≤ e ∧ e ≤ 4) (W : World) : (Instr.index 43 (.agg (rowC g p)) (.int .i64 e)).run Try.prog W = .ok (.agg #[.int .i64 (rowT g p e.toNat).1, .int .i64 (rowT g p e.toNat).2]) W := by
  have h : e = 1 ∨ e = 2 ∨ e = 3 ∨ e = 4 := by omega
  rcases h with rfl | rfl | rfl | rfl <;> (show _ = _; kernel_rfl)

end Go.Proofs.Ytlggakjfgapppaa
