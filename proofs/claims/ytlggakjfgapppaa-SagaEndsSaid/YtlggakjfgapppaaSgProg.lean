/- What Asks and Left of package saga answer. -/
import Derived.Test.YtlggakjfgapppaaSgLay
namespace Go.Proofs.Ytlggakjfgapppaa
set_option maxRecDepth 100000
open Go.RowKit Go.ChangeShapes Go.WideShapes Go.ChangeAt
attribute [local go_sem ↓] ldSg stSg alSg bxSg eqSg bdSg
attribute [local go_sem] al_sg bx_sg bd_sg bd_sg0 st_sgnew

set_option maxHeartbeats 1000000 in
theorem asks_any (p : Int) (w : World) : Calls Try.prog 9 #[.int .i64 p] w (NumP (asksN p) w) := by
  by_cases h : p = 1 ∨ p = 2 ∨ p = 7 ∨ p = 9 ∨ p = 10
  · rcases h with rfl | rfl | rfl | rfl | rfl
    all_goals
      go_enter Try.func9, Try.ntmps9
      go_wp2_with fail
      go_ret
      exact ⟨rfl, Below.refl _ _⟩
  · have h1 : (p == 1) = false := by rw [beq_eq_false_iff_ne]; omega
    have h2 : (p == 2) = false := by rw [beq_eq_false_iff_ne]; omega
    have h3 : (p == 7) = false := by rw [beq_eq_false_iff_ne]; omega
    have h4 : (p == 9) = false := by rw [beq_eq_false_iff_ne]; omega
    have h5 : (p == 10) = false := by rw [beq_eq_false_iff_ne]; omega
    have HE := Lib.hid (show asksN p = 0 by unfold asksN; rw [if_neg (by omega), if_neg (by omega), if_neg (by omega), if_neg (by omega), if_neg (by omega)])
    clear h
    go_enter Try.func9, Try.ntmps9
    go_wp2_with fail
    go_ret
    exact ⟨by rw [HE.out]; rfl, Below.refl _ _⟩
set_option maxHeartbeats 1000000 in
theorem left_any (s : Sg) (w : World) : Calls Try.prog 11 #[sgV s] w (Tell (leftB s.phase) w) := by
  have B := Lib.hid ((Below.refl w.heap.size w).alloc (Nat.le_refl _) (Obj.cells (sgC s) 25))
  obtain ⟨⟨c0, c1, c2⟩, _⟩ := (Row.new w (sgC s) 25).s
  have HE := Lib.hid (show leftB s.phase = (s.phase == 7 || s.phase == 8) from rfl)
  cases h7 : (s.phase == 7) <;> cases h8 : (s.phase == 8)
  all_goals
    rw [h7, h8] at HE
    go_enter Try.func11, Try.ntmps11
    go_wp2_with fail
    go_ret
    exact ⟨by rw [HE.out]; rfl, B.out⟩

end Go.Proofs.Ytlggakjfgapppaa
