/- The chapter's examples, which every statement asks first: they hold. -/
import Derived.Test.YtobicfkbpoimnaaDoorSplit
namespace Go.Proofs.YtobicfkbpoimnaaDoor
open Go.RowKit

theorem alive_next9 : nextS [98, 111, 120, 57] = [98, 111, 120, 49, 48] ∧ nextE [98, 111, 120, 57] = 0 := by decide +kernel
theorem alive_next : nextS [98, 111, 120] = [98, 111, 120, 48] ∧ nextE [98, 111, 120] = 0 := by decide +kernel
theorem alive_right : rightB [206, 177, 206, 178, 45, 55] = true ∧ rightB [55] = false := by decide +kernel

set_option maxHeartbeats 1000000 in
theorem alive_any (w : World) : Calls Tryd.prog 11 #[] w fun e w' => e = .returned (.bool true) ∧ Below w.heap.size w w' := by
  have c1 := fun w => next_any ⟨#[98, 111, 120, 57]⟩ w (by decide)
  have c2 := fun w => next_any ⟨#[98, 111, 120]⟩ w (by decide)
  have c3 := fun w => right_any ⟨#[206, 177, 206, 178, 45, 55]⟩ w (by decide)
  have c4 := fun w => right_any ⟨#[55]⟩ w (by decide)
  simp only [alive_next9, alive_next, alive_right] at c1 c2 c3 c4
  have C1 := Lib.hid c1
  have C2 := Lib.hid c2
  have C3 := Lib.hid c3
  have C4 := Lib.hid c4
  clear c1 c2 c3 c4
  go_enter Tryd.func11, Tryd.ntmps11
  go_wp2_with fail
  refine (C1.out _).mono ?_
  rintro e w1 ⟨rfl, h1⟩
  go_wp2_with fail
  refine (C2.out _).mono ?_
  rintro e w2 ⟨rfl, h2⟩
  go_wp2_with fail
  refine (C3.out _).mono ?_
  rintro e w3 ⟨rfl, h3⟩
  go_wp2_with fail
  refine (C4.out _).mono ?_
  rintro e w4 ⟨rfl, h4⟩
  go_wp2_with fail
  go_ret
  have a2 := h1.trans (h2.mono h1.size)
  have a3 := a2.trans (h3.mono a2.size)
  exact ⟨rfl, a3.trans (h4.mono a3.size)⟩

end Go.Proofs.YtobicfkbpoimnaaDoor
