/- The chapter's example. -/
import Derived.Test.YtlggakjfgapppaaSgLay
namespace Go.Proofs.Ytlggakjfgapppaa
set_option maxRecDepth 100000
open Go.RowKit Go.ChangeShapes Go.WideShapes Go.ChangeAt
attribute [local go_sem ↓] ldSg stSg alSg bxSg eqSg bdSg
attribute [local go_sem] al_sg bx_sg bd_sg bd_sg0 st_sgnew

/-- What package saga's Step answers. -/
def StepC : Prop := ∀ (s : Sg) (event limit : Int) (w : World), 0 ≤ s.ref ∧ s.ref ≤ 1000000 → Calls Try.prog 13 #[sgV s, .int .i64 event, .int .i64 limit] w (StepP (stepS s event limit) w)

set_option maxHeartbeats 1000000 in
theorem alive_of (HS : StepC) (w : World) : Calls Try.prog 12 #[] w (Tell true w) := by
  have C1 : Hid (Calls Try.prog 13 #[sgV ⟨1, false, 0⟩, .int .i64 3, .int .i64 3] w (StepP (⟨1, true, 0⟩, 0, 0) w)) := Lib.hid (by
    have := HS ⟨1, false, 0⟩ 3 3 w (by decide)
    rwa [show stepS ⟨1, false, 0⟩ 3 3 = (⟨1, true, 0⟩, 0, 0) by rfl] at this)
  have C2 : Hid (∀ W, Calls Try.prog 13 #[sgV ⟨1, true, 0⟩, .int .i64 1, .int .i64 3] W (StepP (⟨10, true, 0⟩, 7, 0) W)) := Lib.hid (fun W => by
    have := HS ⟨1, true, 0⟩ 1 3 W (by decide)
    rwa [show stepS ⟨1, true, 0⟩ 1 3 = (⟨10, true, 0⟩, 7, 0) by rfl] at this)
  clear HS
  go_enter Try.func12, Try.ntmps12
  go_wp2_with fail
  refine C1.out.mono ?_
  rintro x w1 ⟨rfl, b1⟩
  have R1 := Lib.hid (Row.new w1 (sgC ⟨1, true, 0⟩) 25)
  have ld := ld_sg (s := ⟨1, true, 0⟩) R1.out
  have B1 := Lib.hid (b1.alloc b1.size (.cells (sgC ⟨1, true, 0⟩) 25))
  go_wp2_with fail
  generalize w1.alloc (.cells (sgC ⟨1, true, 0⟩) 25) = W1 at *
  refine (C2.out _).mono ?_
  rintro x w2 ⟨rfl, b2⟩
  have R2 := Lib.hid ((R1.out.below b2).more (.cells (sgC ⟨10, true, 0⟩) 25))
  have Q2 := Lib.hid (Row.new w2 (sgC ⟨10, true, 0⟩) 25)
  have B2 := Lib.hid ((B1.out.trans (b2.mono B1.out.size)).alloc (Nat.le_trans B1.out.size b2.size) (.cells (sgC ⟨10, true, 0⟩) 25))
  have c1 : _ = some (Value.bool true) := R2.out.cell 1
  have c0 : _ = some (Value.int .i64 10) := Q2.out.cell 0
  clear ld b1 b2
  go_wp2_with fail
  go_ret
  exact ⟨rfl, B2.out⟩

end Go.Proofs.Ytlggakjfgapppaa
