/- What Right and Same of package snap answer. -/
import Derived.Test.YtfmpibmhhfmajaaGreatDoorSnLay
import Derived.Test.YtfmpibmhhfmajaaGreatDoorMgStates
import Derived.Deep.DeepCutAuto
import Derived.Deep.QuietTactic
import Derived.Test.YtfmpibmhhfmajaaGreatDoorSnKinds
namespace Go.Proofs.YtfmpibmhhfmajaaGreatDoor
set_option maxRecDepth 100000
open Go.RowKit Go.ChangeShapes Go.WideShapes Go.ChangeAt
attribute [local go_sem ↓] ldCm stCm alCm bxCm bdCm ldGr bxGr eqGr ldPt stPt alPt bdPt
attribute [local go_sem] al_cm bx_cm st_cmnew bd_cm bd_cmKind bx_gr ne_gr eq_grX al_pt st_ptnew bd_pt

section
variable (ev : Operand → Value) (d : Option Tmp) (ty : TypeId) (pos : String) (af : Array Edge) (gd : Option (Nat × Bool)) (w : World)
theorem bdGr (ps : Array (Nat × Operand)) : (execOp ev ⟨d, .build 24 ps, ty, pos, af, gd⟩).run Tryz.prog w = BdX 24 (ps.map fun (i, x) => (i, ev x)) w := rfl
theorem bd_gr : BdX 24 #[] w = .ok (.value (grV ⟨#[]⟩ ⟨#[]⟩ ⟨#[]⟩)) w := by kernel_rfl
end
attribute [local go_sem ↓] bdGr
attribute [local go_sem] bd_gr
end Go.Proofs.YtfmpibmhhfmajaaGreatDoor
