/- TallyNames: the law returns true: the error and the greatest number have their numbers, and the ends are as the chapter says. It has no conditions. -/
import Derived.Test.YtcfpcffcafjkjaaShare
import Derived.Test.YtcfpcffcafjkjaaRows
import Derived.ProofKit
import Derived.OpenShut
import Derived.ChangeSlices
namespace Go.Proofs.Ytcfpcffcafjkjaa
open Go.ChangeShapes Go.WideShapes Go.ChangeAt Go.RowKit

set_option maxHeartbeats 2000000 in
theorem names_walk (w : World) : Calls Try.prog 3 #[] w (TrueB w) := by
  have C1 := Lib.hid (fun W => add_any 1000000000000 1 W)
  have C2 := Lib.hid (fun W => less_any 0 1 W)
  have C3 := Lib.hid (fun W => times_any 1000000 1000000 W)
  have C4 := Lib.hid (fun W => share_bad 1 1001 W (by omega))
  have C5 := Lib.hid (fun W => sum_any none 0 [] W (IntsP.nil W none 0) (by simp))
  rw [show addV 1000000000000 1 = 0 by decide, show addE 1000000000000 1 = 21 by decide] at C1
  rw [show lessV 0 1 = 0 by decide, show lessE 0 1 = 21 by decide] at C2
  rw [show timesV 1000000 1000000 = 1000000000000 by decide, show timesE 1000000 1000000 = 0 by decide] at C3
  rw [show sumV [] = 0 by decide, show sumE [] = 0 by decide, show ([] : List Int).length = 0 from rfl] at C5
  go_enter Try.func3, Try.ntmps3
  go_wp2_with fail
  refine (C1.out _).mono ?_
  rintro e w1 ⟨rfl, b1⟩
  go_wp2_with fail
  refine (C2.out _).mono ?_
  rintro e w' ⟨rfl, rfl⟩
  go_wp2_with fail
  refine (C3.out _).mono ?_
  rintro e w' ⟨rfl, rfl⟩
  go_wp2_with fail
  refine (C4.out _).mono ?_
  rintro e w' ⟨rfl, rfl⟩
  go_wp2_with fail
  refine (C5.out _).mono ?_
  rintro e w' ⟨rfl, rfl⟩
  go_wp2_with fail
  refine (alive_any _).mono ?_
  rintro e w2 ⟨rfl, b2⟩
  have B := b1.trans (b2.mono b1.size)
  clear b1 b2
  go_wp2_with fail
  go_ret
  exact ⟨rfl, B⟩

theorem own : ownKnob Try.prog.godebug = none := by kernel_rfl

set_option maxRecDepth 100000 in
theorem tallyNames_lifted (os : Os) (started : os.Started) (H : Type) (enc : TypeId × Value → H) :
    ReturnsInHanded {} Try.checked os 3 .any (Rows.tallyNamesSpec.pre6 enc Try.prog Try.f3 Rows.tallyNamesRow.domain false) (Rows.tallyNamesSpec.post enc Try.prog Try.f3 false true false false) := by
  refine returnsInHanded_of_change (C := Try.checked) own started (by kernel_rfl) Try.func3
    (ChangeSpec.witness6 (enc := enc) (C := Try.checked) false ⟨#[], #[], []⟩ 8 (by kernel_rfl) (by kernel_rfl) (by kernel_rfl) (by kernel_rfl)) ?_
  intro W base args ds gs before hval0 hW hcnd _
  have hW' := hW
  obtain ⟨p, q, hA0, hV, rfl, hfz, hnd⟩ := hW
  have hA : DataW.TrodAll enc Try.prog W 0 (fun _ => true) true Try.f3.params.toList args.toList ds p := hA0
  rw [Try.params3] at hA
  obtain ⟨h1, rfl, rfl⟩ := trodAll_none hA
  have hargs : args = #[] := by simpa using h1
  subst hargs
  obtain ⟨rfl, rfl⟩ := trodVars_none hV
  clear hA0 hval0
  simp only [List.append_nil, List.nil_append] at hW'

  refine (names_walk W).mono fun e W' ⟨he, hb⟩ => ?_
  subst he
  exact ⟨_, rfl, _, _, _, [], [], [], hW', trodAll_mk1 (shut_bool Try.underlying4 _), trodAll_mk0, rfl, hb.frame _, fun h => by cases h⟩

theorem tallyNames_holds : Rows.TallyNamesSaid :=
  OpenClaim.holds_of_wide 3 Try.f3 rfl rfl rfl rfl rfl rfl rfl ⟨rfl, rfl, rfl, rfl, rfl⟩ rfl rfl rfl rfl rfl (by kernel_rfl) Try.func3 (by kernel_rfl)
    (of_decide_eq_true (by kernel_rfl)) (by unfold Func.isWrapper; first | (rw [if_pos (by decide +kernel)]; kernel_rfl) | (rw [if_neg (by decide +kernel)]; exact ⟨rfl, rfl⟩))
    (fun os started H enc _ => tallyNames_lifted os started H enc)
#print axioms tallyNames_holds

end Go.Proofs.Ytcfpcffcafjkjaa
