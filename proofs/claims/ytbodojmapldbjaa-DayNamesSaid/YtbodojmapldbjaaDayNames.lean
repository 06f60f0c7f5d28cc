/- DayNames: the law returns true: the error and the limits have their numbers, and the ends are as the chapter says. It has no conditions. -/
import Derived.Test.YtbodojmapldbjaaArgs
namespace Go.Proofs.Ytbodojmapldbjaa
open Go.ChangeShapes Go.WideShapes Go.ChangeAt Go.RowKit

set_option maxHeartbeats 2000000 in
theorem names_walk (w : World) : Calls Try.prog 3 #[] w (TrueB w) := by
  have C1 := Lib.hid (fun W : World => doors_any none 0 [] W (IntsP.nil _ _ _) (by decide))
  have C2 := Lib.hid (fun W : World => doors_any _ 1 [96] _ (ints_one 96 W 3) (by decide))
  have C3 := Lib.hid (fun W : World => next_any _ 1 [1] 1099511627776 _ (ints_one 1 W 3) (by decide))
  have C4 := Lib.hid (fun W : World => next_any _ 2 [5, 5] 0 _ (ints_two 5 5 W 3) (by decide))
  have C5 := Lib.hid (fun W : World => end_any 1099511627776 W)
  have C6 := Lib.hid (fun W : World => end_any 95 W)
  have C7 := Lib.hid (fun W : World => passed_any _ 1 [0] 5 4 _ (ints_one 0 W 3) (by decide))
  have E1 := Lib.hid (show doorsV [] = [] ∧ doorsE [] = 31 by decide)
  have E2 := Lib.hid (show doorsV [96] = [] ∧ doorsE [96] = 31 by decide)
  rw [show nextV [1] 1099511627776 = 0 by decide, show nextE [1] 1099511627776 = 31 by decide] at C3
  rw [show nextV [5, 5] 0 = 0 by decide, show nextE [5, 5] 0 = 31 by decide] at C4
  rw [show endV 1099511627776 = 0 by decide, show endE 1099511627776 = 31 by decide] at C5
  rw [show endV 95 = 96 by decide, show endE 95 = 0 by decide] at C6
  rw [show passV [0] 5 4 = 0 by decide, show passE [0] 5 4 = 31 by decide] at C7
  go_enter Try.func3, Try.ntmps3
  go_wp2_with fail
  refine (C1.out _).mono ?_
  rintro e w1 ⟨a1, c1, rfl, -, b1⟩
  rw [E1.out.1, E1.out.2]
  go_wp2_with fail
  refine (C2.out _).mono ?_
  rintro e w2 ⟨a2, c2, rfl, -, b2⟩
  rw [E2.out.1, E2.out.2]
  have b3 := (below_new w1 _).trans (b2.mono (below_new w1 _).size)
  have b4 := b1.trans (b3.mono b1.size)
  clear b1 b2 b3
  go_wp2_with fail
  refine (C3.out _).mono ?_
  rintro e w3 ⟨rfl, b2⟩
  have b3 := (below_new w2 _).trans (b2.mono (below_new w2 _).size)
  have b5 := b4.trans (b3.mono b4.size)
  clear b2 b3 b4
  go_wp2_with fail
  refine (C4.out _).mono ?_
  rintro e w4 ⟨rfl, b2⟩
  have b3 := (below_new w3 _).trans (b2.mono (below_new w3 _).size)
  have b6 := b5.trans (b3.mono b5.size)
  clear b2 b3 b5
  go_wp2_with fail
  refine (C5.out _).mono ?_
  rintro e w' ⟨rfl, rfl⟩
  go_wp2_with fail
  refine (C6.out _).mono ?_
  rintro e w' ⟨rfl, rfl⟩
  go_wp2_with fail
  refine (C7.out _).mono ?_
  rintro e w5 ⟨rfl, b2⟩
  have b3 := (below_new w4 _).trans (b2.mono (below_new w4 _).size)
  have b7 := b6.trans (b3.mono b6.size)
  clear b2 b3 b6
  go_wp2_with fail
  refine (alive_any _).mono ?_
  rintro e w6 ⟨rfl, b2⟩
  have b8 := b7.trans (b2.mono b7.size)
  clear b2 b7
  go_wp2_with fail
  go_ret
  exact ⟨rfl, b8⟩



set_option maxRecDepth 100000 in
theorem dayNames_lifted (os : Os) (started : os.Started) (H : Type) (enc : TypeId × Value → H) :
    ReturnsInHanded {} Try.checked os 3 .any (Rows.dayNamesSpec.pre6 enc Try.prog Try.f3 Rows.dayNamesRow.domain false) (Rows.dayNamesSpec.post enc Try.prog Try.f3 false true false false) := by
  refine returnsInHanded_of_change (C := Try.checked) own started (by kernel_rfl) Try.func3
    (ChangeSpec.witness6 (enc := enc) (C := Try.checked) false ⟨#[], #[], []⟩ 8 (by kernel_rfl) (by kernel_rfl) (by kernel_rfl) (by kernel_rfl)) ?_
  intro W base args ds gs before hval0 hW _ _
  have hW' := hW
  obtain ⟨p, q, hA0, hV, rfl, _, _⟩ := hW
  have hA : DataW.TrodAll enc Try.prog W 0 (fun _ => true) true Try.f3.params.toList args.toList ds p := hA0
  rw [Try.params3] at hA
  obtain ⟨h1, rfl, rfl⟩ := trodAll_none hA
  have hargs : args = #[] := by simpa using h1
  subst hargs
  obtain ⟨rfl, rfl⟩ := trodVars_none hV
  clear hA0 hval0
  simp only [List.append_nil] at hW'

  refine (names_walk W).mono fun e W' ⟨he, hb⟩ => ?_
  subst he
  exact ⟨_, rfl, _, _, _, [], [], [], hW', trodAll_mk1 (shut_bool Try.underlying4 _), trodAll_mk0, rfl, hb.frame _, fun h => by cases h⟩

theorem dayNames_holds : Rows.DayNamesSaid :=
  OpenClaim.holds_of_wide 3 Try.f3 rfl rfl rfl rfl rfl rfl rfl ⟨rfl, rfl, rfl, rfl, rfl⟩ rfl rfl rfl rfl rfl (by kernel_rfl) Try.func3 (by kernel_rfl)
    (of_decide_eq_true (by kernel_rfl)) (by unfold Func.isWrapper; first | (rw [if_pos (by decide +kernel)]; kernel_rfl) | (rw [if_neg (by decide +kernel)]; exact ⟨rfl, rfl⟩))
    (fun os started H enc _ => dayNames_lifted os started H enc)
#print axioms dayNames_holds


end Go.Proofs.Ytbodojmapldbjaa
