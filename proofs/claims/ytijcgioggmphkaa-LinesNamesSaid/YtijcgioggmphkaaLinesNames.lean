/- LinesNames: the law returns true: the error and the limits have their numbers, and Merge, Take and Weight of package lines answer so at the ends. It has no conditions. -/
import Derived.Test.YtijcgioggmphkaaArgs
namespace Go.Proofs.Ytijcgioggmphkaa
open Go.ChangeShapes Go.WideShapes Go.ChangeAt Go.RowKit

theorem names_m0 : mergeV [] = [] := by kernel_rfl
theorem names_m1 : mergeV [⟨kA, 600, 0⟩, ⟨kA, 401, 0⟩] = [] := by kernel_rfl
theorem names_t2 : takeV [⟨kA, 2, 0⟩] kA 2 = [] := by kernel_rfl
theorem names_t1 : takeV [⟨kA, 2, 0⟩] kA 1 = [⟨kA, 1, 0⟩] := by kernel_rfl
theorem names_w1 : weightV [⟨kA, 1000, 100000⟩] = 100000000 := by kernel_rfl
theorem names_w0 : weightV [⟨kA, 0, 0⟩] = 0 := by kernel_rfl
theorem size_kA : kA.size ≤ maxLen := by show 1 ≤ maxLen; unfold maxLen; omega

set_option maxHeartbeats 4000000 in
set_option maxRecDepth 100000 in
theorem names_walk (w : World) : Calls Try.prog 3 #[] w (TrueB w) := by
  have C1 := Lib.hid (merge_any none 0 [] w (LnsP.nil _ _ _) (by simp))
  have V1 := Lib.hid names_m0
  have E1 := Lib.hid (show mergeE [] = 41 by unfold mergeE; rw [V1.out]; rfl)
  have V2 := Lib.hid names_m1
  have E2 := Lib.hid (show mergeE [⟨kA, 600, 0⟩, ⟨kA, 401, 0⟩] = 41 by unfold mergeE; rw [V2.out]; rfl)
  have E3 := Lib.hid (takeE_nil names_t2)
  have V3 := Lib.hid names_t2
  have V4 := Lib.hid names_t1
  have E4 := Lib.hid (show takeE [⟨kA, 2, 0⟩] kA 1 = 0 from takeE_ne (by rw [V4.out]; simp))
  have C2 := Lib.hid (fun w => merge_any _ _ _ _ (lns_block w [⟨kA, 600, 0⟩, ⟨kA, 401, 0⟩] (by intro x hx; simp at hx; rcases hx with rfl | rfl <;> exact size_kA) (by unfold maxLen; simp)) (by simp))
  have C3 := Lib.hid (fun w => take_any _ _ _ kA 2 _ (lns_block w [⟨kA, 2, 0⟩] (by intro x hx; simp at hx; subst hx; exact size_kA) (by unfold maxLen; simp)) (by simp))
  have C4 := Lib.hid (fun w => take_any _ _ _ kA 1 _ (lns_block w [⟨kA, 2, 0⟩] (by intro x hx; simp at hx; subst hx; exact size_kA) (by unfold maxLen; simp)) (by simp))
  have C5 := Lib.hid (fun w => weight_any _ _ _ _ (lns_block w [⟨kA, 1000, 100000⟩] (by intro x hx; simp at hx; subst hx; exact size_kA) (by unfold maxLen; simp)) (by unfold maxLen; simp))
  have C6 := Lib.hid (fun w => weight_any _ _ _ _ (lns_block w [⟨kA, 0, 0⟩] (by intro x hx; simp at hx; subst hx; exact size_kA) (by unfold maxLen; simp)) (by unfold maxLen; simp))
  rw [names_w1] at C5
  rw [names_w0] at C6
  go_enter Try.func3, Try.ntmps3
  go_wp2_with fail
  refine C1.out.mono ?_
  rintro e w1 ⟨a1, c1, rfl, i1, b1⟩
  rw [V1.out, E1.out]
  clear i1
  have d1 := b1.alloc b1.size (.cells (cellsL [⟨kA, 600, 0⟩, ⟨kA, 401, 0⟩]).toArray 27)
  go_wp2_with fail
  refine (C2.out _).mono ?_
  rintro e w2 ⟨a2, c2, rfl, i2, b2⟩
  rw [V2.out, E2.out]
  clear i2
  have d2 := d1.trans (b2.mono d1.size)
  have d3 := d2.alloc d2.size (.cells (cellsL [⟨kA, 2, 0⟩]).toArray 27)
  go_wp2_with fail
  refine (C3.out _).mono ?_
  rintro e w3 ⟨a3, c3, rfl, i3, b3⟩
  rw [V3.out, E3.out]
  clear i3
  have d4 := d3.trans (b3.mono d3.size)
  have d5 := d4.alloc d4.size (.cells (cellsL [⟨kA, 2, 0⟩]).toArray 27)
  go_wp2_with fail
  refine (C4.out _).mono ?_
  rintro e w4 ⟨a4, c4, rfl, i4, b4⟩
  rw [V4.out, E4.out]
  clear i4
  have d6 := d5.trans (b4.mono d5.size)
  go_wp2_with fail
  refine (alive_any _).mono ?_
  rintro e w5 ⟨rfl, b5⟩
  have d7 := d6.trans (b5.mono d6.size)
  have d8 := d7.alloc d7.size (.cells (cellsL [⟨kA, 1000, 100000⟩]).toArray 27)
  go_wp2_with fail
  refine (C5.out _).mono ?_
  rintro e w6 ⟨rfl, b6⟩
  have d9 := d8.trans (b6.mono d8.size)
  have d10 := d9.alloc d9.size (.cells (cellsL [⟨kA, 0, 0⟩]).toArray 27)
  go_wp2_with fail
  refine (C6.out _).mono ?_
  rintro e w7 ⟨rfl, b7⟩
  have d11 := d10.trans (b7.mono d10.size)
  go_wp2_with fail
  go_ret
  exact ⟨rfl, d11⟩



set_option maxRecDepth 100000 in
theorem linesNames_lifted (os : Os) (started : os.Started) (H : Type) (enc : TypeId × Value → H) :
    ReturnsInHanded {} Try.checked os 3 .any (Rows.linesNamesSpec.pre6 enc Try.prog Try.f3 Rows.linesNamesRow.domain false) (Rows.linesNamesSpec.post enc Try.prog Try.f3 false true false false) := by
  refine returnsInHanded_of_change (C := Try.checked) own started (by kernel_rfl) Try.func3
    (ChangeSpec.witness6 (enc := enc) (C := Try.checked) false ⟨#[], #[], []⟩ 8 (by kernel_rfl) (by kernel_rfl) (by kernel_rfl) (by kernel_rfl)) ?_
  intro W base args ds gs before hval0 hW _ _
  have hW' := hW
  obtain ⟨p, q, hA0, hV, rfl, _, _⟩ := hW
  have hA : DataW.TrodAll enc Try.prog W 0 (fun _ => true) true Try.f3.params.toList args.toList ds p := hA0
  rw [Try.params3] at hA
  obtain ⟨h1, rfl, rfl⟩ := trodAll_none hA
  have hargs : args = #[] := by simpa using h1
  subst hargs
  obtain ⟨rfl, rfl⟩ := trodVars_none hV
  clear hA0 hval0
  simp only [List.append_nil] at hW'

  refine (names_walk W).mono fun e W' ⟨he, hb⟩ => ?_
  subst he
  exact ⟨_, rfl, _, _, _, [], [], [], hW', trodAll_mk1 (shut_bool Try.underlying4 _), trodAll_mk0, rfl, hb.frame _, fun h => by cases h⟩

theorem linesNames_holds : Rows.LinesNamesSaid :=
  OpenClaim.holds_of_wide 3 Try.f3 rfl rfl rfl rfl rfl rfl rfl ⟨rfl, rfl, rfl, rfl, rfl⟩ rfl rfl rfl rfl rfl (by kernel_rfl) Try.func3 (by kernel_rfl)
    (of_decide_eq_true (by kernel_rfl)) (by unfold Func.isWrapper; first | (rw [if_pos (by decide +kernel)]; kernel_rfl) | (rw [if_neg (by decide +kernel)]; exact ⟨rfl, rfl⟩))
    (fun os started H enc _ => linesNames_lifted os started H enc)
#print axioms linesNames_holds


end Go.Proofs.Ytijcgioggmphkaa
