/- PlateNames: the law returns true: the errors and the limits of package plate have their numbers. It has no conditions. -/
import Derived.Test.YtnnikgchffkalaaArgs
namespace Go.Proofs.Ytnnikgchffkalaa
open Go.ChangeShapes Go.WideShapes Go.ChangeAt Go.RowKit

attribute [local go_sem ↓] ld26 ld66 st26 st66 bx26 al26 al66 bd26 bd66 bs61 bs48 mk48 eq26 ap61 ap48 ap49 cp46 cp48
attribute [local go_sem] bx_agg al_cell al_wr bd_zero bd_one bd_two bd_nine

def nm2 : Pl := (Pl.new 1).limit 0
def nm3 : Pl := (nm2.put 0 (oneC 9)).2
def nm4 : Pl := nm3.flush.2

theorem nm4_off : nm4.off = true := rfl

set_option maxRecDepth 100000 in
set_option maxHeartbeats 4000000 in
theorem names_walk (w : World) : Calls Try.prog 3 #[] w (TrueB w) := by
  have z9 := oneC_is (v := 9) (by omega)
  go_enter Try.func3, Try.ntmps3
  go_wp2_with fail
  refine (alive_any _).mono ?_
  rintro e w1 ⟨rfl, b1⟩
  have N := Lib.hid (show Calls Try.prog 9 #[.int .i64 1] w1 (fun e w' => ∃ g, e = .returned (ptr g) ∧ Mine w w' g (Pl.new 1)) from Mine.new 1 b1)
  clear b1
  go_wp2_with fail
  refine N.out.mono ?_
  rintro e w2 ⟨g, rfl, h2⟩
  have G := Lib.hid (show Calls Try.prog 10 #[ptr g, .int .i64 1] w2 (fun e w' => e = .returned (.tuple #[.agg (arr zeroC), .int .i64 71]) ∧ Below w2.heap.size w2 w') from h2.get 1)
  have H2 := Lib.hid h2
  clear h2 N
  go_wp2_with fail
  refine G.out.mono ?_
  rintro e w3 ⟨rfl, b3⟩
  have k3 := cell_block w3 zeroC
  obtain ⟨w4, s4, r4, u4⟩ := st_block zeroC_len zeroC_len k3
  have b4 := b3.trans ((((Below.refl w3.heap.size w3).alloc (Nat.le_refl _) (.cells (arr zeroC) 26)).trans (u4.below (Nat.le_refl _))).mono b3.size)
  have h4 := H2.out.below b4
  have C1 := Lib.hid (show Calls Try.prog 11 #[ptr g, .int .i64 (-1), .agg (arr zeroC)] w4 (fun e w' => e = .returned (.int .i64 71) ∧ Mine w w' g (Pl.new 1)) from h4.put (-1) zeroC_is (by decide))
  clear G k3 r4 u4 b3 b4 h4 H2
  go_wp2_with fail
  refine C1.out.mono ?_
  rintro e w5 ⟨rfl, h5⟩
  have C2 := Lib.hid (show Calls Try.prog 12 #[ptr g, .int .i64 0] w5 (fun e w' => e = .returned (.tuple #[]) ∧ Mine w w' g nm2) from h5.limit 0 (by omega))
  clear h5 C1
  go_wp2_with fail
  refine C2.out.mono ?_
  rintro e w6 ⟨rfl, h6⟩
  have C3 := Lib.hid (show Calls Try.prog 11 #[ptr g, .int .i64 0, .agg (arr (oneC 9))] w6 (fun e w' => e = .returned (.int .i64 72) ∧ Mine w w' g nm3) from h6.put 0 z9 (by decide))
  clear h6 C2
  go_wp2_with fail
  refine C3.out.mono ?_
  rintro e w7 ⟨rfl, h7⟩
  have C4 := Lib.hid (show Calls Try.prog 13 #[ptr g] w7 (fun e w' => e = .returned (.int .i64 72) ∧ Mine w w' g nm4) from h7.flush)
  clear h7 C3
  go_wp2_with fail
  refine C4.out.mono ?_
  rintro e w8 ⟨rfl, h8⟩
  have C5 := Lib.hid (show Calls Try.prog 14 #[ptr g] w8 (Same (.bool true) w8) from h8.off)
  have C6 := Lib.hid (show Calls Try.prog 9 #[.int .i64 5000] w8 (fun e w' => ∃ g, e = .returned (ptr g) ∧ Mine w w' g (Pl.new 4096)) from Mine.new 5000 h8.low)
  clear h8 C4
  go_wp2_with fail
  refine C5.out.mono ?_
  rintro e w' ⟨rfl, rfl⟩
  go_wp2_with fail
  refine C6.out.mono ?_
  rintro e w9 ⟨g2, rfl, h9⟩
  have C7 := Lib.hid (show Calls Try.prog 15 #[ptr g2] w9 (Same (.int .i64 4096) w9) by have := h9.len; simp only [Pl.new, List.length_replicate] at this; exact this)
  have C8 := Lib.hid (show Calls Try.prog 9 #[.int .i64 (-1)] w9 (fun e w' => ∃ g, e = .returned (ptr g) ∧ Mine w w' g (Pl.new 0)) from Mine.new (-1) h9.low)
  clear h9 C5 C6
  go_wp2_with fail
  refine C7.out.mono ?_
  rintro e w' ⟨rfl, rfl⟩
  go_wp2_with fail
  refine C8.out.mono ?_
  rintro e w10 ⟨g3, rfl, h10⟩
  have C9 := Lib.hid (show Calls Try.prog 15 #[ptr g3] w10 (Same (.int .i64 0) w10) from h10.len)
  have B10 := Lib.hid h10.low
  clear h10 C7 C8
  go_wp2_with fail
  refine C9.out.mono ?_
  rintro e w' ⟨rfl, rfl⟩
  go_wp2_with fail
  go_ret
  exact ⟨rfl, B10.out⟩


set_option maxRecDepth 100000 in
theorem plateNames_lifted (os : Os) (started : os.Started) (H : Type) (enc : TypeId × Value → H) :
    ReturnsInHanded {} Try.checked os 3 .any (Rows.plateNamesSpec.pre6 enc Try.prog Try.f3 Rows.plateNamesRow.domain false) (Rows.plateNamesSpec.post enc Try.prog Try.f3 false true false false) := by
  refine returnsInHanded_of_change (C := Try.checked) own started (by kernel_rfl) Try.func3
    (ChangeSpec.witness6 (enc := enc) (C := Try.checked) false ⟨#[], #[], []⟩ 8 (by kernel_rfl) (by kernel_rfl) (by kernel_rfl) (by kernel_rfl)) ?_
  intro W base args ds gs before hval0 hW _ _
  have hW' := hW
  obtain ⟨p, q, hA0, hV, rfl, _, _⟩ := hW
  have hA : DataW.TrodAll enc Try.prog W 0 (fun _ => true) true Try.f3.params.toList args.toList ds p := hA0
  rw [Try.params3] at hA
  obtain ⟨h1, rfl, rfl⟩ := trodAll_none hA
  have hargs : args = #[] := by simpa using h1
  subst hargs
  obtain ⟨rfl, rfl⟩ := trodVars_none hV
  clear hA0 hval0
  simp only [List.append_nil] at hW'

  refine (names_walk W).mono fun e W' ⟨he, hb⟩ => ?_
  subst he
  exact ⟨_, rfl, _, _, _, [], [], [], hW', trodAll_mk1 (shut_bool Try.underlying4 _), trodAll_mk0, rfl, hb.frame _, fun h => by cases h⟩

theorem plateNames_holds : Rows.PlateNamesSaid :=
  OpenClaim.holds_of_wide 3 Try.f3 rfl rfl rfl rfl rfl rfl rfl ⟨rfl, rfl, rfl, rfl, rfl⟩ rfl rfl rfl rfl rfl (by kernel_rfl) Try.func3 (by kernel_rfl)
    (of_decide_eq_true (by kernel_rfl)) (by unfold Func.isWrapper; first | (rw [if_pos (by decide +kernel)]; kernel_rfl) | (rw [if_neg (by decide +kernel)]; exact ⟨rfl, rfl⟩))
    (fun os started H enc _ => plateNames_lifted os started H enc)
#print axioms plateNames_holds


end Go.Proofs.Ytnnikgchffkalaa
