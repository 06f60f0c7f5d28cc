/- StateNames: the law returns true: the error and the limits have their numbers. It has no conditions. -/
import Derived.Test.YtaghbfnikcldiaaMgStates
import Derived.Test.YtaghbfnikcldiaaMgProg
namespace Go.Proofs.Ytaghbfnikcldiaa
open Go.ChangeShapes Go.WideShapes Go.ChangeAt Go.RowKit

set_option maxRecDepth 100000
attribute [local go_sem ↓] ldOr stOr alOr bxOr bdOr ldBa stBa alBa bxBa bdBa ldSt stSt alSt bxSt bdSt ldEf stEf alEf bxEf eqEf bdEf bsEf ldGr bxGr eqGr ldCa bxCa eqCa
attribute [local go_sem] al_or bx_or st_ornew bd_or al_ba bx_ba st_banew bd_ba al_sta bx_sta st_stnew bd_sta al_ef bx_ef st_new bd_ef bs_ef bs_ef0 bx_gr ne_gr bx_ca ne_ca

theorem one_int (W : World) (v : Int) : IntsP (W.alloc (.cells #[.int .i64 v] 3)) (some ⟨W.heap.size, 0, none⟩) 1 [v] :=
  ⟨by simp, fun _ => ⟨W.heap.size, 0, rfl, by simp, fun j x hj => by
    match j, hj with
    | 0, hj => injection hj with hj; subst hj; exact (Row.new W #[.int .i64 v] 3).cell 0
    | j + 1, hj => cases hj⟩⟩
theorem names_e : newE cpA cpA 0 [1] = 151 ∧ newE cpA cpA 101 [1] = 151 ∧ newE ⟨0, 0⟩ cpA 1 [1] = 151 ∧ newE cpA cpA 1 [] = 151 := by decide +kernel

set_option maxHeartbeats 4000000 in
theorem names_walk (HN : NewC) (HR : RightC) (w : World) : Calls Try.prog 3 #[] w (Tell true w) := by
  have CV := Lib.hid (fun W => alive_of HN HR W)
  have CC := Lib.hid (fun W => capsA_any W)
  have HE := Lib.hid names_e
  have N1 := Lib.hid (fun W => HN cpA cpA 0 (some ⟨W.heap.size, 0, none⟩) 1 [1] _ (one_int W 1) (by decide))
  have N2 := Lib.hid (fun W => HN cpA cpA 101 (some ⟨W.heap.size, 0, none⟩) 1 [1] _ (one_int W 1) (by decide))
  have N3 := Lib.hid (fun W => HN ⟨0, 0⟩ cpA 1 (some ⟨W.heap.size, 0, none⟩) 1 [1] _ (one_int W 1) (by decide))
  have N4 := Lib.hid (fun W => HN cpA cpA 1 none 0 [] W (IntsP.nil _ _ _) (by decide))
  rw [HE.out.1] at N1
  rw [HE.out.2.1] at N2
  rw [HE.out.2.2.1] at N3
  rw [HE.out.2.2.2] at N4
  clear HN HR HE
  go_enter Try.func3, Try.ntmps3
  have B := Lib.hid (Below.refl w.heap.size w)
  go_wp2_with fail
  refine (CC.out _).mono ?_
  rintro e w1c0 ⟨rfl, b1⟩
  replace B := Lib.hid (B.out.trans (b1.mono B.out.size))
  clear b1
  go_wp2_with fail
  refine (CC.out _).mono ?_
  rintro e w1c1 ⟨rfl, b1⟩
  replace B := Lib.hid (B.out.trans (b1.mono B.out.size))
  clear b1
  have B' := Lib.hid (B.out.alloc B.out.size (.cells #[.int .i64 1] 3))
  clear B
  have B := B'
  clear B'
  go_wp2_with fail
  refine (N1.out w1c1).mono ?_
  rintro e v1 ⟨r1, rfl, _, _, b1⟩
  have B' := Lib.hid ((B.out.trans (b1.mono B.out.size)).alloc (B.out.trans (b1.mono B.out.size)).size (.cells (stC r1) 29))
  clear B b1
  have B := B'
  clear B'
  go_wp2_with fail
  refine (CC.out _).mono ?_
  rintro e w2c0 ⟨rfl, b1⟩
  replace B := Lib.hid (B.out.trans (b1.mono B.out.size))
  clear b1
  go_wp2_with fail
  refine (CC.out _).mono ?_
  rintro e w2c1 ⟨rfl, b1⟩
  replace B := Lib.hid (B.out.trans (b1.mono B.out.size))
  clear b1
  have B' := Lib.hid (B.out.alloc B.out.size (.cells #[.int .i64 1] 3))
  clear B
  have B := B'
  clear B'
  go_wp2_with fail
  refine (N2.out w2c1).mono ?_
  rintro e v2 ⟨r2, rfl, _, _, b1⟩
  have B' := Lib.hid ((B.out.trans (b1.mono B.out.size)).alloc (B.out.trans (b1.mono B.out.size)).size (.cells (stC r2) 29))
  clear B b1
  have B := B'
  clear B'
  go_wp2_with fail
  refine (CC.out _).mono ?_
  rintro e w3c0 ⟨rfl, b1⟩
  replace B := Lib.hid (B.out.trans (b1.mono B.out.size))
  clear b1
  have B' := Lib.hid (B.out.alloc B.out.size (.cells #[.int .i64 1] 3))
  clear B
  have B := B'
  clear B'
  go_wp2_with fail
  refine (N3.out w3c0).mono ?_
  rintro e v3 ⟨r3, rfl, _, _, b1⟩
  have B' := Lib.hid ((B.out.trans (b1.mono B.out.size)).alloc (B.out.trans (b1.mono B.out.size)).size (.cells (stC r3) 29))
  clear B b1
  have B := B'
  clear B'
  go_wp2_with fail
  refine (CC.out _).mono ?_
  rintro e w4c0 ⟨rfl, b1⟩
  replace B := Lib.hid (B.out.trans (b1.mono B.out.size))
  clear b1
  go_wp2_with fail
  refine (CC.out _).mono ?_
  rintro e w4c1 ⟨rfl, b1⟩
  replace B := Lib.hid (B.out.trans (b1.mono B.out.size))
  clear b1
  go_wp2_with fail
  refine (N4.out _).mono ?_
  rintro e v4 ⟨r4, rfl, _, _, b1⟩
  have B' := Lib.hid ((B.out.trans (b1.mono B.out.size)).alloc (B.out.trans (b1.mono B.out.size)).size (.cells (stC r4) 29))
  clear B b1
  have B := B'
  clear B'
  go_wp2_with fail
  refine (CV.out _).mono ?_
  rintro e u ⟨rfl, b1⟩
  have B' := Lib.hid (B.out.trans (b1.mono B.out.size))
  go_wp2_with fail
  go_ret
  exact ⟨rfl, B'.out⟩


set_option maxRecDepth 100000 in
theorem stateNames_lifted (os : Os) (started : os.Started) (H : Type) (enc : TypeId × Value → H) :
    ReturnsInHanded {} Try.checked os 3 .any (Rows.stateNamesSpec.pre6 enc Try.prog Try.f3 Rows.stateNamesRow.domain false) (Rows.stateNamesSpec.post enc Try.prog Try.f3 false true false false) := by
  refine returnsInHanded_of_change (C := Try.checked) own started (by kernel_rfl) Try.func3
    (ChangeSpec.witness6 (enc := enc) (C := Try.checked) false ⟨#[], #[], []⟩ 8 (by kernel_rfl) (by kernel_rfl) (by kernel_rfl) (by kernel_rfl)) ?_
  intro W base args ds gs before hval0 hW _ _
  have hW' := hW
  obtain ⟨p, q, hA0, hV, rfl, _, _⟩ := hW
  have hA : DataW.TrodAll enc Try.prog W 0 (fun _ => true) true Try.f3.params.toList args.toList ds p := hA0
  rw [Try.params3] at hA
  obtain ⟨h1, rfl, rfl⟩ := trodAll_none hA
  have hargs : args = #[] := by simpa using h1
  subst hargs
  obtain ⟨rfl, rfl⟩ := trodVars_none hV
  clear hA0 hval0
  simp only [List.append_nil] at hW'

  refine (names_walk new_of right_of W).mono fun e W' ⟨he, hb⟩ => ?_
  subst he
  exact ⟨_, rfl, _, _, _, [], [], [], hW', trodAll_mk1 (shut_bool Try.underlying4 _), trodAll_mk0, rfl, hb.frame _, fun h => by cases h⟩

theorem stateNames_holds : Rows.StateNamesSaid :=
  OpenClaim.holds_of_wide 3 Try.f3 rfl rfl rfl rfl rfl rfl rfl ⟨rfl, rfl, rfl, rfl, rfl⟩ rfl rfl rfl rfl rfl (by kernel_rfl) Try.func3 (by kernel_rfl)
    (of_decide_eq_true (by kernel_rfl)) (by unfold Func.isWrapper; first | (rw [if_pos (by decide +kernel)]; kernel_rfl) | (rw [if_neg (by decide +kernel)]; exact ⟨rfl, rfl⟩))
    (fun os started H enc _ => stateNames_lifted os started H enc)
#print axioms stateNames_holds


end Go.Proofs.Ytaghbfnikcldiaa
