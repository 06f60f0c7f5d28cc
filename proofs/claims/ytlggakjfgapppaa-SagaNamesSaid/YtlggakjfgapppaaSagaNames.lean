/- SagaNames: the law returns true: phases, events, kinds and errors have their numbers. It has no conditions. -/
import Derived.Test.YtlggakjfgapppaaSgStep
import Derived.Test.YtlggakjfgapppaaSgAlive
import Derived.Test.YtlggakjfgapppaaSgProg
import Derived.Test.YtlggakjfgapppaaSgAsk
import Derived.Test.YtlggakjfgapppaaSgArgs
namespace Go.Proofs.Ytlggakjfgapppaa
open Go.ChangeShapes Go.WideShapes Go.ChangeAt Go.RowKit

set_option maxRecDepth 100000
attribute [local go_sem ↓] ldSg stSg alSg bxSg eqSg bdSg
attribute [local go_sem] al_sg bx_sg bd_sg bd_sg0 st_sgnew

set_option maxHeartbeats 2000000 in
theorem names_walk (HS : StepC) (w : World) : Calls Try.prog 3 #[] w (Tell true w) := by
  have CV := Lib.hid (fun W => alive_of HS W)
  clear HS
  go_enter Try.func3, Try.ntmps3
  go_wp2_with fail
  go_loopw [1] (fun s1 wr => ∃ p : Int, s1 = .int .i64 p ∧ -1 ≤ p ∧ p ≤ 15 ∧ Hid (Below w.heap.size w wr)) (fun s1 _ => (15 - intOf s1).toNat)
  case atStart => exact ⟨-1, rfl, by omega, by omega, Lib.hid (Below.refl _ _)⟩
  case round =>
    obtain ⟨p, rfl, h1, h2, hbw⟩ := hrel
    by_cases hlt : p < 15
    · have C1 := Lib.hid (fun W => asks_any p W)
      have C2 := Lib.hid (fun W => refAsks_any p W (by omega))
      have C3 := Lib.hid (fun W => left_any ⟨p, false, 0⟩ W)
      have HL := Lib.hid (show leftB p = (p == 7 || p == 8) from rfl)
      dsimp only at C3
      generalize asksN p = q at *
      generalize leftB p = L at *
      go_wp2_with fail
      refine (C1.out _).mono ?_
      rintro x w1 ⟨rfl, b1⟩
      have B1 := Lib.hid (hbw.out.trans (b1.mono hbw.out.size))
      clear b1
      go_wp2_with fail
      refine (C2.out _).mono ?_
      rintro x w2 ⟨rfl, b2⟩
      have B2 := Lib.hid (B1.out.trans (b2.mono B1.out.size))
      clear b2
      go_wp2_with fail
      refine (C3.out _).mono ?_
      rintro x w3 ⟨rfl, b3⟩
      have B3 := Lib.hid (B2.out.trans (b3.mono B2.out.size))
      clear b3 C1 C2 C3 B1 B2 hbw
      cases h7 : (p == 7) <;> cases h8 : (p == 8)
      all_goals
        rw [h7, h8] at HL
        obtain rfl := HL.out
        go_wp2_with fail
        go_roundw
        case rel => exact ⟨p + 1, by go_num, by omega, by omega, B3⟩
        case measure => simp [intOf]; omega
    · go_wp2_with fail
      refine (CV.out _).mono ?_
      rintro x w1 ⟨rfl, b1⟩
      have B1 := Lib.hid (hbw.out.trans (b1.mono hbw.out.size))
      go_wp2_with fail
      go_ret
      exact ⟨rfl, B1.out⟩



set_option maxRecDepth 100000 in
theorem sagaNames_lifted (os : Os) (started : os.Started) (H : Type) (enc : TypeId × Value → H) :
    ReturnsInHanded {} Try.checked os 3 .any (Rows.sagaNamesSpec.pre6 enc Try.prog Try.f3 Rows.sagaNamesRow.domain false) (Rows.sagaNamesSpec.post enc Try.prog Try.f3 false true false false) := by
  refine returnsInHanded_of_change (C := Try.checked) own started (by kernel_rfl) Try.func3
    (ChangeSpec.witness6 (enc := enc) (C := Try.checked) false ⟨#[], #[], []⟩ 8 (by kernel_rfl) (by kernel_rfl) (by kernel_rfl) (by kernel_rfl)) ?_
  intro W base args ds gs before hval0 hW _ _
  have hW' := hW
  obtain ⟨p, q, hA0, hV, rfl, _, _⟩ := hW
  have hA : DataW.TrodAll enc Try.prog W 0 (fun _ => true) true Try.f3.params.toList args.toList ds p := hA0
  rw [Try.params3] at hA
  obtain ⟨h1, rfl, rfl⟩ := trodAll_none hA
  have hargs : args = #[] := by simpa using h1
  subst hargs
  obtain ⟨rfl, rfl⟩ := trodVars_none hV
  clear hA0 hval0
  simp only [List.append_nil] at hW'

  refine (names_walk step_any W).mono fun e W' ⟨he, hb⟩ => ?_
  subst he
  exact ⟨_, rfl, _, _, _, [], [], [], hW', trodAll_mk1 (shut_bool Try.underlying4 _), trodAll_mk0, rfl, hb.frame _, fun h => by cases h⟩

theorem sagaNames_holds : Rows.SagaNamesSaid :=
  OpenClaim.holds_of_wide 3 Try.f3 rfl rfl rfl rfl rfl rfl rfl ⟨rfl, rfl, rfl, rfl, rfl⟩ rfl rfl rfl rfl rfl (by kernel_rfl) Try.func3 (by kernel_rfl)
    (of_decide_eq_true (by kernel_rfl)) (by unfold Func.isWrapper; first | (rw [if_pos (by decide +kernel)]; kernel_rfl) | (rw [if_neg (by decide +kernel)]; exact ⟨rfl, rfl⟩))
    (fun os started H enc _ => sagaNames_lifted os started H enc)
#print axioms sagaNames_holds


end Go.Proofs.Ytlggakjfgapppaa
