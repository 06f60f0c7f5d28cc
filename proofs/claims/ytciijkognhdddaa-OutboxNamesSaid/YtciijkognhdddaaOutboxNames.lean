/- OutboxNames: the law returns true: the error and the kinds have their numbers. It has no conditions. -/
import Derived.Test.YtciijkognhdddaaObAlive
import Derived.Test.YtciijkognhdddaaObSettle
import Derived.Test.YtciijkognhdddaaObArgs
namespace Go.Proofs.Ytciijkognhdddaa
open Go.ChangeShapes Go.WideShapes Go.ChangeAt Go.RowKit

set_option maxRecDepth 100000
attribute [local go_sem ↓] ldEf stEf alEf bxEf eqEf bdEf bsEf
attribute [local go_sem] al_ef bx_ef st_new bd_ef bs_ef bs_ef0

def efP : Ef := ⟨1, 1, 0, 3, 0, ⟨#[97]⟩⟩
theorem bd_p (w : World) : BdX 27 #[(0, .int .i64 1), (3, .int .i64 3), (5, .string ⟨#[97]⟩), (1, .int .i64 1)] w = .ok (.value (efV efP)) w := by kernel_rfl
theorem follow_p : followB [] efP = false := by
  have : ofB efP = false := by
    rw [ofB_both (by rfl)]
    have : emptyT efP.order = false := by
      unfold emptyT
      have e : efP.order.toList = [97] := by simp [efP, ByteArray.toList_eq]
      rw [e]; rfl
    rw [this, Bool.and_false]
  unfold followB oneB
  rw [this]
  simp

set_option maxHeartbeats 4000000 in
theorem names_walk (w : World) : Calls Try.prog 3 #[] w (Tell true w) := by
  have C1 : Hid (Calls Try.prog 9 #[.slice none 0 0, efV efP] w (OwnSE LE [] 131 w)) := Lib.hid (by
    have := add_any none 0 [] efP w (SlP.nil _ _ _) (by decide) (by simp)
    rwa [show addFV [] efP = [] by simp [addFV, follow_p], show addFN [] efP = 131 by simp [addFN, follow_p]] at this)
  have C2 := Lib.hid (fun W => show Calls Try.prog 10 #[.slice none 0 0, .int .i64 1] W (OwnSE LE [] 131 W) from settle_any none 0 [] 1 W (SlP.nil _ _ _) rfl (by simp))
  have C3 := Lib.hid (fun W => show Calls Try.prog 11 #[.slice none 0 0, .int .i64 1] W (FindP noEf 131 W) from find_any none 0 [] 1 W (SlP.nil _ _ _) rfl (by simp))
  have CB := Lib.hid (fun n W => backoff_any n W)
  have q1 := bd_p w
  have n1 : backN (-1) = 1 := by kernel_rfl
  have n2 : backN 6 = 64 := by kernel_rfl
  have n3 : backN 4611686018427387904 = 64 := by kernel_rfl
  go_enter Try.func3, Try.ntmps3
  go_wp2_with fail
  refine C1.out.mono ?_
  rintro x w1 ⟨v1, rfl, o1, b1⟩
  obtain ⟨a1, c1, rfl⟩ := o1.shape
  clear o1 q1
  go_wp2_with fail
  refine (C2.out _).mono ?_
  rintro x w2 ⟨v2, rfl, o2, b2⟩
  obtain ⟨a2, c2, rfl⟩ := o2.shape
  clear o2
  go_wp2_with fail
  refine (C3.out _).mono ?_
  rintro x w3 ⟨rfl, b3⟩
  have B3 := Lib.hid (b1.trans ((b2.trans (b3.mono b2.size)).mono b1.size))
  have B4 := Lib.hid (B3.out.alloc B3.out.size (.cells (efC noEf) 27))
  clear b1 b2 b3
  go_wp2_with fail
  refine (alive_any _).mono ?_
  rintro x w4 ⟨rfl, b4⟩
  have B5 := Lib.hid (B4.out.trans (b4.mono B4.out.size))
  clear b4
  go_wp2_with fail
  refine (CB.out _ _).mono ?_
  rintro x w5 ⟨rfl, rfl⟩
  go_wp2_with fail
  refine (CB.out _ _).mono ?_
  rintro x w5 ⟨rfl, rfl⟩
  go_wp2_with fail
  refine (CB.out _ _).mono ?_
  rintro x w5 ⟨rfl, rfl⟩
  go_wp2_with fail
  go_ret
  exact ⟨rfl, B5.out⟩



set_option maxRecDepth 100000 in
theorem outboxNames_lifted (os : Os) (started : os.Started) (H : Type) (enc : TypeId × Value → H) :
    ReturnsInHanded {} Try.checked os 3 .any (Rows.outboxNamesSpec.pre6 enc Try.prog Try.f3 Rows.outboxNamesRow.domain false) (Rows.outboxNamesSpec.post enc Try.prog Try.f3 false true false false) := by
  refine returnsInHanded_of_change (C := Try.checked) own started (by kernel_rfl) Try.func3
    (ChangeSpec.witness6 (enc := enc) (C := Try.checked) false ⟨#[], #[], []⟩ 8 (by kernel_rfl) (by kernel_rfl) (by kernel_rfl) (by kernel_rfl)) ?_
  intro W base args ds gs before hval0 hW _ _
  have hW' := hW
  obtain ⟨p, q, hA0, hV, rfl, _, _⟩ := hW
  have hA : DataW.TrodAll enc Try.prog W 0 (fun _ => true) true Try.f3.params.toList args.toList ds p := hA0
  rw [Try.params3] at hA
  obtain ⟨h1, rfl, rfl⟩ := trodAll_none hA
  have hargs : args = #[] := by simpa using h1
  subst hargs
  obtain ⟨rfl, rfl⟩ := trodVars_none hV
  clear hA0 hval0
  simp only [List.append_nil] at hW'

  refine (names_walk W).mono fun e W' ⟨he, hb⟩ => ?_
  subst he
  exact ⟨_, rfl, _, _, _, [], [], [], hW', trodAll_mk1 (shut_bool Try.underlying4 _), trodAll_mk0, rfl, hb.frame _, fun h => by cases h⟩

theorem outboxNames_holds : Rows.OutboxNamesSaid :=
  OpenClaim.holds_of_wide 3 Try.f3 rfl rfl rfl rfl rfl rfl rfl ⟨rfl, rfl, rfl, rfl, rfl⟩ rfl rfl rfl rfl rfl (by kernel_rfl) Try.func3 (by kernel_rfl)
    (of_decide_eq_true (by kernel_rfl)) (by unfold Func.isWrapper; first | (rw [if_pos (by decide +kernel)]; kernel_rfl) | (rw [if_neg (by decide +kernel)]; exact ⟨rfl, rfl⟩))
    (fun os started H enc _ => outboxNames_lifted os started H enc)
#print axioms outboxNames_holds


end Go.Proofs.Ytciijkognhdddaa
