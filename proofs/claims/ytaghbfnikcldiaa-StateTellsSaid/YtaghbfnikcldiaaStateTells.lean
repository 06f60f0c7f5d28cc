/- StateTells: the law returns true for any state: whether it hangs together is told as the document tells it. It has no conditions. -/
import Derived.Test.YtaghbfnikcldiaaMgStates
import Derived.Test.YtaghbfnikcldiaaMgProg
namespace Go.Proofs.Ytaghbfnikcldiaa
open Go.ChangeShapes Go.WideShapes Go.ChangeAt Go.RowKit

set_option maxRecDepth 100000
attribute [local go_sem ↓] ldOr stOr alOr bxOr bdOr ldBa stBa alBa bxBa bdBa ldSt stSt alSt bxSt bdSt ldEf stEf alEf bxEf eqEf bdEf bsEf ldGr bxGr eqGr ldCa bxCa eqCa
attribute [local go_sem] al_or bx_or st_ornew bd_or al_ba bx_ba st_banew bd_ba al_sta bx_sta st_stnew bd_sta al_ef bx_ef st_new bd_ef bs_ef bs_ef0 bx_gr ne_gr bx_ca ne_ca

set_option maxHeartbeats 4000000 in
theorem tells_walk (HN : NewC) (HR : RightC) (r : StR) (w : World) (h : StP w r) : Calls Try.prog 5 #[stV r] w (Tell true w) := by
  have CV := Lib.hid (fun W => alive_of HN HR W)
  have I := Lib.hid (OnI.begin w r h)
  clear h
  go_enter Try.func5, Try.ntmps5
  go_wp2_with fail
  generalize w.alloc (.cells (stC r) 29) = W0 at *
  refine (CV.out _).mono ?_
  rintro e W ⟨rfl, b1⟩
  replace I := Lib.hid (I.out.below b1)
  clear CV b1
  go_wp2_with fail
  have f1 : ∀ p : Far W, LdX 29 (.pointer (some ⟨w.heap.size, 0, none⟩)) (farOf W p) = .ok (.value (stV r)) (farOf W p) := fun p => ld_sta (I.out.below (far_below W p)).one
  have C1 := Lib.hid (fun p : Far W => great_any r _ (I.out.below (far_below W p)).st)
  cases hg : greatB r with
  | true =>
    rw [hg] at C1
    refine wp_region_far (by kernel_rfl) (by kernel_rfl) ?_
    repeat (first | go_big_quiet_step ((go_at_call 14; exact calls_far (C1.out _))) | quiet_step ((go_at_call 14; exact calls_far (C1.out _))))
    refine wpQuiet_nil ?_
    intro _ hw'
    obtain ⟨p, hw''⟩ := hw'
    subst hw''
    have B := Lib.hid (I.out.below (far_below W p)).low
    clear f1 C1
    go_wp2_with fail
    go_ret
    exact ⟨rfl, B.out⟩
  | false =>
    rw [hg] at C1
    have hf := (small_of hg).few
    have C2 := Lib.hid (fun p : Far W => HR r _ (I.out.below (far_below W p)).st hf)
    have C3 := Lib.hid (fun p : Far W => refRightS_any r _ (I.out.below (far_below W p)).st hf)
    generalize rightS r.st = q at *
    cases q
    all_goals
      refine wp_region_far (by kernel_rfl) (by kernel_rfl) ?_
      repeat (first | go_big_quiet_step (first | (go_at_call 14; exact calls_far (C1.out _)) | (go_at_call 13; exact calls_far (C2.out _)) | (go_at_call 15; exact calls_far (C3.out _))) | quiet_step (first | (go_at_call 14; exact calls_far (C1.out _)) | (go_at_call 13; exact calls_far (C2.out _)) | (go_at_call 15; exact calls_far (C3.out _))))
      refine wpQuiet_nil ?_
      intro _ hw'
      obtain ⟨p, hw''⟩ := hw'
      subst hw''
      have B := Lib.hid (I.out.below (far_below W p)).low
      clear f1 C1 C2 C3
      go_wp2_with fail
      go_ret
      exact ⟨rfl, B.out⟩


set_option maxRecDepth 100000 in
set_option maxHeartbeats 1000000 in
theorem stateTells_lifted (os : Os) (started : os.Started) (H : Type) (enc : TypeId × Value → H) :
    ReturnsInHanded {} Try.checked os 5 .any (Rows.stateTellsSpec.pre6 enc Try.prog Try.f5 Rows.stateTellsRow.domain false) (Rows.stateTellsSpec.post enc Try.prog Try.f5 false true false false) := by
  refine returnsInHanded_of_change (C := Try.checked) own started (by kernel_rfl) Try.func5
    (ChangeSpec.witness6 (enc := enc) (C := Try.checked) false ⟨#[], #[.agg #[.int .i64 0, .int .i64 0, .int .i64 0, .int .i64 0, .int .i64 0, .slice none 0 0, .int .i64 0, .int .i64 0, .int .i64 0, .slice none 0 0, .slice none 0 0, .slice none 0 0]], []⟩ 8 (by kernel_rfl) (by kernel_rfl) (by kernel_rfl) (by kernel_rfl)) ?_
  intro W base args ds gs before hval0 hW _ _
  have hval : ∀ (j : Nat) t v, Try.f5.params[j]? = some t → args[j]? = some v → Value.okWide Try.prog W .any base t v := hval0
  have hW' := hW
  obtain ⟨p, q, hA0, hV, rfl, _, _⟩ := hW
  have hA : DataW.TrodAll enc Try.prog W 0 (fun _ => true) true Try.f5.params.toList args.toList ds p := hA0
  rw [Try.params5] at hA hval
  obtain ⟨v0, vs0, d0, ds0, p0, q_0, hargs, rfl, rfl, h0, r0⟩ := trodAll_cons hA
  obtain ⟨rfl, rfl, rfl⟩ := trodAll_nil r0
  obtain rfl : args = #[v0] := by cases args; simp_all
  obtain ⟨rfl, rfl⟩ := trodVars_none hV
  clear hA0 hval0
  simp only [List.append_nil] at hW'
  obtain ⟨st0, rfl, hS0, hw0⟩ := state_of_trod (hval 0 29 v0 rfl rfl) h0
  have hlt0 : ∀ x ∈ p0, x.block < W.heap.size := fun x hx => by simpa using hW'.lt x (by simpa using (by simp [hx]))
  refine (tells_walk new_of right_of st0 W hS0).mono fun e W' ⟨he, hb⟩ => ?_
  subst he
  have hT : DataW.TrodAll enc Try.prog W' 0 (fun b => decide (b < W.heap.size)) true _ _ _ _ := (trodAll_cons_mk (Below.trod laidOut (by kernel_rfl) (of_decide_eq_true (by kernel_rfl)) h0 hb hlt0) trodAll_mk0)
  simp only [List.append_nil] at hT
  exact ⟨_, rfl, _, _, _, [], p0, [], hW', trodAll_mk1 (shut_bool Try.underlying4 _), hT, rfl, hb.frame _, fun h => by cases h⟩

theorem stateTells_holds : Rows.StateTellsSaid :=
  OpenClaim.holds_of_wide 5 Try.f5 rfl rfl rfl rfl rfl rfl rfl ⟨rfl, rfl, rfl, rfl, rfl⟩ rfl rfl rfl rfl rfl (by kernel_rfl) Try.func5 (by kernel_rfl)
    (of_decide_eq_true (by kernel_rfl)) (by unfold Func.isWrapper; first | (rw [if_pos (by decide +kernel)]; kernel_rfl) | (rw [if_neg (by decide +kernel)]; exact ⟨rfl, rfl⟩))
    (fun os started H enc _ => stateTells_lifted os started H enc)
#print axioms stateTells_holds


end Go.Proofs.Ytaghbfnikcldiaa
