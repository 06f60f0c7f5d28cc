/- SagaSteps: the law returns true for any saga and any two numbers: the step is the document's. It has no conditions. -/
import Derived.Test.YtlggakjfgapppaaSgStep
import Derived.Test.YtlggakjfgapppaaSgAlive
import Derived.Test.YtlggakjfgapppaaSgProg
import Derived.Test.YtlggakjfgapppaaSgRef
import Derived.Test.YtlggakjfgapppaaSgArgs
namespace Go.Proofs.Ytlggakjfgapppaa
open Go.ChangeShapes Go.WideShapes Go.ChangeAt Go.RowKit

set_option maxRecDepth 100000
attribute [local go_sem ↓] ldSg stSg alSg bxSg eqSg bdSg
attribute [local go_sem] al_sg bx_sg bd_sg bd_sg0 st_sgnew

set_option maxHeartbeats 2000000 in
theorem steps_walk (HS : StepC) (s : Sg) (event limit : Int) (w : World) : Calls Try.prog 4 #[sgV s, .int .i64 event, .int .i64 limit] w (Tell true w) := by
  have CV := Lib.hid (fun W => alive_of HS W)
  have R0 := Lib.hid (Row.new w (sgC s) 25)
  have B0 := Lib.hid ((Below.refl w.heap.size w).alloc (Nat.le_refl _) (.cells (sgC s) 25))
  go_enter Try.func4, Try.ntmps4
  go_wp2_with fail
  generalize w.alloc (.cells (sgC s) 25) = W0 at *
  refine (CV.out _).mono ?_
  rintro x W1 ⟨rfl, b1⟩
  have R1 := Lib.hid (R0.out.below b1)
  have B1 := Lib.hid (B0.out.trans (b1.mono B0.out.size))
  obtain ⟨⟨_, _, c2⟩, _⟩ := R1.out.s
  have ld := ld_sg R1.out
  clear b1 R0 B0 CV
  by_cases h0 : s.ref < 0
  · go_wp2_with fail
    go_ret
    exact ⟨rfl, B1.out⟩
  · by_cases h1 : 1000000 < s.ref
    · go_wp2_with fail
      go_ret
      exact ⟨rfl, B1.out⟩
    · have C1 := Lib.hid (fun W => HS s event limit W (by omega))
      have C2 := Lib.hid (fun W => refStep_any s event limit W (by omega))
      clear HS
      generalize (stepS s event limit).2.1 = n at *
      generalize (stepS s event limit).2.2 = m at *
      unfold StepP at C1 C2
      generalize (stepS s event limit).1 = z at *
      generalize (stepS s event limit).2.1 = n at *
      generalize (stepS s event limit).2.2 = m at *
      go_wp2_with fail
      refine (C1.out _).mono ?_
      rintro x W2 ⟨rfl, b2⟩
      have R2 := Lib.hid ((R1.out.below b2).more (.cells (sgC z) 25))
      have B2 := Lib.hid ((B1.out.trans (b2.mono B1.out.size)).alloc (Nat.le_trans B1.out.size b2.size) (.cells (sgC z) 25))
      have Q2 := Lib.hid (Row.new W2 (sgC z) 25)
      clear b2 ld c2 R1 B1 C1
      have ld := ld_sg R2.out
      go_wp2_with fail
      generalize W2.alloc (.cells (sgC z) 25) = W3 at *
      generalize W2.heap.size = X at *
      refine (C2.out _).mono ?_
      rintro x W4 ⟨rfl, b4⟩
      have B4 := Lib.hid ((B2.out.trans (b4.mono B2.out.size)).alloc (Nat.le_trans B2.out.size b4.size) (.cells (sgC z) 25))
      have Q4 := Lib.hid ((Q2.out.below b4).more (.cells (sgC z) 25))
      have P4 := Lib.hid (Row.new W4 (sgC z) 25)
      clear b4 ld R2 B2 C2 Q2
      have ld1 := ld_sg Q4.out
      have ld2 := ld_sg P4.out
      have eq : ∀ W a b, EqX .eql 25 a b (sgV z) (sgV z) W = .ok (.value (.bool true)) W := fun W a b => by
        have := eq_sg W z z a b
        rwa [sgEq_self] at this
      go_wp2_with fail
      go_ret
      exact ⟨by simp, B4.out⟩



set_option maxRecDepth 100000 in
theorem sagaSteps_lifted (os : Os) (started : os.Started) (H : Type) (enc : TypeId × Value → H) :
    ReturnsInHanded {} Try.checked os 4 .any (Rows.sagaStepsSpec.pre6 enc Try.prog Try.f4 Rows.sagaStepsRow.domain false) (Rows.sagaStepsSpec.post enc Try.prog Try.f4 false true false false) := by
  refine returnsInHanded_of_change (C := Try.checked) own started (by kernel_rfl) Try.func4
    (ChangeSpec.witness6 (enc := enc) (C := Try.checked) false ⟨#[], #[.agg #[.int .i64 0, .bool false, .int .i64 0], .int .i64 0, .int .i64 0], []⟩ 8 (by kernel_rfl) (by kernel_rfl) (by kernel_rfl) (by kernel_rfl)) ?_
  intro W base args ds gs before hval0 hW _ _
  have hval : ∀ (j : Nat) t v, Try.f4.params[j]? = some t → args[j]? = some v → Value.okWide Try.prog W .any base t v := hval0
  have hW' := hW
  obtain ⟨p, q, hA0, hV, rfl, _, _⟩ := hW
  have hA : DataW.TrodAll enc Try.prog W 0 (fun _ => true) true Try.f4.params.toList args.toList ds p := hA0
  rw [Try.params4] at hA hval
  obtain ⟨v0, vs0, d0, ds0, p0, q_0, hargs, rfl, rfl, h0, r0⟩ := trodAll_cons hA
  obtain ⟨v1, vs1, d1, ds1, p1, q_1, rfl, rfl, rfl, h1, r1⟩ := trodAll_cons r0
  obtain ⟨v2, vs2, d2, ds2, p2, q_2, rfl, rfl, rfl, h2, r2⟩ := trodAll_cons r1
  obtain ⟨rfl, rfl, rfl⟩ := trodAll_nil r2
  obtain rfl : args = #[v0, v1, v2] := by cases args; simp_all
  obtain ⟨rfl, rfl⟩ := trodVars_none hV
  clear hA0 hval0
  simp only [List.append_nil] at hW'
  obtain ⟨s0, rfl⟩ := saga_of_trod (hval 0 25 v0 rfl rfl) h0
  have hlt0 : ∀ x ∈ p0, x.block < W.heap.size := fun x hx => by simpa using hW'.lt x (by simpa using (by simp [hx]))
  obtain ⟨a1, rfl, rfl, rfl, w1⟩ := open_int Try.underlying3 (hval 1 3 v1 rfl rfl) h1
  obtain ⟨a2, rfl, rfl, rfl, w2⟩ := open_int Try.underlying3 (hval 2 3 v2 rfl rfl) h2
  refine (steps_walk step_any s0 a1 a2 W).mono fun e W' ⟨he, hb⟩ => ?_
  subst he
  have hT : DataW.TrodAll enc Try.prog W' 0 (fun b => decide (b < W.heap.size)) true _ _ _ _ := (trodAll_cons_mk (Below.trod laidOut (by kernel_rfl) (of_decide_eq_true (by kernel_rfl)) h0 hb hlt0) (trodAll_cons_mk (shut_int Try.underlying3 w1) (trodAll_cons_mk (shut_int Try.underlying3 w2) trodAll_mk0)))
  simp only [List.append_nil] at hT
  exact ⟨_, rfl, _, _, _, [], p0, [], hW', trodAll_mk1 (shut_bool Try.underlying4 _), hT, rfl, hb.frame _, fun h => by cases h⟩

theorem sagaSteps_holds : Rows.SagaStepsSaid :=
  OpenClaim.holds_of_wide 4 Try.f4 rfl rfl rfl rfl rfl rfl rfl ⟨rfl, rfl, rfl, rfl, rfl⟩ rfl rfl rfl rfl rfl (by kernel_rfl) Try.func4 (by kernel_rfl)
    (of_decide_eq_true (by kernel_rfl)) (by unfold Func.isWrapper; first | (rw [if_pos (by decide +kernel)]; kernel_rfl) | (rw [if_neg (by decide +kernel)]; exact ⟨rfl, rfl⟩))
    (fun os started H enc _ => sagaSteps_lifted os started H enc)
#print axioms sagaSteps_holds


end Go.Proofs.Ytlggakjfgapppaa
