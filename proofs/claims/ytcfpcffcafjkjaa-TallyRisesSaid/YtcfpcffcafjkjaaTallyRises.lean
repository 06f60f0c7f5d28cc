/- TallyRises: the law returns true for every three numbers: more of one is more of all, and the least and the greatest have their places. It has no conditions. -/
import Derived.Test.YtcfpcffcafjkjaaShare
import Derived.Test.YtcfpcffcafjkjaaRows
import Derived.ProofKit
import Derived.OpenShut
import Derived.ChangeSlices
namespace Go.Proofs.Ytcfpcffcafjkjaa
open Go.ChangeShapes Go.WideShapes Go.ChangeAt Go.RowKit

theorem add_facts (a c : Int) : addE a c = 0 → addV a c = a + c ∧ okT a = true := by
  unfold addE addV addOk
  cases okT a <;> simp
  intro h1 h2
  simp [h1, h2]
theorem times_facts (a c : Int) : timesE a c = 0 → timesV a c = a * c ∧ 0 ≤ c := by
  unfold timesE timesV timesOk
  cases h : okT c <;> simp
  intro h1 h2
  exact ⟨by simp [h1, h2], (okT_true.1 h).1⟩
theorem add_zero_facts (a : Int) : (okT a = false ∧ addE a 0 = 21) ∨ (okT a = true ∧ addE a 0 = 0 ∧ addV a 0 = a) := by
  have h0 : okT 0 = true := by decide
  cases h : okT a
  · left; simp [addE, addOk, h]
  · right; simp [addE, addV, addOk, h, h0]

set_option maxHeartbeats 8000000 in
theorem rises_walk (a b c : Int) (w : World) : Calls Try.prog 8 #[.int .i64 a, .int .i64 b, .int .i64 c] w (TrueB w) := by
  have C1 := Lib.hid (fun W => add_any a c W)
  have C2 := Lib.hid (fun W => add_any b c W)
  have C3 := Lib.hid (fun W => times_any a c W)
  have C4 := Lib.hid (fun W => times_any b c W)
  have C5 := Lib.hid (fun W => add_any a 0 W)
  have C6 := Lib.hid (fun W => right_any a W)
  have F1 := add_facts a c
  have F2 := add_facts b c
  have F3 := times_facts a c
  have F4 := times_facts b c
  have F5 := add_zero_facts a
  generalize addV a c = p at *
  generalize addE a c = e1 at *
  generalize addV b c = q at *
  generalize addE b c = f1 at *
  generalize timesV a c = r at *
  generalize timesE a c = g1 at *
  generalize timesV b c = s at *
  generalize timesE b c = h1 at *
  generalize addV a 0 = z at *
  generalize addE a 0 = i1 at *
  generalize okT a = oa at *
  have K1 : (e1 == 0) = false ∨ ((e1 == 0) = true ∧ (f1 == 0) = false) ∨ ((e1 == 0) = true ∧ (f1 == 0) = true ∧ decide (p < q) = true ∧ decide (a < b) = true) ∨ ((e1 == 0) = true ∧ (f1 == 0) = true ∧ decide (p < q) = false ∧ decide (a < b) = false) := by
    by_cases x1 : e1 = 0
    · by_cases x2 : f1 = 0
      · have y1 := (F1 x1).1
        have y2 := (F2 x2).1
        right; right
        by_cases x3 : a < b
        · left; refine ⟨by simpa using x1, by simpa using x2, by simp; omega, by simpa using x3⟩
        · right; refine ⟨by simpa using x1, by simpa using x2, by simp; omega, by simpa using x3⟩
      · right; left; exact ⟨by simpa using x1, by simpa using x2⟩
    · left; simpa using x1
  have K2 : (g1 == 0) = false ∨ ((g1 == 0) = true ∧ (h1 == 0) = false) ∨ ((g1 == 0) = true ∧ (h1 == 0) = true ∧ decide (a ≤ b) = false) ∨ ((g1 == 0) = true ∧ (h1 == 0) = true ∧ decide (a ≤ b) = true ∧ decide (s < r) = false) := by
    by_cases x1 : g1 = 0
    · by_cases x2 : h1 = 0
      · have y1 := F3 x1
        have y2 := F4 x2
        right; right
        by_cases x3 : a ≤ b
        · right
          have := Int.mul_le_mul_of_nonneg_right x3 y1.2
          refine ⟨by simpa using x1, by simpa using x2, by simpa using x3, by simp; omega⟩
        · left; exact ⟨by simpa using x1, by simpa using x2, by simpa using x3⟩
      · right; left; exact ⟨by simpa using x1, by simpa using x2⟩
    · left; simpa using x1
  have K3 : (oa = false ∧ (i1 == 0) = false ∧ (i1 != 0) = true) ∨ (oa = true ∧ (i1 == 0) = true ∧ (i1 != 0) = false ∧ (z == a) = true) := by
    rcases F5 with ⟨rfl, rfl⟩ | ⟨rfl, rfl, rfl⟩
    · left; simp
    · right; simp
  clear F1 F2 F3 F4 F5
  rcases K3 with ⟨rfl, k5, k6⟩ | ⟨rfl, k5, k6, k7⟩
  all_goals
    rcases K1 with k1 | ⟨k1, k2⟩ | ⟨k1, k2, k3, k4⟩ | ⟨k1, k2, k3, k4⟩
    all_goals
      rcases K2 with m1 | ⟨m1, m2⟩ | ⟨m1, m2, m3⟩ | ⟨m1, m2, m3, m4⟩
      all_goals
        go_enter Try.func8, Try.ntmps8
        go_wp2_with fail
        refine (alive_any _).mono ?_
        rintro e w1 ⟨rfl, b1⟩
        go_wp2_with fail
        refine (C1.out _).mono ?_
        rintro e w2 ⟨rfl, b2⟩
        have B := b1.trans (b2.mono b1.size)
        clear b1 b2
        go_wp2_with fail
        refine (C2.out _).mono ?_
        rintro e w3 ⟨rfl, b3⟩
        have B3 := B.trans (b3.mono B.size)
        clear B b3
        go_wp2_with fail
        refine (C3.out _).mono ?_
        rintro e w' ⟨rfl, rfl⟩
        go_wp2_with fail
        refine (C4.out _).mono ?_
        rintro e w' ⟨rfl, rfl⟩
        go_wp2_with fail
        refine (C5.out _).mono ?_
        rintro e w4 ⟨rfl, b4⟩
        have B4 := B3.trans (b4.mono B3.size)
        clear B3 b4
        go_wp2_with fail
        refine (C6.out _).mono ?_
        rintro e w' ⟨rfl, rfl⟩
        go_wp2_with fail
        try (refine (C6.out _).mono ?_; rintro e w' ⟨rfl, rfl⟩; go_wp2_with fail)
        go_ret
        exact ⟨rfl, B4⟩

theorem own : ownKnob Try.prog.godebug = none := by kernel_rfl

set_option maxRecDepth 100000 in
theorem tallyRises_lifted (os : Os) (started : os.Started) (H : Type) (enc : TypeId × Value → H) :
    ReturnsInHanded {} Try.checked os 8 .any (Rows.tallyRisesSpec.pre6 enc Try.prog Try.f8 Rows.tallyRisesRow.domain false) (Rows.tallyRisesSpec.post enc Try.prog Try.f8 false true false false) := by
  refine returnsInHanded_of_change (C := Try.checked) own started (by kernel_rfl) Try.func8
    (ChangeSpec.witness6 (enc := enc) (C := Try.checked) false ⟨#[], #[.int .i64 0, .int .i64 0, .int .i64 0], []⟩ 8 (by kernel_rfl) (by kernel_rfl) (by kernel_rfl) (by kernel_rfl)) ?_
  intro W base args ds gs before hval0 hW hcnd _
  have hval : ∀ (j : Nat) t v, Try.f8.params[j]? = some t → args[j]? = some v → Value.okWide Try.prog W .any base t v := hval0
  have hW' := hW
  obtain ⟨p, q, hA0, hV, rfl, hfz, hnd⟩ := hW
  have hA : DataW.TrodAll enc Try.prog W 0 (fun _ => true) true Try.f8.params.toList args.toList ds p := hA0
  rw [Try.params8] at hA hval
  obtain ⟨v0, vs0, d0, ds0, p0, q_0, hargs, rfl, rfl, h0, r0⟩ := trodAll_cons hA
  obtain ⟨v1, vs1, d1, ds1, p1, q_1, rfl, rfl, rfl, h1, r1⟩ := trodAll_cons r0
  obtain ⟨v2, vs2, d2, ds2, p2, q_2, rfl, rfl, rfl, h2, r2⟩ := trodAll_cons r1
  obtain ⟨rfl, rfl, rfl⟩ := trodAll_nil r2
  obtain rfl : args = #[v0, v1, v2] := by cases args; simp_all
  obtain ⟨rfl, rfl⟩ := trodVars_none hV
  clear hA0 hval0
  simp only [List.append_nil, List.nil_append] at hW'
  obtain ⟨a0, rfl, rfl, rfl, w0⟩ := open_int Try.underlying2 (hval 0 2 v0 rfl rfl) h0
  obtain ⟨a1, rfl, rfl, rfl, w1⟩ := open_int Try.underlying2 (hval 1 2 v1 rfl rfl) h1
  obtain ⟨a2, rfl, rfl, rfl, w2⟩ := open_int Try.underlying2 (hval 2 2 v2 rfl rfl) h2
  refine (rises_walk a0 a1 a2 W).mono fun e W' ⟨he, hb⟩ => ?_
  subst he
  exact ⟨_, rfl, _, _, _, [], [], [], hW', trodAll_mk1 (shut_bool Try.underlying4 _), (trodAll_cons_mk (shut_int Try.underlying2 w0) (trodAll_cons_mk (shut_int Try.underlying2 w1) (trodAll_cons_mk (shut_int Try.underlying2 w2) trodAll_mk0))), rfl, hb.frame _, fun h => by cases h⟩

theorem tallyRises_holds : Rows.TallyRisesSaid :=
  OpenClaim.holds_of_wide 8 Try.f8 rfl rfl rfl rfl rfl rfl rfl ⟨rfl, rfl, rfl, rfl, rfl⟩ rfl rfl rfl rfl rfl (by kernel_rfl) Try.func8 (by kernel_rfl)
    (of_decide_eq_true (by kernel_rfl)) (by unfold Func.isWrapper; first | (rw [if_pos (by decide +kernel)]; kernel_rfl) | (rw [if_neg (by decide +kernel)]; exact ⟨rfl, rfl⟩))
    (fun os started H enc _ => tallyRises_lifted os started H enc)
#print axioms tallyRises_holds

end Go.Proofs.Ytcfpcffcafjkjaa
