/- DayWeeks: the law returns true for any numbers and any tick: what closes at a tick closes a day later, and a day ends behind each of its ticks and begins the next one. It has no conditions. -/
import Derived.Test.YtbodojmapldbjaaArgs
namespace Go.Proofs.Ytbodojmapldbjaa
open Go.ChangeShapes Go.WideShapes Go.ChangeAt Go.RowKit

theorem next_good {l : List Int} (hf : FitsP l) {t : Int} (t0 : 0 ≤ t) (t1 : t ≤ 549755813984) : nextV l t = nextRaw l t ∧ nextE l t = 0 := by
  have hg := next_gt hf t
  have : nextOk l t = true := by
    unfold nextOk
    rw [fitsB_iff.2 hf, rightB_true.2 ⟨t0, by omega⟩, decide_eq_true (by omega)]; rfl
  simp [nextV, nextE, this]

theorem end_good {t : Int} (t0 : 0 ≤ t) (t1 : t ≤ 549755813888) : endV t = (t / 96 + 1) * 96 ∧ endE t = 0 := by
  have : endOk t = true := by
    unfold endOk
    rw [rightB_true.2 ⟨t0, by omega⟩, decide_eq_true (by omega)]; rfl
  simp [endV, endE, this]

theorem of_good {t : Int} (t0 : 0 ≤ t) (t1 : t ≤ 1099511627776) : ofD t = t / 96 ∧ ofT t = t % 96 := by
  have := rightB_true.2 ⟨t0, t1⟩
  simp [ofD, ofT, this]

set_option maxHeartbeats 4000000 in
theorem weeks_walk (a : Option Addr) (cap : Nat) (l : List Int) (t : Int) (w : World) (h : IntsP w a cap l) (hm : l.length ≤ maxLen) : Calls Try.prog 8 #[.slice a l.length cap, .int .i64 t] w (TrueB w) := by
  have H := Lib.hid h
  clear h
  have C1 := Lib.hid (fun W (hw : IntsP W a cap l) => doors_any a cap l W hw hm)
  have HM := Lib.hid hm
  unfold maxLen at hm
  rcases doorsE_cases l with hE | hE
  case inr =>
    have HE := Lib.hid hE
    clear hE
    go_enter Try.func8, Try.ntmps8
    go_wp2_with fail
    refine (alive_any _).mono ?_
    rintro e w1 ⟨rfl, b1⟩
    go_wp2_with fail
    refine (C1.out _ (H.out.below b1)).mono ?_
    rintro e w2 ⟨a2, c2, rfl, i2, b2⟩
    have b3 := b1.trans (b2.mono b1.size)
    have I2 := Lib.hid i2
    clear i2
    rw [HE.out]
    generalize doorsV l = D at *
    go_wp2_with fail
    go_ret
    exact ⟨rfl, b3⟩
  case inl =>
    have HE := Lib.hid hE
    have HF := Lib.hid (doorsV_fits hE)
    clear hE
    cases ht : decide (200 < (l.length : Int)) with
    | true =>
      go_enter Try.func8, Try.ntmps8
      go_wp2_with fail
      refine (alive_any _).mono ?_
      rintro e w1 ⟨rfl, b1⟩
      go_wp2_with fail
      refine (C1.out _ (H.out.below b1)).mono ?_
      rintro e w2 ⟨a2, c2, rfl, i2, b2⟩
      have b3 := b1.trans (b2.mono b1.size)
      have I2 := Lib.hid i2
      clear i2
      rw [HE.out]
      generalize doorsV l = D at *
      go_wp2_with fail
      go_ret
      exact ⟨rfl, b3⟩
    | false =>
      cases h0 : decide (t < 0) with
      | true =>
        go_enter Try.func8, Try.ntmps8
        go_wp2_with fail
        refine (alive_any _).mono ?_
        rintro e w1 ⟨rfl, b1⟩
        go_wp2_with fail
        refine (C1.out _ (H.out.below b1)).mono ?_
        rintro e w2 ⟨a2, c2, rfl, i2, b2⟩
        have b3 := b1.trans (b2.mono b1.size)
        have I2 := Lib.hid i2
        clear i2
        rw [HE.out]
        generalize doorsV l = D at *
        go_wp2_with fail
        go_ret
        exact ⟨rfl, b3⟩
      | false =>
        cases h1 : decide (549755813888 < t) with
        | true =>
          go_enter Try.func8, Try.ntmps8
          go_wp2_with fail
          refine (alive_any _).mono ?_
          rintro e w1 ⟨rfl, b1⟩
          go_wp2_with fail
          refine (C1.out _ (H.out.below b1)).mono ?_
          rintro e w2 ⟨a2, c2, rfl, i2, b2⟩
          have b3 := b1.trans (b2.mono b1.size)
          have I2 := Lib.hid i2
          clear i2
          rw [HE.out]
          generalize doorsV l = D at *
          go_wp2_with fail
          go_ret
          exact ⟨rfl, b3⟩
        | false =>
          have t0 : 0 ≤ t := by simpa using h0
          have t1 : t ≤ 549755813888 := by simpa using h1
          have hdl := doorsV_len l
          have C2 := Lib.hid (fun a cap W (hw : IntsP W a cap (doorsV l)) => next_any a cap (doorsV l) t W hw (by unfold maxLen; omega))
          have C3 := Lib.hid (fun a cap W (hw : IntsP W a cap (doorsV l)) => next_any a cap (doorsV l) (t + 96) W hw (by unfold maxLen; omega))
          rw [(next_good HF.out t0 (by omega)).1, (next_good HF.out t0 (by omega)).2] at C2
          rw [(next_good HF.out (t := t + 96) (by omega) (by omega)).1, (next_good HF.out (t := t + 96) (by omega) (by omega)).2, next_day] at C3
          have C4 := Lib.hid (fun W => end_any t W)
          rw [(end_good t0 t1).1, (end_good t0 t1).2] at C4
          have C5 := Lib.hid (fun W => of_any ((t / 96 + 1) * 96) W)
          rw [(of_good (t := (t / 96 + 1) * 96) (by omega) (by omega)).1, (of_good (t := (t / 96 + 1) * 96) (by omega) (by omega)).2, show (t / 96 + 1) * 96 / 96 = t / 96 + 1 by omega, show (t / 96 + 1) * 96 % 96 = 0 by omega] at C5
          have C6 := Lib.hid (fun W => of_any t W)
          rw [(of_good t0 (by omega)).1, (of_good t0 (by omega)).2] at C6
          obtain ⟨g0, g1⟩ := next_gt HF.out t
          have q0 : 0 ≤ t / 96 := by omega
          have q1 : t / 96 ≤ 11453246123 := by omega
          have m0 : t < (t / 96 + 1) * 96 := by omega
          have m1 : (t / 96 + 1) * 96 ≤ t + 96 := by omega
          generalize (t / 96 + 1) * 96 = en at *
          generalize nextRaw (doorsV l) t = r at *
          generalize t % 96 = tr at *
          generalize t / 96 = td at *
          have d1 : decide (t < en) = true := by simpa using m0
          have d2 : decide (en ≤ t + 96) = true := by simpa using m1
          clear HF
          go_enter Try.func8, Try.ntmps8
          go_wp2_with fail
          refine (alive_any _).mono ?_
          rintro e w1 ⟨rfl, b1⟩
          go_wp2_with fail
          refine (C1.out _ (H.out.below b1)).mono ?_
          rintro e w2 ⟨a2, c2, rfl, i2, b2⟩
          have b3 := b1.trans (b2.mono b1.size)
          have I2 := Lib.hid i2
          clear i2
          rw [HE.out]
          generalize doorsV l = D at *
          go_wp2_with fail
          refine (C2.out _ _ _ I2.out).mono ?_
          rintro e w3 ⟨rfl, b4⟩
          have b5 := b3.trans (b4.mono b3.size)
          go_wp2_with fail
          refine (C3.out _ _ _ (I2.out.below b4)).mono ?_
          rintro e w4 ⟨rfl, b6⟩
          have b7 := b5.trans (b6.mono b5.size)
          go_wp2_with fail
          refine (C4.out _).mono ?_
          rintro e w' ⟨rfl, rfl⟩
          go_wp2_with fail
          refine (C5.out _).mono ?_
          rintro e w' ⟨rfl, rfl⟩
          go_wp2_with fail
          refine (C6.out _).mono ?_
          rintro e w' ⟨rfl, rfl⟩
          go_wp2_with fail
          go_ret
          exact ⟨rfl, b7⟩



set_option maxRecDepth 100000 in
theorem dayWeeks_lifted (os : Os) (started : os.Started) (H : Type) (enc : TypeId × Value → H) :
    ReturnsInHanded {} Try.checked os 8 .any (Rows.dayWeeksSpec.pre6 enc Try.prog Try.f8 Rows.dayWeeksRow.domain false) (Rows.dayWeeksSpec.post enc Try.prog Try.f8 false true false false) := by
  refine returnsInHanded_of_change (C := Try.checked) own started (by kernel_rfl) Try.func8
    (ChangeSpec.witness6 (enc := enc) (C := Try.checked) false ⟨#[], #[.slice none 0 0, .int .i64 0], []⟩ 8 (by kernel_rfl) (by kernel_rfl) (by kernel_rfl) (by kernel_rfl)) ?_
  intro W base args ds gs before hval0 hW _ _
  have hval : ∀ (j : Nat) t v, Try.f8.params[j]? = some t → args[j]? = some v → Value.okWide Try.prog W .any base t v := hval0
  have hW' := hW
  obtain ⟨p, q, hA0, hV, rfl, _, _⟩ := hW
  have hA : DataW.TrodAll enc Try.prog W 0 (fun _ => true) true Try.f8.params.toList args.toList ds p := hA0
  rw [Try.params8] at hA hval
  obtain ⟨v0, vs0, d0, ds0, p0, q_0, hargs, rfl, rfl, h0, r0⟩ := trodAll_cons hA
  obtain ⟨v1, vs1, d1, ds1, p1, q_1, rfl, rfl, rfl, h1, r1⟩ := trodAll_cons r0
  obtain ⟨rfl, rfl, rfl⟩ := trodAll_nil r1
  obtain rfl : args = #[v0, v1] := by cases args; simp_all
  obtain ⟨rfl, rfl⟩ := trodVars_none hV
  clear hA0 hval0
  simp only [List.append_nil] at hW'
  obtain ⟨q0, cap0, l0, rfl, hS0, hm0⟩ := ints_of_trod (hval 0 22 v0 rfl rfl) h0
  have hlt0 : ∀ x ∈ p0, x.block < W.heap.size := fun x hx => by simpa using hW'.lt x (by simpa using (by simp [hx]))
  obtain ⟨a1, rfl, rfl, rfl, w1⟩ := open_int Try.underlying2 (hval 1 2 v1 rfl rfl) h1
  refine (weeks_walk q0 cap0 l0 a1 W hS0 hm0.1).mono fun e W' ⟨he, hb⟩ => ?_
  subst he
  have hT : DataW.TrodAll enc Try.prog W' 0 (fun b => decide (b < W.heap.size)) true _ _ _ _ := (trodAll_cons_mk (Below.trod laidOut (by kernel_rfl) (of_decide_eq_true (by kernel_rfl)) h0 hb hlt0) (trodAll_cons_mk (shut_int Try.underlying2 w1) trodAll_mk0))
  simp only [List.append_nil] at hT
  exact ⟨_, rfl, _, _, _, [], p0, [], hW', trodAll_mk1 (shut_bool Try.underlying4 _), hT, rfl, hb.frame _, fun h => by cases h⟩

theorem dayWeeks_holds : Rows.DayWeeksSaid :=
  OpenClaim.holds_of_wide 8 Try.f8 rfl rfl rfl rfl rfl rfl rfl ⟨rfl, rfl, rfl, rfl, rfl⟩ rfl rfl rfl rfl rfl (by kernel_rfl) Try.func8 (by kernel_rfl)
    (of_decide_eq_true (by kernel_rfl)) (by unfold Func.isWrapper; first | (rw [if_pos (by decide +kernel)]; kernel_rfl) | (rw [if_neg (by decide +kernel)]; exact ⟨rfl, rfl⟩))
    (fun os started H enc _ => dayWeeks_lifted os started H enc)
#print axioms dayWeeks_holds


end Go.Proofs.Ytbodojmapldbjaa
