/- DayPassed: the law returns true for any doors and any two ticks: Passed of package day counts as the document's own words do, tick by tick. It has no conditions. -/
import Derived.Test.YtbodojmapldbjaaArgs
namespace Go.Proofs.Ytbodojmapldbjaa
open Go.ChangeShapes Go.WideShapes Go.ChangeAt Go.RowKit

/-- One tick more, counted. -/
theorem close_count {l : List Int} (hf : FitsP l) {f n : Int} (f0 : 0 ≤ f) (h : f ≤ n) : closeN l (n + 1) - closeN l f = (closeN l n - closeN l f) + if closesB l (n + 1) then 1 else 0 := by
  have := closeN_step hf (t := n) (by omega)
  omega

set_option maxHeartbeats 4000000 in
theorem passed_walk (a : Option Addr) (cap : Nat) (l : List Int) (f t : Int) (w : World) (h : IntsP w a cap l) (hm : l.length ≤ maxLen) : Calls Try.prog 6 #[.slice a l.length cap, .int .i64 f, .int .i64 t] w (TrueB w) := by
  have H := Lib.hid h
  clear h
  have HM := Lib.hid hm
  unfold maxLen at hm
  cases ht : decide (200 < (l.length : Int)) with
  | true =>
    go_enter Try.func6, Try.ntmps6
    go_wp2_with fail
    refine (alive_any _).mono ?_
    rintro e w1 ⟨rfl, b1⟩
    go_wp2_with fail
    go_ret
    exact ⟨rfl, b1⟩
  | false =>
    have C1 := Lib.hid (fun W (hw : IntsP W a cap l) => passed_any a cap l f t W hw HM.out)
    have C2 := Lib.hid (fun W (hw : IntsP W a cap l) => refFits_any a cap l W hw HM.out)
    cases hF : fitsB l with
    | false =>
      have E := pass_bad (show passOk l f t = false by simp [passOk, hF])
      rw [E.1, E.2] at C1
      clear E
      have HF := Lib.hid hF
      clear hF
      go_enter Try.func6, Try.ntmps6
      go_wp2_with fail
      refine (alive_any _).mono ?_
      rintro e w1 ⟨rfl, b1⟩
      go_wp2_with fail
      refine (C1.out _ (H.out.below b1)).mono ?_
      rintro e w2 ⟨rfl, b2⟩
      have b3 := b1.trans (b2.mono b1.size)
      go_wp2_with fail
      refine (C2.out _ (H.out.below b3)).mono ?_
      rintro e w' ⟨rfl, rfl⟩
      rw [HF.out]
      go_wp2_with fail
      go_ret
      exact ⟨rfl, b3⟩
    | true =>
      have hf := fitsB_iff.1 hF
      have HF := Lib.hid hF
      cases hA : rightB f with
      | false =>
        have E := pass_bad (show passOk l f t = false by simp [passOk, hA])
        rw [E.1, E.2] at C1
        clear E
        have HA := Lib.hid hA
        clear hF hA hf
        go_enter Try.func6, Try.ntmps6
        go_wp2_with fail
        refine (alive_any _).mono ?_
        rintro e w1 ⟨rfl, b1⟩
        go_wp2_with fail
        refine (C1.out _ (H.out.below b1)).mono ?_
        rintro e w2 ⟨rfl, b2⟩
        have b3 := b1.trans (b2.mono b1.size)
        go_wp2_with fail
        refine (C2.out _ (H.out.below b3)).mono ?_
        rintro e w' ⟨rfl, rfl⟩
        rw [HF.out]
        go_wp2_with fail
        refine (refRight_any _ _).mono ?_
        rintro e w' ⟨rfl, rfl⟩
        rw [HA.out]
        go_wp2_with fail
        go_ret
        exact ⟨rfl, b3⟩
      | true =>
        have HA := Lib.hid hA
        obtain ⟨f0, f1⟩ := rightB_true.1 hA
        cases hB : rightB t with
        | false =>
          have E := pass_bad (show passOk l f t = false by simp [passOk, hB])
          rw [E.1, E.2] at C1
          clear E
          have HB := Lib.hid hB
          clear hF hA hB hf
          go_enter Try.func6, Try.ntmps6
          go_wp2_with fail
          refine (alive_any _).mono ?_
          rintro e w1 ⟨rfl, b1⟩
          go_wp2_with fail
          refine (C1.out _ (H.out.below b1)).mono ?_
          rintro e w2 ⟨rfl, b2⟩
          have b3 := b1.trans (b2.mono b1.size)
          go_wp2_with fail
          refine (C2.out _ (H.out.below b3)).mono ?_
          rintro e w' ⟨rfl, rfl⟩
          rw [HF.out]
          go_wp2_with fail
          refine (refRight_any _ _).mono ?_
          rintro e w' ⟨rfl, rfl⟩
          rw [HA.out]
          go_wp2_with fail
          refine (refRight_any _ _).mono ?_
          rintro e w' ⟨rfl, rfl⟩
          rw [HB.out]
          go_wp2_with fail
          go_ret
          exact ⟨rfl, b3⟩
        | true =>
          have HB := Lib.hid hB
          obtain ⟨t0, t1⟩ := rightB_true.1 hB
          cases hO : decide (t < f) with
          | true =>
            have E := pass_bad (show passOk l f t = false by simp at hO; simp [passOk]; omega)
            rw [E.1, E.2] at C1
            clear E
            clear hF hA hB hf
            go_enter Try.func6, Try.ntmps6
            go_wp2_with fail
            refine (alive_any _).mono ?_
            rintro e w1 ⟨rfl, b1⟩
            go_wp2_with fail
            refine (C1.out _ (H.out.below b1)).mono ?_
            rintro e w2 ⟨rfl, b2⟩
            have b3 := b1.trans (b2.mono b1.size)
            go_wp2_with fail
            refine (C2.out _ (H.out.below b3)).mono ?_
            rintro e w' ⟨rfl, rfl⟩
            rw [HF.out]
            go_wp2_with fail
            refine (refRight_any _ _).mono ?_
            rintro e w' ⟨rfl, rfl⟩
            rw [HA.out]
            go_wp2_with fail
            refine (refRight_any _ _).mono ?_
            rintro e w' ⟨rfl, rfl⟩
            rw [HB.out]
            go_wp2_with fail
            go_ret
            exact ⟨rfl, b3⟩
          | false =>
            have hft : f ≤ t := by simpa using hO
            have hok : passOk l f t = true := by simp [passOk, hF, hA, hB, hft]
            have E1 : passV l f t = closeN l t - closeN l f := by simp [passV, hok]
            have E2 : passE l f t = 0 := by simp [passE, hok]
            rw [E1, E2] at C1
            obtain ⟨-, -, k3, k4⟩ := closeN_bounds hf f0 f1
            obtain ⟨-, -, k5, k6⟩ := closeN_bounds hf t0 t1
            have hl := hf.len
            have k7 := closeN_mono hf f0 hft
            have HP := Lib.hid hf
            cases hL : decide (3000 < t - f) with
            | true =>
              have k8 := closeN_long hf f0 hft
              have q0 : 0 ≤ (t - f) / 96 := by omega
              have q1 : (t - f) / 96 ≤ 11453246123 := by omega
              have m0 : 0 ≤ (t - f) / 96 * l.length := Int.mul_nonneg q0 (by omega)
              have hw1 : IntKind.i64.wrap ((t - f) / 96 * l.length) = (t - f) / 96 * l.length := IntWalk.i64_in _ (by omega)
              have hge : decide ((t - f) / 96 * (l.length : Int) ≤ closeN l t - closeN l f) = true := by simpa using k8
              clear hF hA hB hf hok E1 E2 hft
              generalize closeN l t - closeN l f = c at *
              go_enter Try.func6, Try.ntmps6
              go_wp2_with fail
              refine (alive_any _).mono ?_
              rintro e w1 ⟨rfl, b1⟩
              go_wp2_with fail
              refine (C1.out _ (H.out.below b1)).mono ?_
              rintro e w2 ⟨rfl, b2⟩
              have b3 := b1.trans (b2.mono b1.size)
              go_wp2_with fail
              refine (C2.out _ (H.out.below b3)).mono ?_
              rintro e w' ⟨rfl, rfl⟩
              rw [HF.out]
              go_wp2_with fail
              refine (refRight_any _ _).mono ?_
              rintro e w' ⟨rfl, rfl⟩
              rw [HA.out]
              go_wp2_with fail
              refine (refRight_any _ _).mono ?_
              rintro e w' ⟨rfl, rfl⟩
              rw [HB.out]
              go_wp2_with fail
              go_ret
              exact ⟨rfl, b3⟩
            | false =>
              have hL' : t - f ≤ 3000 := by simpa using hL
              clear hF hA hB hf hok E1 E2
              generalize hc : closeN l t - closeN l f = c at *
              have HC := Lib.hid hc
              clear hc
              go_enter Try.func6, Try.ntmps6
              go_wp2_with fail
              refine (alive_any _).mono ?_
              rintro e w1 ⟨rfl, b1⟩
              go_wp2_with fail
              refine (C1.out _ (H.out.below b1)).mono ?_
              rintro e w2 ⟨rfl, b2⟩
              have b3 := b1.trans (b2.mono b1.size)
              go_wp2_with fail
              refine (C2.out _ (H.out.below b3)).mono ?_
              rintro e w' ⟨rfl, rfl⟩
              rw [HF.out]
              go_wp2_with fail
              refine (refRight_any _ _).mono ?_
              rintro e w' ⟨rfl, rfl⟩
              rw [HA.out]
              go_wp2_with fail
              refine (refRight_any _ _).mono ?_
              rintro e w' ⟨rfl, rfl⟩
              rw [HB.out]
              go_wp2_with fail
              go_loopw [9, 10] (fun s i wr => ∃ (n x : Int), f ≤ n ∧ n ≤ t ∧ i = .int .i64 (n + 1) ∧ s = .int .i64 x ∧ 0 ≤ x ∧ x ≤ n - f ∧ Hid (x = closeN l n - closeN l f) ∧ Below w.heap.size w wr) (fun _ i _ => (t + 1 - intOf i).toNat)
              case atStart => exact ⟨f, 0, by omega, by omega, rfl, rfl, by omega, by omega, Lib.hid (by omega), b3⟩
              case round =>
                obtain ⟨n, x, n0, n1, rfl, rfl, x0, x1, HX, hbw⟩ := hrel
                by_cases hn : n + 1 ≤ t
                · have C3 := Lib.hid (refCloses_any a cap l (n + 1) _ (H.out.below hbw) HM.out (by omega) (by omega))
                  have HS := Lib.hid (close_count HP.out f0 n0)
                  cases hcl : closesB l (n + 1) with
                  | true =>
                    rw [hcl] at C3 HS
                    have HN := Lib.hid (show x + 1 = closeN l (n + 1) - closeN l f by rw [HS.out, HX.out]; rfl)
                    go_wp2_with fail
                    refine C3.out.mono ?_
                    rintro e w4 ⟨rfl, b4⟩
                    go_wp2_with fail
                    go_roundw
                    case rel => exact ⟨n + 1, x + 1, by omega, by omega, rfl, rfl, by omega, by omega, HN, hbw.trans (b4.mono hbw.size)⟩
                    case measure => simp [intOf]; omega
                  | false =>
                    rw [hcl] at C3 HS
                    have HN := Lib.hid (show x = closeN l (n + 1) - closeN l f by rw [HS.out, HX.out]; simp)
                    go_wp2_with fail
                    refine C3.out.mono ?_
                    rintro e w4 ⟨rfl, b4⟩
                    go_wp2_with fail
                    go_roundw
                    case rel => exact ⟨n + 1, x, by omega, by omega, rfl, rfl, by omega, by omega, HN, hbw.trans (b4.mono hbw.size)⟩
                    case measure => simp [intOf]; omega
                · have hnt : n = t := by omega
                  subst hnt
                  have hxc : x = c := by rw [HX.out, HC.out]
                  subst hxc
                  go_wp2_with fail
                  go_ret
                  exact ⟨rfl, hbw⟩



set_option maxRecDepth 100000 in
theorem dayPassed_lifted (os : Os) (started : os.Started) (H : Type) (enc : TypeId × Value → H) :
    ReturnsInHanded {} Try.checked os 6 .any (Rows.dayPassedSpec.pre6 enc Try.prog Try.f6 Rows.dayPassedRow.domain false) (Rows.dayPassedSpec.post enc Try.prog Try.f6 false true false false) := by
  refine returnsInHanded_of_change (C := Try.checked) own started (by kernel_rfl) Try.func6
    (ChangeSpec.witness6 (enc := enc) (C := Try.checked) false ⟨#[], #[.slice none 0 0, .int .i64 0, .int .i64 0], []⟩ 8 (by kernel_rfl) (by kernel_rfl) (by kernel_rfl) (by kernel_rfl)) ?_
  intro W base args ds gs before hval0 hW _ _
  have hval : ∀ (j : Nat) t v, Try.f6.params[j]? = some t → args[j]? = some v → Value.okWide Try.prog W .any base t v := hval0
  have hW' := hW
  obtain ⟨p, q, hA0, hV, rfl, _, _⟩ := hW
  have hA : DataW.TrodAll enc Try.prog W 0 (fun _ => true) true Try.f6.params.toList args.toList ds p := hA0
  rw [Try.params6] at hA hval
  obtain ⟨v0, vs0, d0, ds0, p0, q_0, hargs, rfl, rfl, h0, r0⟩ := trodAll_cons hA
  obtain ⟨v1, vs1, d1, ds1, p1, q_1, rfl, rfl, rfl, h1, r1⟩ := trodAll_cons r0
  obtain ⟨v2, vs2, d2, ds2, p2, q_2, rfl, rfl, rfl, h2, r2⟩ := trodAll_cons r1
  obtain ⟨rfl, rfl, rfl⟩ := trodAll_nil r2
  obtain rfl : args = #[v0, v1, v2] := by cases args; simp_all
  obtain ⟨rfl, rfl⟩ := trodVars_none hV
  clear hA0 hval0
  simp only [List.append_nil] at hW'
  obtain ⟨q0, cap0, l0, rfl, hS0, hm0⟩ := ints_of_trod (hval 0 22 v0 rfl rfl) h0
  have hlt0 : ∀ x ∈ p0, x.block < W.heap.size := fun x hx => by simpa using hW'.lt x (by simpa using (by simp [hx]))
  obtain ⟨a1, rfl, rfl, rfl, w1⟩ := open_int Try.underlying2 (hval 1 2 v1 rfl rfl) h1
  obtain ⟨a2, rfl, rfl, rfl, w2⟩ := open_int Try.underlying2 (hval 2 2 v2 rfl rfl) h2
  refine (passed_walk q0 cap0 l0 a1 a2 W hS0 hm0.1).mono fun e W' ⟨he, hb⟩ => ?_
  subst he
  have hT : DataW.TrodAll enc Try.prog W' 0 (fun b => decide (b < W.heap.size)) true _ _ _ _ := (trodAll_cons_mk (Below.trod laidOut (by kernel_rfl) (of_decide_eq_true (by kernel_rfl)) h0 hb hlt0) (trodAll_cons_mk (shut_int Try.underlying2 w1) (trodAll_cons_mk (shut_int Try.underlying2 w2) trodAll_mk0)))
  simp only [List.append_nil] at hT
  exact ⟨_, rfl, _, _, _, [], p0, [], hW', trodAll_mk1 (shut_bool Try.underlying4 _), hT, rfl, hb.frame _, fun h => by cases h⟩

theorem dayPassed_holds : Rows.DayPassedSaid :=
  OpenClaim.holds_of_wide 6 Try.f6 rfl rfl rfl rfl rfl rfl rfl ⟨rfl, rfl, rfl, rfl, rfl⟩ rfl rfl rfl rfl rfl (by kernel_rfl) Try.func6 (by kernel_rfl)
    (of_decide_eq_true (by kernel_rfl)) (by unfold Func.isWrapper; first | (rw [if_pos (by decide +kernel)]; kernel_rfl) | (rw [if_neg (by decide +kernel)]; exact ⟨rfl, rfl⟩))
    (fun os started H enc _ => dayPassed_lifted os started H enc)
#print axioms dayPassed_holds


end Go.Proofs.Ytbodojmapldbjaa
