/- DaySteps: the law returns true for any numbers and any three ticks: from one closing to the next one doors close once, in two parts as often as in one, and a day has as many closings as doors. It has no conditions. -/
import Derived.Test.YtbodojmapldbjaaArgs
import Derived.WideKeyArr2
namespace Go.Proofs.Ytbodojmapldbjaa
open Go.ChangeShapes Go.WideShapes Go.ChangeAt Go.RowKit

theorem arr41 : Go.WideMaps.ArrKey Try.prog 41 2 3 := ⟨Try.underlying41, by kernel_rfl, by kernel_rfl, by kernel_rfl⟩

/-- What came in as an array of three numbers. -/
theorem three_of_trod {H : Type} {enc : TypeId × Value → H} {W : World} {base : Nat} {v : Value} {d : DataW H} {p : List MemPlace}
    (hv : Value.okWide Try.prog W .any base 41 v) (h : DataW.Trod enc Try.prog W 0 (fun _ => true) true 41 v d p) :
    ∃ x y z : Int, v = .agg #[.int .i64 x, .int .i64 y, .int .i64 z] ∧ p = [] ∧ (∀ W' sp, DataW.Trod enc Try.prog W' 0 sp true 41 v d []) := by
  obtain ⟨xs, rfl, hn⟩ := Go.WideMaps.okWide_arr arr41 hv
  obtain ⟨l⟩ := xs
  match l, hn with
  | [c0, c1, c2], _ =>
    obtain ⟨fuel, hf⟩ := h
    cases fuel with
    | zero => simp [DataW.trod] at hf
    | succ n =>
      rw [DataW.trod_step] at hf
      unfold DataW.trodStep at hf
      simp only [arr41.hu, Value.cells] at hf
      rw [if_pos (by rw [arr41.size]; rfl)] at hf
      simp only [Option.map_eq_some_iff] at hf
      obtain ⟨ys, hy, e1⟩ := hf
      rw [show List.range 3 = [0, 1, 2] from rfl, List.mapM_cons, List.mapM_cons, List.mapM_cons, List.mapM_nil] at hy
      simp only [bind, Option.bind_eq_some_iff, pure, Option.some.injEq, arr41.one] at hy
      obtain ⟨y0, h0, _, ⟨y1, h1, _, ⟨y2, h2, _, rfl, rfl⟩, rfl⟩, rfl⟩ := hy
      obtain ⟨x, ex, rfl, wx⟩ := DataW.trod_int Try.underlying2 h0
      obtain ⟨y, ey, rfl, wy⟩ := DataW.trod_int Try.underlying2 h1
      obtain ⟨z, ez, rfl, wz⟩ := DataW.trod_int Try.underlying2 h2
      simp at ex ey ez
      subst ex ey ez
      simp only [Prod.mk.injEq] at e1
      refine ⟨x, y, z, rfl, by rw [← e1.2]; rfl, fun W' sp => ⟨2, ?_⟩⟩
      rw [← e1.1]
      show DataW.trod enc Try.prog W' 0 sp true (1 + 1) 41 [.int .i64 x, .int .i64 y, .int .i64 z] = _
      rw [DataW.trod_step]
      unfold DataW.trodStep
      simp only [arr41.hu]
      rw [if_pos (by rw [arr41.size]; rfl), show List.range 3 = [0, 1, 2] from rfl, List.mapM_cons, List.mapM_cons, List.mapM_cons, List.mapM_nil]
      simp [arr41.one, DataW.trod, Try.underlying2, wx, wy, wz]

theorem pass_good {l : List Int} (hf : FitsP l) {t u : Int} (t0 : 0 ≤ t) (h : t ≤ u) (u1 : u ≤ 1099511627776) : passV l t u = closeN l u - closeN l t ∧ passE l t u = 0 := by
  have : passOk l t u = true := by
    unfold passOk
    rw [fitsB_iff.2 hf, rightB_true.2 ⟨t0, by omega⟩, rightB_true.2 ⟨by omega, u1⟩, decide_eq_true h]; rfl
  simp [passV, passE, this]

theorem next_good {l : List Int} (hf : FitsP l) {t : Int} (t0 : 0 ≤ t) (t1 : t ≤ 549755813984) : nextV l t = nextRaw l t ∧ nextE l t = 0 := by
  have hg := next_gt hf t
  have : nextOk l t = true := by
    unfold nextOk
    rw [fitsB_iff.2 hf, rightB_true.2 ⟨t0, by omega⟩, decide_eq_true (by omega)]; rfl
  simp [nextV, nextE, this]

theorem IntsP.three {W : World} {b : Nat} {x y z : Int} (h : IntsP W (some ⟨b, 0, none⟩) 3 [x, y, z]) : W.cell? ⟨b, 0, none⟩ = some (.int .i64 x) ∧ W.cell? ⟨b, 1, none⟩ = some (.int .i64 y) ∧ W.cell? ⟨b, 2, none⟩ = some (.int .i64 z) := by
  obtain ⟨b', o, e, _, hc⟩ := h.cell (by simp)
  injection e with e
  injection e with e1 e2
  subst e1 e2
  have h0 := hc 0 x rfl
  have h1 := hc 1 y rfl
  have h2 := hc 2 z rfl
  simp only [Nat.zero_add] at h0 h1 h2
  exact ⟨h0, h1, h2⟩

set_option maxHeartbeats 4000000 in
set_option maxRecDepth 100000 in
theorem steps_walk (a : Option Addr) (cap : Nat) (l : List Int) (x y z : Int) (w : World) (h : IntsP w a cap l) (hm : l.length ≤ maxLen) : Calls Try.prog 7 #[.slice a l.length cap, .agg #[.int .i64 x, .int .i64 y, .int .i64 z]] w (TrueB w) := by
  have H := Lib.hid h
  clear h
  have C1 := Lib.hid (fun W (hw : IntsP W a cap l) => doors_any a cap l W hw hm)
  have HM := Lib.hid hm
  unfold maxLen at hm
  rcases doorsE_cases l with hE | hE
  case inr =>
    have HE := Lib.hid hE
    clear hE
    go_enter Try.func7, Try.ntmps7
    go_wp2_with fail
    refine (alive_any _).mono ?_
    rintro e w1 ⟨rfl, b1⟩
    have b0 := (below_new w _).trans (b1.mono (below_new w _).size)
    have J1 := Lib.hid ((ints_three x y z w _).below b1)
    go_wp2_with fail
    refine (C1.out _ (H.out.below b0)).mono ?_
    rintro e w2 ⟨a2, c2, rfl, i2, b2⟩
    have b3 := b0.trans (b2.mono b0.size)
    have I2 := Lib.hid i2
    have J2 := Lib.hid (J1.out.below b2)
    clear i2 b1
    rw [HE.out]
    generalize doorsV l = D at *
    obtain ⟨k0, k1, k2⟩ := J2.out.three
    go_wp2_with fail
    go_ret
    exact ⟨rfl, b3⟩
  case inl =>
    have HE := Lib.hid hE
    have HF := Lib.hid (doorsV_fits hE)
    clear hE
    cases ht : decide (200 < (l.length : Int)) with
    | true =>
      go_enter Try.func7, Try.ntmps7
      go_wp2_with fail
      refine (alive_any _).mono ?_
      rintro e w1 ⟨rfl, b1⟩
      have b0 := (below_new w _).trans (b1.mono (below_new w _).size)
      have J1 := Lib.hid ((ints_three x y z w _).below b1)
      go_wp2_with fail
      refine (C1.out _ (H.out.below b0)).mono ?_
      rintro e w2 ⟨a2, c2, rfl, i2, b2⟩
      have b3 := b0.trans (b2.mono b0.size)
      have I2 := Lib.hid i2
      have J2 := Lib.hid (J1.out.below b2)
      clear i2 b1
      rw [HE.out]
      generalize doorsV l = D at *
      obtain ⟨k0, k1, k2⟩ := J2.out.three
      go_wp2_with fail
      go_ret
      exact ⟨rfl, b3⟩
    | false =>
      cases h0 : decide (y < x) with
      | true =>
        go_enter Try.func7, Try.ntmps7
        go_wp2_with fail
        refine (alive_any _).mono ?_
        rintro e w1 ⟨rfl, b1⟩
        have b0 := (below_new w _).trans (b1.mono (below_new w _).size)
        have J1 := Lib.hid ((ints_three x y z w _).below b1)
        go_wp2_with fail
        refine (C1.out _ (H.out.below b0)).mono ?_
        rintro e w2 ⟨a2, c2, rfl, i2, b2⟩
        have b3 := b0.trans (b2.mono b0.size)
        have I2 := Lib.hid i2
        have J2 := Lib.hid (J1.out.below b2)
        clear i2 b1
        rw [HE.out]
        generalize doorsV l = D at *
        obtain ⟨k0, k1, k2⟩ := J2.out.three
        go_wp2_with fail
        go_ret
        exact ⟨rfl, b3⟩
      | false =>
        cases h1 : decide (z < y) with
        | true =>
          go_enter Try.func7, Try.ntmps7
          go_wp2_with fail
          refine (alive_any _).mono ?_
          rintro e w1 ⟨rfl, b1⟩
          have b0 := (below_new w _).trans (b1.mono (below_new w _).size)
          have J1 := Lib.hid ((ints_three x y z w _).below b1)
          go_wp2_with fail
          refine (C1.out _ (H.out.below b0)).mono ?_
          rintro e w2 ⟨a2, c2, rfl, i2, b2⟩
          have b3 := b0.trans (b2.mono b0.size)
          have I2 := Lib.hid i2
          have J2 := Lib.hid (J1.out.below b2)
          clear i2 b1
          rw [HE.out]
          generalize doorsV l = D at *
          obtain ⟨k0, k1, k2⟩ := J2.out.three
          go_wp2_with fail
          go_ret
          exact ⟨rfl, b3⟩
        | false =>
          cases h2 : decide (x < 0) with
          | true =>
            go_enter Try.func7, Try.ntmps7
            go_wp2_with fail
            refine (alive_any _).mono ?_
            rintro e w1 ⟨rfl, b1⟩
            have b0 := (below_new w _).trans (b1.mono (below_new w _).size)
            have J1 := Lib.hid ((ints_three x y z w _).below b1)
            go_wp2_with fail
            refine (C1.out _ (H.out.below b0)).mono ?_
            rintro e w2 ⟨a2, c2, rfl, i2, b2⟩
            have b3 := b0.trans (b2.mono b0.size)
            have I2 := Lib.hid i2
            have J2 := Lib.hid (J1.out.below b2)
            clear i2 b1
            rw [HE.out]
            generalize doorsV l = D at *
            obtain ⟨k0, k1, k2⟩ := J2.out.three
            go_wp2_with fail
            go_ret
            exact ⟨rfl, b3⟩
          | false =>
            cases h3 : decide (549755813888 < z) with
            | true =>
              go_enter Try.func7, Try.ntmps7
              go_wp2_with fail
              refine (alive_any _).mono ?_
              rintro e w1 ⟨rfl, b1⟩
              have b0 := (below_new w _).trans (b1.mono (below_new w _).size)
              have J1 := Lib.hid ((ints_three x y z w _).below b1)
              go_wp2_with fail
              refine (C1.out _ (H.out.below b0)).mono ?_
              rintro e w2 ⟨a2, c2, rfl, i2, b2⟩
              have b3 := b0.trans (b2.mono b0.size)
              have I2 := Lib.hid i2
              have J2 := Lib.hid (J1.out.below b2)
              clear i2 b1
              rw [HE.out]
              generalize doorsV l = D at *
              obtain ⟨k0, k1, k2⟩ := J2.out.three
              go_wp2_with fail
              go_ret
              exact ⟨rfl, b3⟩
            | false =>
              have x0 : 0 ≤ x := by simpa using h2
              have xy : x ≤ y := by simpa using h0
              have yz : y ≤ z := by simpa using h1
              have z1 : z ≤ 549755813888 := by simpa using h3
              have hdl := doorsV_len l
              obtain ⟨g0, g1⟩ := next_gt HF.out x
              have C2 := Lib.hid (fun a cap W (hw : IntsP W a cap (doorsV l)) => passed_any a cap (doorsV l) x y W hw (by unfold maxLen; omega))
              have C3 := Lib.hid (fun a cap W (hw : IntsP W a cap (doorsV l)) => passed_any a cap (doorsV l) y z W hw (by unfold maxLen; omega))
              have C4 := Lib.hid (fun a cap W (hw : IntsP W a cap (doorsV l)) => passed_any a cap (doorsV l) x z W hw (by unfold maxLen; omega))
              have C5 := Lib.hid (fun a cap W (hw : IntsP W a cap (doorsV l)) => next_any a cap (doorsV l) x W hw (by unfold maxLen; omega))
              have C6 := Lib.hid (fun a cap W (hw : IntsP W a cap (doorsV l)) => passed_any a cap (doorsV l) x (nextRaw (doorsV l) x) W hw (by unfold maxLen; omega))
              have C7 := Lib.hid (fun a cap W (hw : IntsP W a cap (doorsV l)) => passed_any a cap (doorsV l) x (x + 96) W hw (by unfold maxLen; omega))
              rw [(pass_good HF.out x0 xy (by omega)).1, (pass_good HF.out x0 xy (by omega)).2] at C2
              rw [(pass_good HF.out (t := y) (u := z) (by omega) yz (by omega)).1, (pass_good HF.out (t := y) (u := z) (by omega) yz (by omega)).2] at C3
              rw [(pass_good HF.out (t := x) (u := z) (by omega) (by omega) (by omega)).1, (pass_good HF.out (t := x) (u := z) (by omega) (by omega) (by omega)).2] at C4
              rw [(next_good HF.out x0 (by omega)).1, (next_good HF.out x0 (by omega)).2] at C5
              rw [(pass_good HF.out (t := x) (u := nextRaw (doorsV l) x) (by omega) (by omega) (by omega)).1, (pass_good HF.out (t := x) (u := nextRaw (doorsV l) x) (by omega) (by omega) (by omega)).2, closeN_next HF.out x0, show closeN (doorsV l) x + 1 - closeN (doorsV l) x = 1 by omega] at C6
              rw [(pass_good HF.out (t := x) (u := x + 96) (by omega) (by omega) (by omega)).1, (pass_good HF.out (t := x) (u := x + 96) (by omega) (by omega) (by omega)).2, show closeN (doorsV l) (x + 96) - closeN (doorsV l) x = (doorsV l).length by
                have := closeN_day (doorsV l) x 1
                rw [Int.mul_one, Int.one_mul] at this
                omega] at C7
              obtain ⟨-, -, n1, n2⟩ := closeN_bounds HF.out (t := x) (by omega) (by omega)
              obtain ⟨-, -, n3, n4⟩ := closeN_bounds HF.out (t := y) (by omega) (by omega)
              obtain ⟨-, -, n5, n6⟩ := closeN_bounds HF.out (t := z) (by omega) (by omega)
              generalize closeN (doorsV l) x = kx at *
              generalize closeN (doorsV l) y = ky at *
              generalize closeN (doorsV l) z = kz at *
              generalize nextRaw (doorsV l) x = r at *
              have hsum : ky - kx + (kz - ky) = kz - kx := by omega
              have hw1 : IntKind.i64.wrap (ky - kx + (kz - ky)) = kz - kx := by rw [hsum]; exact IntWalk.i64_in _ (by omega)
              have d1 : decide (x < r) = true := by simpa using g0
              have d2 : decide (r ≤ x + 96) = true := by simpa using g1
              clear HF
              go_enter Try.func7, Try.ntmps7
              go_wp2_with fail
              refine (alive_any _).mono ?_
              rintro e w1 ⟨rfl, b1⟩
              have b0 := (below_new w _).trans (b1.mono (below_new w _).size)
              have J1 := Lib.hid ((ints_three x y z w _).below b1)
              go_wp2_with fail
              refine (C1.out _ (H.out.below b0)).mono ?_
              rintro e w2 ⟨a2, c2, rfl, i2, b2⟩
              have b3 := b0.trans (b2.mono b0.size)
              have I2 := Lib.hid i2
              have J2 := Lib.hid (J1.out.below b2)
              clear i2 b1
              rw [HE.out]
              generalize doorsV l = D at *
              obtain ⟨k0, k1, k2⟩ := J2.out.three
              go_wp2_with fail
              refine (C2.out _ _ _ I2.out).mono ?_
              rintro e w3 ⟨rfl, b4⟩
              have B1 := b3.trans (b4.mono b3.size)
              have P1 := Lib.hid (I2.out.below b4)
              have Q1 := Lib.hid (J2.out.below b4)
              clear b4 I2 J2 b3 k0 k1 k2
              obtain ⟨k0, k1, k2⟩ := Q1.out.three
              go_wp2_with fail
              refine (C3.out _ _ _ P1.out).mono ?_
              rintro e w4 ⟨rfl, b5⟩
              have B2 := B1.trans (b5.mono B1.size)
              have P2 := Lib.hid (P1.out.below b5)
              have Q2 := Lib.hid (Q1.out.below b5)
              clear b5 P1 Q1 B1 k0 k1 k2
              obtain ⟨k0, k1, k2⟩ := Q2.out.three
              go_wp2_with fail
              refine (C4.out _ _ _ P2.out).mono ?_
              rintro e w5 ⟨rfl, b6⟩
              have B3 := B2.trans (b6.mono B2.size)
              have P3 := Lib.hid (P2.out.below b6)
              have Q3 := Lib.hid (Q2.out.below b6)
              clear b6 P2 Q2 B2 k0 k1 k2
              obtain ⟨k0, k1, k2⟩ := Q3.out.three
              go_wp2_with fail
              refine (C5.out _ _ _ P3.out).mono ?_
              rintro e w6 ⟨rfl, b7⟩
              have B4 := B3.trans (b7.mono B3.size)
              have P4 := Lib.hid (P3.out.below b7)
              have Q4 := Lib.hid (Q3.out.below b7)
              clear b7 P3 Q3 B3 k0 k1 k2
              obtain ⟨k0, k1, k2⟩ := Q4.out.three
              go_wp2_with fail
              refine (C6.out _ _ _ P4.out).mono ?_
              rintro e w7 ⟨rfl, b8⟩
              have B5 := B4.trans (b8.mono B4.size)
              have P5 := Lib.hid (P4.out.below b8)
              have Q5 := Lib.hid (Q4.out.below b8)
              clear b8 P4 Q4 B4 k0 k1 k2
              obtain ⟨k0, k1, k2⟩ := Q5.out.three
              go_wp2_with fail
              refine (C7.out _ _ _ P5.out).mono ?_
              rintro e w8 ⟨rfl, b9⟩
              have B6 := B5.trans (b9.mono B5.size)
              have P6 := Lib.hid (P5.out.below b9)
              have Q6 := Lib.hid (Q5.out.below b9)
              clear b9 P5 Q5 B5 k0 k1 k2
              obtain ⟨k0, k1, k2⟩ := Q6.out.three
              go_wp2_with fail
              go_ret
              exact ⟨rfl, B6⟩



set_option maxRecDepth 100000 in
theorem daySteps_lifted (os : Os) (started : os.Started) (H : Type) (enc : TypeId × Value → H) :
    ReturnsInHanded {} Try.checked os 7 .any (Rows.dayStepsSpec.pre6 enc Try.prog Try.f7 Rows.dayStepsRow.domain false) (Rows.dayStepsSpec.post enc Try.prog Try.f7 false true false false) := by
  refine returnsInHanded_of_change (C := Try.checked) own started (by kernel_rfl) Try.func7
    (ChangeSpec.witness6 (enc := enc) (C := Try.checked) false ⟨#[], #[.slice none 0 0, .agg #[.int .i64 0, .int .i64 0, .int .i64 0]], []⟩ 8 (by kernel_rfl) (by kernel_rfl) (by kernel_rfl) (by kernel_rfl)) ?_
  intro W base args ds gs before hval0 hW _ _
  have hval : ∀ (j : Nat) t v, Try.f7.params[j]? = some t → args[j]? = some v → Value.okWide Try.prog W .any base t v := hval0
  have hW' := hW
  obtain ⟨p, q, hA0, hV, rfl, _, _⟩ := hW
  have hA : DataW.TrodAll enc Try.prog W 0 (fun _ => true) true Try.f7.params.toList args.toList ds p := hA0
  rw [Try.params7] at hA hval
  obtain ⟨v0, vs0, d0, ds0, p0, q_0, hargs, rfl, rfl, h0, r0⟩ := trodAll_cons hA
  obtain ⟨v1, vs1, d1, ds1, p1, q_1, rfl, rfl, rfl, h1, r1⟩ := trodAll_cons r0
  obtain ⟨rfl, rfl, rfl⟩ := trodAll_nil r1
  obtain rfl : args = #[v0, v1] := by cases args; simp_all
  obtain ⟨rfl, rfl⟩ := trodVars_none hV
  clear hA0 hval0
  simp only [List.append_nil] at hW'
  obtain ⟨q0, cap0, l0, rfl, hS0, hm0⟩ := ints_of_trod (hval 0 22 v0 rfl rfl) h0
  have hlt0 : ∀ x ∈ p0, x.block < W.heap.size := fun x hx => by simpa using hW'.lt x (by simpa using (by simp [hx]))
  obtain ⟨x1, y1, z1, rfl, rfl, sh1⟩ := three_of_trod (hval 1 41 v1 rfl rfl) h1
  refine (steps_walk q0 cap0 l0 x1 y1 z1 W hS0 hm0.1).mono fun e W' ⟨he, hb⟩ => ?_
  subst he
  have hT : DataW.TrodAll enc Try.prog W' 0 (fun b => decide (b < W.heap.size)) true _ _ _ _ := (trodAll_cons_mk (Below.trod laidOut (by kernel_rfl) (of_decide_eq_true (by kernel_rfl)) h0 hb hlt0) (trodAll_cons_mk (sh1 _ _) trodAll_mk0))
  simp only [List.append_nil] at hT
  exact ⟨_, rfl, _, _, _, [], p0, [], hW', trodAll_mk1 (shut_bool Try.underlying4 _), hT, rfl, hb.frame _, fun h => by cases h⟩

theorem daySteps_holds : Rows.DayStepsSaid :=
  OpenClaim.holds_of_wide 7 Try.f7 rfl rfl rfl rfl rfl rfl rfl ⟨rfl, rfl, rfl, rfl, rfl⟩ rfl rfl rfl rfl rfl (by kernel_rfl) Try.func7 (by kernel_rfl)
    (of_decide_eq_true (by kernel_rfl)) (by unfold Func.isWrapper; first | (rw [if_pos (by decide +kernel)]; kernel_rfl) | (rw [if_neg (by decide +kernel)]; exact ⟨rfl, rfl⟩))
    (fun os started H enc _ => daySteps_lifted os started H enc)
#print axioms daySteps_holds


end Go.Proofs.Ytbodojmapldbjaa
