/- DayNext: the law returns true for any doors and any tick: Next, Of, End and Right of package day answer as the document's own words do. It has no conditions. -/
import Derived.Test.YtbodojmapldbjaaArgs
namespace Go.Proofs.Ytbodojmapldbjaa
open Go.ChangeShapes Go.WideShapes Go.ChangeAt Go.RowKit

theorem end_want {t : Int} (h : rightB t = true) : endOk t = decide (96 * (t / 96 + 1) ≤ 1099511627776) := by
  unfold endOk
  rw [h, Int.mul_comm]; rfl

set_option maxHeartbeats 4000000 in
theorem next_walk (a : Option Addr) (cap : Nat) (l : List Int) (t : Int) (w : World) (h : IntsP w a cap l) (hm : l.length ≤ maxLen) : Calls Try.prog 5 #[.slice a l.length cap, .int .i64 t] w (TrueB w) := by
  have H := Lib.hid h
  clear h
  have HM := Lib.hid hm
  unfold maxLen at hm
  cases ht : decide (200 < (l.length : Int)) with
  | true =>
    go_enter Try.func5, Try.ntmps5
    go_wp2_with fail
    refine (alive_any _).mono ?_
    rintro e w1 ⟨rfl, b1⟩
    go_wp2_with fail
    go_ret
    exact ⟨rfl, b1⟩
  | false =>
    have C1 := Lib.hid (fun W (hw : IntsP W a cap l) => next_any a cap l t W hw HM.out)
    have C2 := Lib.hid (fun W (hw : IntsP W a cap l) => refNext_any a cap l t W hw HM.out)
    have C3 := Lib.hid (fun W => of_any t W)
    have C4 := Lib.hid (fun W => end_any t W)
    generalize nextV l t = v at *
    generalize nextE l t = ve at *
    cases hR : rightB t with
    | false =>
      have e1 : ofD t = 0 := by simp [ofD, hR]
      have e2 : ofT t = 0 := by simp [ofT, hR]
      have e3 : endV t = 0 := by simp [endV, endOk, hR]
      have e4 : endE t = 31 := by simp [endE, endOk, hR]
      rw [e1, e2] at C3
      rw [e3, e4] at C4
      have HR := Lib.hid hR
      clear e1 e2 e3 e4 hR
      go_enter Try.func5, Try.ntmps5
      go_wp2_with fail
      refine (alive_any _).mono ?_
      rintro e w1 ⟨rfl, b1⟩
      go_wp2_with fail
      refine (C1.out _ (H.out.below b1)).mono ?_
      rintro e w2 ⟨rfl, b2⟩
      have b3 := b1.trans (b2.mono b1.size)
      go_wp2_with fail
      refine (C2.out _ (H.out.below b3)).mono ?_
      rintro e w3 ⟨rfl, b4⟩
      have b5 := b3.trans (b4.mono b3.size)
      go_wp2_with fail
      refine (C3.out _).mono ?_
      rintro e w' ⟨rfl, rfl⟩
      go_wp2_with fail
      refine (C4.out _).mono ?_
      rintro e w' ⟨rfl, rfl⟩
      go_wp2_with fail
      refine (right_any _ _).mono ?_
      rintro e w' ⟨rfl, rfl⟩
      rw [HR.out]
      go_wp2_with fail
      refine (refRight_any _ _).mono ?_
      rintro e w' ⟨rfl, rfl⟩
      rw [HR.out]
      go_wp2_with fail
      refine (refRight_any _ _).mono ?_
      rintro e w' ⟨rfl, rfl⟩
      rw [HR.out]
      go_wp2_with fail
      go_ret
      exact ⟨rfl, b5⟩
    | true =>
      have HR := Lib.hid hR
      have HW := Lib.hid (end_want hR)
      obtain ⟨t0, t1⟩ := rightB_true.1 hR
      have q0 : 0 ≤ t / 96 := by omega
      have q1 : t / 96 ≤ 11453246123 := by omega
      have r0 : 0 ≤ t % 96 := by omega
      have r1 : t % 96 < 96 := by omega
      have e1 : ofD t = t / 96 := by simp [ofD, hR]
      have e2 : ofT t = t % 96 := by simp [ofT, hR]
      rw [e1, e2] at C3
      clear e1 e2 hR
      cases hE : decide (1099511627776 < 96 * (t / 96 + 1)) with
      | true =>
        have hE2 : endOk t = false := by rw [HW.out]; simp at hE ⊢; omega
        have e3 : endV t = 0 := by simp [endV, hE2]
        have e4 : endE t = 31 := by simp [endE, hE2]
        rw [e3, e4] at C4
        clear e3 e4 hE2
        go_enter Try.func5, Try.ntmps5
        go_wp2_with fail
        refine (alive_any _).mono ?_
        rintro e w1 ⟨rfl, b1⟩
        go_wp2_with fail
        refine (C1.out _ (H.out.below b1)).mono ?_
        rintro e w2 ⟨rfl, b2⟩
        have b3 := b1.trans (b2.mono b1.size)
        go_wp2_with fail
        refine (C2.out _ (H.out.below b3)).mono ?_
        rintro e w3 ⟨rfl, b4⟩
        have b5 := b3.trans (b4.mono b3.size)
        go_wp2_with fail
        refine (C3.out _).mono ?_
        rintro e w' ⟨rfl, rfl⟩
        go_wp2_with fail
        refine (C4.out _).mono ?_
        rintro e w' ⟨rfl, rfl⟩
        go_wp2_with fail
        refine (right_any _ _).mono ?_
        rintro e w' ⟨rfl, rfl⟩
        rw [HR.out]
        go_wp2_with fail
        refine (refRight_any _ _).mono ?_
        rintro e w' ⟨rfl, rfl⟩
        rw [HR.out]
        go_wp2_with fail
        refine (refRight_any _ _).mono ?_
        rintro e w' ⟨rfl, rfl⟩
        rw [HR.out]
        go_wp2_with fail
        go_ret
        exact ⟨rfl, b5⟩
      | false =>
        have hE2 : endOk t = true := by rw [HW.out]; simp at hE ⊢; omega
        have e3 : endV t = 96 * (t / 96 + 1) := by unfold endV; rw [hE2, if_pos rfl, Int.mul_comm]
        have e4 : endE t = 0 := by simp [endE, hE2]
        rw [e3, e4] at C4
        clear e3 e4 hE2
        go_enter Try.func5, Try.ntmps5
        go_wp2_with fail
        refine (alive_any _).mono ?_
        rintro e w1 ⟨rfl, b1⟩
        go_wp2_with fail
        refine (C1.out _ (H.out.below b1)).mono ?_
        rintro e w2 ⟨rfl, b2⟩
        have b3 := b1.trans (b2.mono b1.size)
        go_wp2_with fail
        refine (C2.out _ (H.out.below b3)).mono ?_
        rintro e w3 ⟨rfl, b4⟩
        have b5 := b3.trans (b4.mono b3.size)
        go_wp2_with fail
        refine (C3.out _).mono ?_
        rintro e w' ⟨rfl, rfl⟩
        go_wp2_with fail
        refine (C4.out _).mono ?_
        rintro e w' ⟨rfl, rfl⟩
        go_wp2_with fail
        refine (right_any _ _).mono ?_
        rintro e w' ⟨rfl, rfl⟩
        rw [HR.out]
        go_wp2_with fail
        refine (refRight_any _ _).mono ?_
        rintro e w' ⟨rfl, rfl⟩
        rw [HR.out]
        go_wp2_with fail
        refine (refRight_any _ _).mono ?_
        rintro e w' ⟨rfl, rfl⟩
        rw [HR.out]
        go_wp2_with fail
        go_ret
        exact ⟨rfl, b5⟩



set_option maxRecDepth 100000 in
theorem dayNext_lifted (os : Os) (started : os.Started) (H : Type) (enc : TypeId × Value → H) :
    ReturnsInHanded {} Try.checked os 5 .any (Rows.dayNextSpec.pre6 enc Try.prog Try.f5 Rows.dayNextRow.domain false) (Rows.dayNextSpec.post enc Try.prog Try.f5 false true false false) := by
  refine returnsInHanded_of_change (C := Try.checked) own started (by kernel_rfl) Try.func5
    (ChangeSpec.witness6 (enc := enc) (C := Try.checked) false ⟨#[], #[.slice none 0 0, .int .i64 0], []⟩ 8 (by kernel_rfl) (by kernel_rfl) (by kernel_rfl) (by kernel_rfl)) ?_
  intro W base args ds gs before hval0 hW _ _
  have hval : ∀ (j : Nat) t v, Try.f5.params[j]? = some t → args[j]? = some v → Value.okWide Try.prog W .any base t v := hval0
  have hW' := hW
  obtain ⟨p, q, hA0, hV, rfl, _, _⟩ := hW
  have hA : DataW.TrodAll enc Try.prog W 0 (fun _ => true) true Try.f5.params.toList args.toList ds p := hA0
  rw [Try.params5] at hA hval
  obtain ⟨v0, vs0, d0, ds0, p0, q_0, hargs, rfl, rfl, h0, r0⟩ := trodAll_cons hA
  obtain ⟨v1, vs1, d1, ds1, p1, q_1, rfl, rfl, rfl, h1, r1⟩ := trodAll_cons r0
  obtain ⟨rfl, rfl, rfl⟩ := trodAll_nil r1
  obtain rfl : args = #[v0, v1] := by cases args; simp_all
  obtain ⟨rfl, rfl⟩ := trodVars_none hV
  clear hA0 hval0
  simp only [List.append_nil] at hW'
  obtain ⟨q0, cap0, l0, rfl, hS0, hm0⟩ := ints_of_trod (hval 0 22 v0 rfl rfl) h0
  have hlt0 : ∀ x ∈ p0, x.block < W.heap.size := fun x hx => by simpa using hW'.lt x (by simpa using (by simp [hx]))
  obtain ⟨a1, rfl, rfl, rfl, w1⟩ := open_int Try.underlying2 (hval 1 2 v1 rfl rfl) h1
  refine (next_walk q0 cap0 l0 a1 W hS0 hm0.1).mono fun e W' ⟨he, hb⟩ => ?_
  subst he
  have hT : DataW.TrodAll enc Try.prog W' 0 (fun b => decide (b < W.heap.size)) true _ _ _ _ := (trodAll_cons_mk (Below.trod laidOut (by kernel_rfl) (of_decide_eq_true (by kernel_rfl)) h0 hb hlt0) (trodAll_cons_mk (shut_int Try.underlying2 w1) trodAll_mk0))
  simp only [List.append_nil] at hT
  exact ⟨_, rfl, _, _, _, [], p0, [], hW', trodAll_mk1 (shut_bool Try.underlying4 _), hT, rfl, hb.frame _, fun h => by cases h⟩

theorem dayNext_holds : Rows.DayNextSaid :=
  OpenClaim.holds_of_wide 5 Try.f5 rfl rfl rfl rfl rfl rfl rfl ⟨rfl, rfl, rfl, rfl, rfl⟩ rfl rfl rfl rfl rfl (by kernel_rfl) Try.func5 (by kernel_rfl)
    (of_decide_eq_true (by kernel_rfl)) (by unfold Func.isWrapper; first | (rw [if_pos (by decide +kernel)]; kernel_rfl) | (rw [if_neg (by decide +kernel)]; exact ⟨rfl, rfl⟩))
    (fun os started H enc _ => dayNext_lifted os started H enc)
#print axioms dayNext_holds


end Go.Proofs.Ytbodojmapldbjaa
