/- What Passed of package day answers, and the document's Closes and Next. -/
import Derived.Test.YtaghbfnikcldiaaDyNext
namespace Go.Proofs.Ytaghbfnikcldiaa
set_option maxRecDepth 100000
open Go.RowKit

theorem pass_bad {l : List Int} {t u : Int} (h : passOk l t u = false) : passV l t u = 0 ∧ passE l t u = 31 := by simp [passV, passE, h]

set_option maxHeartbeats 2000000 in
theorem passed_any (a : Option Addr) (cap : Nat) (l : List Int) (t u : Int) (w : World) (h : IntsP w a cap l) (hm : l.length ≤ maxLen) :
    Calls Try.prog 61 #[.slice a l.length cap, .int .i64 t, .int .i64 u] w (PairB (passV l t u) (passE l t u) w) := by
  have C0 := Lib.hid (areDoors_any a cap l w h hm)
  have HI := Lib.hid h
  clear h hm
  cases hF : fitsB l with
  | false =>
    have E := pass_bad (show passOk l t u = false by simp [passOk, hF])
    rw [E.1, E.2]
    rw [hF] at C0
    clear hF E
    go_enter Try.func61, Try.ntmps61
    go_wp2_with fail
    refine C0.out.mono ?_
    rintro e w' ⟨rfl, b1⟩
    go_wp2_with fail
    go_ret2
    exact ⟨rfl, b1⟩
  | true =>
    have hf := fitsB_iff.1 hF
    rw [hF] at C0
    cases hT : dyRightB t with
    | false =>
      have E := pass_bad (show passOk l t u = false by simp [passOk, hT])
      rw [E.1, E.2]
      have HT := Lib.hid hT
      clear hF hT hf E
      go_enter Try.func61, Try.ntmps61
      go_wp2_with fail
      refine C0.out.mono ?_
      rintro e w' ⟨rfl, b1⟩
      go_wp2_with fail
      refine (dyRight_any _ _).mono ?_
      rintro e w' ⟨rfl, rfl⟩
      rw [HT.out]
      go_wp2_with fail
      go_ret2
      exact ⟨rfl, b1⟩
    | true =>
      cases hU : dyRightB u with
      | false =>
        have E := pass_bad (show passOk l t u = false by simp [passOk, hU])
        rw [E.1, E.2]
        have HT := Lib.hid hT
        have HU := Lib.hid hU
        clear hF hT hU hf E
        go_enter Try.func61, Try.ntmps61
        go_wp2_with fail
        refine C0.out.mono ?_
        rintro e w' ⟨rfl, b1⟩
        go_wp2_with fail
        refine (dyRight_any _ _).mono ?_
        rintro e w' ⟨rfl, rfl⟩
        rw [HT.out]
        go_wp2_with fail
        refine (dyRight_any _ _).mono ?_
        rintro e w' ⟨rfl, rfl⟩
        rw [HU.out]
        go_wp2_with fail
        go_ret2
        exact ⟨rfl, b1⟩
      | true =>
        cases hO : decide (u < t) with
        | true =>
          have E := pass_bad (show passOk l t u = false by simp at hO; simp [passOk]; omega)
          rw [E.1, E.2]
          have HT := Lib.hid hT
          have HU := Lib.hid hU
          clear hF hT hU hf E
          go_enter Try.func61, Try.ntmps61
          go_wp2_with fail
          refine C0.out.mono ?_
          rintro e w' ⟨rfl, b1⟩
          go_wp2_with fail
          refine (dyRight_any _ _).mono ?_
          rintro e w' ⟨rfl, rfl⟩
          rw [HT.out]
          go_wp2_with fail
          refine (dyRight_any _ _).mono ?_
          rintro e w' ⟨rfl, rfl⟩
          rw [HU.out]
          go_wp2_with fail
          go_ret2
          exact ⟨rfl, b1⟩
        | false =>
          have hO' : t ≤ u := by simpa using hO
          have hok : passOk l t u = true := by simp [passOk, hF, hT, hU, hO']
          have E1 : passV l t u = closeN l u - closeN l t := by simp [passV, hok]
          have E2 : passE l t u = 0 := by simp [passE, hok]
          rw [E1, E2]
          obtain ⟨t0, t1⟩ := rightB_true.1 hT
          obtain ⟨u0, u1⟩ := rightB_true.1 hU
          obtain ⟨-, -, b3, b4⟩ := closeN_bounds hf t0 t1
          obtain ⟨-, -, b5, b6⟩ := closeN_bounds hf u0 u1
          have C1 := Lib.hid (fun W (hw : IntsP W a cap l) => closings_any a cap l u W hw hf hU)
          have C2 := Lib.hid (fun W (hw : IntsP W a cap l) => closings_any a cap l t W hw hf hT)
          have HT := Lib.hid hT
          have HU := Lib.hid hU
          clear hF hT hU hf E1 E2 hok hO'
          generalize closeN l u = cu at *
          generalize closeN l t = ct at *
          go_enter Try.func61, Try.ntmps61
          go_wp2_with fail
          refine C0.out.mono ?_
          rintro e w1 ⟨rfl, b1⟩
          go_wp2_with fail
          refine (dyRight_any _ _).mono ?_
          rintro e w' ⟨rfl, rfl⟩
          rw [HT.out]
          go_wp2_with fail
          refine (dyRight_any _ _).mono ?_
          rintro e w' ⟨rfl, rfl⟩
          rw [HU.out]
          go_wp2_with fail
          refine (C1.out _ (HI.out.below b1)).mono ?_
          rintro e w2 ⟨rfl, b2⟩
          have b7 := b1.trans (b2.mono b1.size)
          go_wp2_with fail
          refine (C2.out _ (HI.out.below b7)).mono ?_
          rintro e w3 ⟨rfl, b8⟩
          have b9 := b7.trans (b8.mono b7.size)
          go_wp2_with fail
          go_ret2
          exact ⟨rfl, b9⟩

end Go.Proofs.Ytaghbfnikcldiaa
