/- What Passed of package day answers, and the document's Closes and Next. -/
import Derived.Test.YtbodojmapldbjaaNext
namespace Go.Proofs.Ytbodojmapldbjaa
open Go.RowKit

theorem pass_bad {l : List Int} {t u : Int} (h : passOk l t u = false) : passV l t u = 0 ∧ passE l t u = 31 := by simp [passV, passE, h]

set_option maxHeartbeats 2000000 in
theorem passed_any (a : Option Addr) (cap : Nat) (l : List Int) (t u : Int) (w : World) (h : IntsP w a cap l) (hm : l.length ≤ maxLen) :
    Calls Try.prog 12 #[.slice a l.length cap, .int .i64 t, .int .i64 u] w (PairB (passV l t u) (passE l t u) w) := by
  have C0 := Lib.hid (areDoors_any a cap l w h hm)
  have HI := Lib.hid h
  clear h hm
  cases hF : fitsB l with
  | false =>
    have E := pass_bad (show passOk l t u = false by simp [passOk, hF])
    rw [E.1, E.2]
    rw [hF] at C0
    clear hF E
    go_enter Try.func12, Try.ntmps12
    go_wp2_with fail
    refine C0.out.mono ?_
    rintro e w' ⟨rfl, b1⟩
    go_wp2_with fail
    go_ret2
    exact ⟨rfl, b1⟩
  | true =>
    have hf := fitsB_iff.1 hF
    rw [hF] at C0
    cases hT : rightB t with
    | false =>
      have E := pass_bad (show passOk l t u = false by simp [passOk, hT])
      rw [E.1, E.2]
      have HT := Lib.hid hT
      clear hF hT hf E
      go_enter Try.func12, Try.ntmps12
      go_wp2_with fail
      refine C0.out.mono ?_
      rintro e w' ⟨rfl, b1⟩
      go_wp2_with fail
      refine (right_any _ _).mono ?_
      rintro e w' ⟨rfl, rfl⟩
      rw [HT.out]
      go_wp2_with fail
      go_ret2
      exact ⟨rfl, b1⟩
    | true =>
      cases hU : rightB u with
      | false =>
        have E := pass_bad (show passOk l t u = false by simp [passOk, hU])
        rw [E.1, E.2]
        have HT := Lib.hid hT
        have HU := Lib.hid hU
        clear hF hT hU hf E
        go_enter Try.func12, Try.ntmps12
        go_wp2_with fail
        refine C0.out.mono ?_
        rintro e w' ⟨rfl, b1⟩
        go_wp2_with fail
        refine (right_any _ _).mono ?_
        rintro e w' ⟨rfl, rfl⟩
        rw [HT.out]
        go_wp2_with fail
        refine (right_any _ _).mono ?_
        rintro e w' ⟨rfl, rfl⟩
        rw [HU.out]
        go_wp2_with fail
        go_ret2
        exact ⟨rfl, b1⟩
      | true =>
        cases hO : decide (u < t) with
        | true =>
          have E := pass_bad (show passOk l t u = false by simp at hO; simp [passOk]; omega)
          rw [E.1, E.2]
          have HT := Lib.hid hT
          have HU := Lib.hid hU
          clear hF hT hU hf E
          go_enter Try.func12, Try.ntmps12
          go_wp2_with fail
          refine C0.out.mono ?_
          rintro e w' ⟨rfl, b1⟩
          go_wp2_with fail
          refine (right_any _ _).mono ?_
          rintro e w' ⟨rfl, rfl⟩
          rw [HT.out]
          go_wp2_with fail
          refine (right_any _ _).mono ?_
          rintro e w' ⟨rfl, rfl⟩
          rw [HU.out]
          go_wp2_with fail
          go_ret2
          exact ⟨rfl, b1⟩
        | false =>
          have hO' : t ≤ u := by simpa using hO
          have hok : passOk l t u = true := by simp [passOk, hF, hT, hU, hO']
          have E1 : passV l t u = closeN l u - closeN l t := by simp [passV, hok]
          have E2 : passE l t u = 0 := by simp [passE, hok]
          rw [E1, E2]
          obtain ⟨t0, t1⟩ := rightB_true.1 hT
          obtain ⟨u0, u1⟩ := rightB_true.1 hU
          obtain ⟨-, -, b3, b4⟩ := closeN_bounds hf t0 t1
          obtain ⟨-, -, b5, b6⟩ := closeN_bounds hf u0 u1
          have C1 := Lib.hid (fun W (hw : IntsP W a cap l) => closings_any a cap l u W hw hf hU)
          have C2 := Lib.hid (fun W (hw : IntsP W a cap l) => closings_any a cap l t W hw hf hT)
          have HT := Lib.hid hT
          have HU := Lib.hid hU
          clear hF hT hU hf E1 E2 hok hO'
          generalize closeN l u = cu at *
          generalize closeN l t = ct at *
          go_enter Try.func12, Try.ntmps12
          go_wp2_with fail
          refine C0.out.mono ?_
          rintro e w1 ⟨rfl, b1⟩
          go_wp2_with fail
          refine (right_any _ _).mono ?_
          rintro e w' ⟨rfl, rfl⟩
          rw [HT.out]
          go_wp2_with fail
          refine (right_any _ _).mono ?_
          rintro e w' ⟨rfl, rfl⟩
          rw [HU.out]
          go_wp2_with fail
          refine (C1.out _ (HI.out.below b1)).mono ?_
          rintro e w2 ⟨rfl, b2⟩
          have b7 := b1.trans (b2.mono b1.size)
          go_wp2_with fail
          refine (C2.out _ (HI.out.below b7)).mono ?_
          rintro e w3 ⟨rfl, b8⟩
          have b9 := b7.trans (b8.mono b7.size)
          go_wp2_with fail
          go_ret2
          exact ⟨rfl, b9⟩

set_option maxHeartbeats 2000000 in
/-- The document's Closes, at a tick. -/
theorem refCloses_any (a : Option Addr) (cap : Nat) (l : List Int) (t : Int) (w : World) (h : IntsP w a cap l) (hm : l.length ≤ maxLen) (t0 : 0 ≤ t) (t1 : t ≤ 9223372036854775807) :
    Calls Try.prog 21 #[.slice a l.length cap, .int .i64 t] w fun e w' => e = .returned (.bool (closesB l t)) ∧ Below w.heap.size w w' := by
  have H := Lib.hid h
  clear h
  unfold maxLen at hm
  have r0 : 0 ≤ t % 96 := by omega
  have r1 : t % 96 < 96 := by omega
  go_enter Try.func21, Try.ntmps21
  go_wp2_with fail
  go_loopw [9] (fun i wr => ∃ (k : Nat), k ≤ l.length ∧ i = .int .i64 k ∧ Hid (closesB l t = closesB (l.drop k) t) ∧ Below w.heap.size w wr) (fun i _ => l.length - (intOf i).toNat)
  case atStart => exact ⟨0, Nat.zero_le _, rfl, Lib.hid rfl, Below.refl _ _⟩
  case round =>
    obtain ⟨k, hk, rfl, HS, hbw⟩ := hrel
    by_cases hlt : k < l.length
    · have hne : l ≠ [] := by intro e; subst e; simp at hlt
      obtain ⟨b1, o1, rfl, q1, r1⟩ := (H.out.below hbw).cell hne
      have g1 := r1 k _ (List.getElem?_eq_getElem hlt)
      have p1 := H.out.cap
      have HD := Lib.hid (List.drop_eq_getElem_cons hlt)
      generalize l[k] = x at *
      clear r1 hne
      cases hx : (x == t % 96) with
      | true =>
        have E := Lib.hid (show closesB l t = true by
          rw [HS.out, HD.out, closesB, List.contains_cons]
          simp at hx
          simp [hx])
        go_wp2_with fail
        go_ret
        exact ⟨by rw [E.out]; rfl, hbw⟩
      | false =>
        have HN := Lib.hid (show closesB l t = closesB (l.drop (k + 1)) t by
          rw [HS.out, HD.out, closesB, List.contains_cons]
          have hx2 : (t % 96 == x) = false := by simp at hx ⊢; omega
          rw [hx2]; rfl)
        go_wp2_with fail
        go_roundw
        case rel => exact ⟨k + 1, by omega, by go_num, HN, by first | exact hbw | exact hbw.drew⟩
        case measure => simp [intOf]; omega
    · have E := Lib.hid (show closesB l t = false by
        rw [HS.out, List.drop_eq_nil_of_le (by omega)]; rfl)
      go_wp2_with fail
      go_ret
      exact ⟨by rw [E.out]; rfl, hbw⟩

end Go.Proofs.Ytbodojmapldbjaa
