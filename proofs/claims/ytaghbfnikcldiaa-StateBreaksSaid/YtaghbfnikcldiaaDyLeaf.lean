/- What Right, Of, End and the inner functions of package day answer, and the document's Right, Fits, Closes and Next. -/
import Derived.Test.YtaghbfnikcldiaaDyOwn
namespace Go.Proofs.Ytaghbfnikcldiaa
set_option maxRecDepth 100000
open Go.RowKit

theorem dyRight_any (n : Int) (w : World) : Calls Try.prog 28 #[.int .i64 n] w fun e w' => e = .returned (.bool (dyRightB n)) ∧ w = w' := by
  unfold dyRightB
  cases h1 : decide (0 ≤ n) <;> cases h2 : decide (n ≤ 1099511627776)
  all_goals
    go_enter Try.func28, Try.ntmps28
    go_wp2_with fail
    go_ret
    exact ⟨rfl, rfl⟩

theorem dyRefRight_any (n : Int) (w : World) : Calls Try.prog 36 #[.int .i64 n] w fun e w' => e = .returned (.bool (dyRightB n)) ∧ w = w' := by
  unfold dyRightB
  cases h1 : decide (0 ≤ n) <;> cases h2 : decide (n ≤ 1099511627776)
  all_goals
    go_enter Try.func36, Try.ntmps36
    go_wp2_with fail
    go_ret
    exact ⟨rfl, rfl⟩

theorem isDoor_any (n : Int) (w : World) : Calls Try.prog 55 #[.int .i64 n] w fun e w' => e = .returned (.bool (doorB n)) ∧ w = w' := by
  unfold doorB
  cases h1 : decide (0 ≤ n) <;> cases h2 : decide (n < 96)
  all_goals
    go_enter Try.func55, Try.ntmps55
    go_wp2_with fail
    go_ret
    exact ⟨rfl, rfl⟩

def dyPair (x y : Int) (w : World) (e : Ending) (w' : World) : Prop := e = .returned (.tuple #[.int .i64 x, .int .i64 y]) ∧ w = w'
def PairB (x y : Int) (w : World) (e : Ending) (w' : World) : Prop := e = .returned (.tuple #[.int .i64 x, .int .i64 y]) ∧ Below w.heap.size w w'

def ofD (t : Int) : Int := if dyRightB t then t / 96 else 0
def ofT (t : Int) : Int := if dyRightB t then t % 96 else 0

set_option maxHeartbeats 1000000 in
theorem of_any (t : Int) (w : World) : Calls Try.prog 112 #[.int .i64 t] w (dyPair (ofD t) (ofT t) w) := by
  cases h : dyRightB t with
  | false =>
    have e1 : ofD t = 0 := by simp [ofD, h]
    have e2 : ofT t = 0 := by simp [ofT, h]
    rw [e1, e2]
    have H := Lib.hid h
    clear h e1 e2
    go_enter Try.func112, Try.ntmps112
    go_wp2_with fail
    refine (dyRight_any _ _).mono ?_
    rintro e w' ⟨rfl, rfl⟩
    rw [H.out]
    go_wp2_with fail
    go_ret2
    exact ⟨rfl, rfl⟩
  | true =>
    have e1 : ofD t = t / 96 := by simp [ofD, h]
    have e2 : ofT t = t % 96 := by simp [ofT, h]
    rw [e1, e2]
    obtain ⟨t0, t1⟩ := rightB_true.1 h
    have H := Lib.hid h
    clear h e1 e2
    have q0 : 0 ≤ t / 96 := by omega
    have q1 : t / 96 ≤ 1099511627776 := by omega
    have r0 : 0 ≤ t % 96 := by omega
    have r1 : t % 96 < 96 := by omega
    go_enter Try.func112, Try.ntmps112
    go_wp2_with fail
    refine (dyRight_any _ _).mono ?_
    rintro e w' ⟨rfl, rfl⟩
    rw [H.out]
    go_wp2_with fail
    go_ret2
    exact ⟨rfl, rfl⟩

def tickV (x : Int) : Int := if dyRightB x then x else 0
def tickE (x : Int) : Int := if dyRightB x then 0 else 31

theorem end_tick {t : Int} (h : dyRightB t = true) : tickV ((t / 96 + 1) * 96 + 0) = endV t ∧ tickE ((t / 96 + 1) * 96 + 0) = endE t := by
  obtain ⟨h0, h1⟩ := rightB_true.1 h
  rw [Int.add_zero]
  have : dyRightB ((t / 96 + 1) * 96) = decide ((t / 96 + 1) * 96 ≤ 1099511627776) := by
    unfold dyRightB
    rw [decide_eq_true (show 0 ≤ (t / 96 + 1) * 96 by omega)]
    rfl
  simp only [tickV, tickE, endV, endE, endOk, this, h, Bool.true_and]
  exact ⟨trivial, trivial⟩

set_option maxHeartbeats 2000000 in
/-- The document's Fits. -/
theorem refFits_any (a : Option Addr) (cap : Nat) (l : List Int) (w : World) (h : IntsP w a cap l) (hm : l.length ≤ maxLen) :
    Calls Try.prog 35 #[.slice a l.length cap] w fun e w' => e = .returned (.bool (fitsB l)) ∧ w = w' := by
  have H := Lib.hid h
  clear h
  unfold maxLen at hm
  go_enter Try.func35, Try.ntmps35
  go_wp2_with fail
  go_loop [3, 8] (fun s i => ∃ (k : Nat) (t : Int), k ≤ l.length ∧ i = .int .i64 k ∧ s = .int .i64 t ∧ Hid (fitsFrom (-1) l = fitsFrom t (l.drop k))) (fun _ i => l.length - (intOf i).toNat)
  case atStart => exact ⟨0, -1, Nat.zero_le _, rfl, rfl, Lib.hid rfl⟩
  case round =>
    obtain ⟨k, t, hk, rfl, rfl, HS⟩ := hrel
    by_cases hlt : k < l.length
    · have hne : l ≠ [] := by intro e; subst e; simp at hlt
      obtain ⟨b1, o1, rfl, q1, r1⟩ := H.out.cell hne
      have g1 := r1 k _ (List.getElem?_eq_getElem hlt)
      have p1 := H.out.cap
      have HD := Lib.hid (List.drop_eq_getElem_cons hlt)
      generalize l[k] = x at *
      clear r1 hne
      cases hx : decide (x ≤ t) with
      | true =>
        have E := Lib.hid (show fitsB l = false by
          unfold fitsB
          rw [HS.out, HD.out, fitsFrom, decide_eq_false (by simp at hx; omega)]; rfl)
        go_wp2_with fail
        go_ret
        exact ⟨by rw [E.out]; rfl, rfl⟩
      | false =>
        cases hy : decide (95 < x) with
        | true =>
          have E := Lib.hid (show fitsB l = false by
            unfold fitsB
            rw [HS.out, HD.out, fitsFrom, decide_eq_false (p := x ≤ 95) (by simp at hy; omega)]; simp)
          go_wp2_with fail
          go_ret
          exact ⟨by rw [E.out]; rfl, rfl⟩
        | false =>
          have HN := Lib.hid (show fitsFrom (-1) l = fitsFrom x (l.drop (k + 1)) by
            rw [HS.out, HD.out, fitsFrom, decide_eq_true (p := t < x) (by simp at hx; omega), decide_eq_true (p := x ≤ 95) (by simp at hy; omega)]; rfl)
          go_wp2_with fail
          go_round
          case rel => exact ⟨k + 1, x, by omega, by go_num, rfl, HN⟩
          case measure => simp [intOf]; omega
    · have E := Lib.hid (show fitsB l = decide (0 < l.length) by
        unfold fitsB
        rw [HS.out, List.drop_eq_nil_of_le (by omega), fitsFrom]; rfl)
      go_wp2_with fail
      go_ret
      exact ⟨by rw [E.out]; simp, rfl⟩

set_option maxHeartbeats 2000000 in
theorem areDoors_any (a : Option Addr) (cap : Nat) (l : List Int) (w : World) (h : IntsP w a cap l) (hm : l.length ≤ maxLen) :
    Calls Try.prog 90 #[.slice a l.length cap] w fun e w' => e = .returned (.bool (fitsB l)) ∧ Below w.heap.size w w' := by
  have H := Lib.hid h
  clear h
  unfold maxLen at hm
  go_enter Try.func90, Try.ntmps90
  go_wp2_with fail
  go_loopw [7] (fun i wr => ∃ (k : Nat) (t : Int), k ≤ l.length ∧ i = .int .i64 k ∧ Hid (fitsFrom (-1) l = fitsFrom t (l.drop k)) ∧ Hid (k = 0 → t = -1) ∧ Hid (∀ j, k = j + 1 → l[j]? = some t ∧ 0 ≤ t) ∧ Below w.heap.size w wr) (fun i _ => l.length - (intOf i).toNat)
  case atStart => exact ⟨0, -1, Nat.zero_le _, rfl, Lib.hid rfl, Lib.hid (fun _ => rfl), Lib.hid (fun j hj => by omega), Below.refl _ _⟩
  case round =>
    obtain ⟨k, t, hk, rfl, HS, HZ, HJ, hbw⟩ := hrel
    by_cases hlt : k < l.length
    · have hne : l ≠ [] := by intro e; subst e; simp at hlt
      obtain ⟨b1, o1, rfl, q1, r1⟩ := (H.out.below hbw).cell hne
      have g1 := r1 k _ (List.getElem?_eq_getElem hlt)
      have p1 := H.out.cap
      have HD := Lib.hid (List.drop_eq_getElem_cons hlt)
      have HG := Lib.hid (List.getElem?_eq_getElem hlt)
      generalize l[k] = x at *
      have R1 := Lib.hid r1
      clear r1 hne
      cases hx : doorB x with
      | false =>
        have E := Lib.hid (show fitsB l = false by
          unfold fitsB
          rw [HS.out, HD.out, fitsFrom]
          have ht : -1 ≤ t := by
            cases k with
            | zero => rw [HZ.out rfl]; decide
            | succ j => have := (HJ.out j rfl).2; omega
          have : (decide (t < x) && decide (x ≤ 95)) = false := by
            rw [← Bool.not_eq_true] at hx ⊢
            rw [doorB_true] at hx
            simp
            omega
          rw [this]; rfl)
        have HX := Lib.hid hx
        clear hx
        go_wp2_with fail
        refine (isDoor_any _ _).mono ?_
        rintro e w' ⟨rfl, rfl⟩
        rw [HX.out]
        go_wp2_with fail
        go_ret
        exact ⟨by rw [E.out]; rfl, hbw⟩
      | true =>
        obtain ⟨x0, x1⟩ := doorB_true.1 hx
        have HX := Lib.hid hx
        clear hx
        cases k with
        | zero =>
          rw [Nat.add_zero] at g1
          have HN := Lib.hid (show fitsFrom (-1) l = fitsFrom x (l.drop (0 + 1)) by
            rw [HS.out, HD.out, fitsFrom, HZ.out rfl, decide_eq_true (p := (-1 : Int) < x) (by omega), decide_eq_true (p := x ≤ 95) (by omega)]; rfl)
          go_wp2_with fail
          refine (isDoor_any _ _).mono ?_
          rintro e w' ⟨rfl, rfl⟩
          rw [HX.out]
          go_wp2_with fail
          go_roundw
          case rel => exact ⟨0 + 1, x, by omega, by go_num, HN, Lib.hid (fun h => by omega), Lib.hid (fun j hj => ⟨(show j = 0 by omega) ▸ HG.out, x0⟩), by first | exact hbw | exact hbw.drew⟩
          case measure => simp [intOf]; omega
        | succ j =>
          have g2 := R1.out j _ (HJ.out j rfl).1
          cases hy : decide (x ≤ t) with
          | true =>
            have E := Lib.hid (show fitsB l = false by
              unfold fitsB
              rw [HS.out, HD.out, fitsFrom, decide_eq_false (p := t < x) (by simp at hy; omega)]; rfl)
            go_wp2_with fail
            refine (isDoor_any _ _).mono ?_
            rintro e w' ⟨rfl, rfl⟩
            rw [HX.out]
            go_wp2_with fail
            go_ret
            exact ⟨by rw [E.out]; rfl, by first | exact hbw | exact hbw.drew⟩
          | false =>
            have HN := Lib.hid (show fitsFrom (-1) l = fitsFrom x (l.drop (j + 1 + 1)) by
              rw [HS.out, HD.out, fitsFrom, decide_eq_true (p := t < x) (by simp at hy; omega), decide_eq_true (p := x ≤ 95) (by omega)]; rfl)
            go_wp2_with fail
            refine (isDoor_any _ _).mono ?_
            rintro e w' ⟨rfl, rfl⟩
            rw [HX.out]
            go_wp2_with fail
            go_roundw
            case rel => exact ⟨j + 1 + 1, x, by omega, by go_num, HN, Lib.hid (fun h => by omega), Lib.hid (fun i hi => ⟨(show i = j + 1 by omega) ▸ HG.out, x0⟩), by first | exact hbw | exact hbw.drew⟩
            case measure => simp [intOf]; omega
    · have E := Lib.hid (show fitsB l = decide (0 < l.length) by
        unfold fitsB
        rw [HS.out, List.drop_eq_nil_of_le (by omega), fitsFrom]; rfl)
      go_wp2_with fail
      go_ret
      exact ⟨by rw [E.out]; simp, hbw⟩

end Go.Proofs.Ytaghbfnikcldiaa
