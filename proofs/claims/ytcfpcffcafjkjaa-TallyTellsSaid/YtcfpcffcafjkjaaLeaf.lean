/- What Right, Less, Times, Sum and Add of package tally answer, and the document's own. -/
import Derived.Test.YtcfpcffcafjkjaaChecked
import Derived.Test.YtcfpcffcafjkjaaPlain
import Derived.WalkKit
import Derived.WalkSpells
import Derived.ProofKit
import Derived.Below
import Derived.IntWalk
import Derived.Lib.Hide
namespace Go.Proofs.Ytcfpcffcafjkjaa
open Go.RowKit

theorem right_any (n : Int) (w : World) : Calls Try.prog 18 #[.int .i64 n] w fun e w' => e = .returned (.bool (okT n)) ∧ w = w' := by
  unfold okT
  cases h1 : decide (0 ≤ n) <;> cases h2 : decide (n ≤ 1000000000000)
  all_goals
    go_enter Try.func18, Try.ntmps18
    go_wp2_with fail
    go_ret
    exact ⟨rfl, rfl⟩

theorem refRight_any (n : Int) (w : World) : Calls Try.prog 19 #[.int .i64 n] w fun e w' => e = .returned (.bool (okT n)) ∧ w = w' := by
  unfold okT
  cases h1 : decide (0 ≤ n) <;> cases h2 : decide (n ≤ 1000000000000)
  all_goals
    go_enter Try.func19, Try.ntmps19
    go_wp2_with fail
    go_ret
    exact ⟨rfl, rfl⟩

def Pair (x y : Int) (w : World) (e : Ending) (w' : World) : Prop := e = .returned (.tuple #[.int .i64 x, .int .i64 y]) ∧ w = w'

set_option maxHeartbeats 1000000 in
theorem less_any (a b : Int) (w : World) : Calls Try.prog 10 #[.int .i64 a, .int .i64 b] w (Pair (lessV a b) (lessE a b) w) := by
  cases ha : okT a with
  | false =>
    have e1 : lessV a b = 0 := by simp [lessV, lessOk, ha]
    have e2 : lessE a b = 21 := by simp [lessE, lessOk, ha]
    rw [e1, e2]
    have HA := Lib.hid ha
    clear ha e1 e2
    go_enter Try.func10, Try.ntmps10
    go_wp2_with fail
    refine (right_any _ _).mono ?_
    rintro e w' ⟨rfl, rfl⟩
    rw [HA.out]
    go_wp2_with fail
    go_ret2
    exact ⟨rfl, rfl⟩
  | true =>
    cases hb : okT b with
    | false =>
      have e1 : lessV a b = 0 := by simp [lessV, lessOk, hb]
      have e2 : lessE a b = 21 := by simp [lessE, lessOk, hb]
      rw [e1, e2]
      have HA := Lib.hid ha
      have HB := Lib.hid hb
      clear ha hb e1 e2
      go_enter Try.func10, Try.ntmps10
      go_wp2_with fail
      refine (right_any _ _).mono ?_
      rintro e w' ⟨rfl, rfl⟩
      rw [HA.out]
      go_wp2_with fail
      refine (right_any _ _).mono ?_
      rintro e w' ⟨rfl, rfl⟩
      rw [HB.out]
      go_wp2_with fail
      go_ret2
      exact ⟨rfl, rfl⟩
    | true =>
      have HA := Lib.hid ha
      have HB := Lib.hid hb
      obtain ⟨a0, a1⟩ := okT_true.1 ha
      obtain ⟨b0, b1⟩ := okT_true.1 hb
      cases hc : decide (a < b) with
      | true =>
        have e1 : lessV a b = 0 := by simp at hc; simp [lessV, lessOk, ha, hb]; omega
        have e2 : lessE a b = 21 := by simp at hc; simp [lessE, lessOk, ha, hb]; omega
        rw [e1, e2]
        clear ha hb e1 e2
        go_enter Try.func10, Try.ntmps10
        go_wp2_with fail
        refine (right_any _ _).mono ?_
        rintro e w' ⟨rfl, rfl⟩
        rw [HA.out]
        go_wp2_with fail
        refine (right_any _ _).mono ?_
        rintro e w' ⟨rfl, rfl⟩
        rw [HB.out]
        go_wp2_with fail
        go_ret2
        exact ⟨rfl, rfl⟩
      | false =>
        have e1 : lessV a b = a - b := by simp at hc; simp [lessV, lessOk, ha, hb]; omega
        have e2 : lessE a b = 0 := by simp at hc; simp [lessE, lessOk, ha, hb]; omega
        rw [e1, e2]
        clear ha hb e1 e2
        go_enter Try.func10, Try.ntmps10
        go_wp2_with fail
        refine (right_any _ _).mono ?_
        rintro e w' ⟨rfl, rfl⟩
        rw [HA.out]
        go_wp2_with fail
        refine (right_any _ _).mono ?_
        rintro e w' ⟨rfl, rfl⟩
        rw [HB.out]
        go_wp2_with fail
        go_ret2
        exact ⟨rfl, rfl⟩

set_option maxHeartbeats 1000000 in
theorem times_any (a b : Int) (w : World) : Calls Try.prog 11 #[.int .i64 a, .int .i64 b] w (Pair (timesV a b) (timesE a b) w) := by
  cases ha : okT a with
  | false =>
    have e1 : timesV a b = 0 := by simp [timesV, timesOk, ha]
    have e2 : timesE a b = 21 := by simp [timesE, timesOk, ha]
    rw [e1, e2]
    have HA := Lib.hid ha
    clear ha e1 e2
    go_enter Try.func11, Try.ntmps11
    go_wp2_with fail
    refine (right_any _ _).mono ?_
    rintro e w' ⟨rfl, rfl⟩
    rw [HA.out]
    go_wp2_with fail
    go_ret2
    exact ⟨rfl, rfl⟩
  | true =>
    cases hb : okT b with
    | false =>
      have e1 : timesV a b = 0 := by simp [timesV, timesOk, hb]
      have e2 : timesE a b = 21 := by simp [timesE, timesOk, hb]
      rw [e1, e2]
      have HA := Lib.hid ha
      have HB := Lib.hid hb
      clear ha hb e1 e2
      go_enter Try.func11, Try.ntmps11
      go_wp2_with fail
      refine (right_any _ _).mono ?_
      rintro e w' ⟨rfl, rfl⟩
      rw [HA.out]
      go_wp2_with fail
      refine (right_any _ _).mono ?_
      rintro e w' ⟨rfl, rfl⟩
      rw [HB.out]
      go_wp2_with fail
      go_ret2
      exact ⟨rfl, rfl⟩
    | true =>
      have HA := Lib.hid ha
      have HB := Lib.hid hb
      obtain ⟨a0, a1⟩ := okT_true.1 ha
      obtain ⟨b0, b1⟩ := okT_true.1 hb
      cases hz : decide (0 < b) with
      | false =>
        have hk := timesOk_zero ha hb (by simpa using hz)
        obtain ⟨hk, rfl⟩ := hk
        have e1 : timesV a 0 = 0 := by simp [timesV]
        have e2 : timesE a 0 = 0 := by simp [timesE, hk]
        rw [e1, e2]
        clear ha hb e1 e2 hk hz
        go_enter Try.func11, Try.ntmps11
        go_wp2_with fail
        refine (right_any _ _).mono ?_
        rintro e w' ⟨rfl, rfl⟩
        rw [HA.out]
        go_wp2_with fail
        refine (right_any _ _).mono ?_
        rintro e w' ⟨rfl, rfl⟩
        rw [HB.out]
        go_wp2_with fail
        go_ret2
        exact ⟨rfl, rfl⟩
      | true =>
        have hz' : 0 < b := by simpa using hz
        have hk := timesOk_div ha hb hz'
        cases hc : decide (1000000000000 / b < a) with
        | true =>
          rw [hc] at hk
          have e1 : timesV a b = 0 := by simp [timesV, hk]
          have e2 : timesE a b = 21 := by simp [timesE, hk]
          rw [e1, e2]
          clear ha hb e1 e2 hk
          go_enter Try.func11, Try.ntmps11
          go_wp2_with fail
          refine (right_any _ _).mono ?_
          rintro e w' ⟨rfl, rfl⟩
          rw [HA.out]
          go_wp2_with fail
          refine (right_any _ _).mono ?_
          rintro e w' ⟨rfl, rfl⟩
          rw [HB.out]
          go_wp2_with fail
          go_ret2
          exact ⟨rfl, rfl⟩
        | false =>
          rw [hc] at hk
          have e1 : timesV a b = a * b := by simp [timesV, hk]
          have e2 : timesE a b = 0 := by simp [timesE, hk]
          rw [e1, e2]
          have hm : 0 ≤ a * b := Int.mul_nonneg a0 b0
          have hm2 : a * b ≤ 1000000000000 := by
            unfold timesOk at hk
            simp only [Bool.not_false, Bool.and_eq_true] at hk
            exact (okT_true.1 hk.2.2).2
          clear ha hb e1 e2 hk
          go_enter Try.func11, Try.ntmps11
          go_wp2_with fail
          refine (right_any _ _).mono ?_
          rintro e w' ⟨rfl, rfl⟩
          rw [HA.out]
          go_wp2_with fail
          refine (right_any _ _).mono ?_
          rintro e w' ⟨rfl, rfl⟩
          rw [HB.out]
          go_wp2_with fail
          go_ret2
          exact ⟨rfl, rfl⟩

set_option maxHeartbeats 1000000 in
theorem refAdd_any (a b : Int) (w : World) : Calls Try.prog 15 #[.int .i64 a, .int .i64 b] w (Pair (addV a b) (addE a b) w) := by
  cases ha : okT a with
  | false =>
    have e1 : addV a b = 0 := by simp [addV, addOk, ha]
    have e2 : addE a b = 21 := by simp [addE, addOk, ha]
    rw [e1, e2]
    have HA := Lib.hid ha
    clear ha e1 e2
    go_enter Try.func15, Try.ntmps15
    go_wp2_with fail
    refine (refRight_any _ _).mono ?_
    rintro e w' ⟨rfl, rfl⟩
    rw [HA.out]
    go_wp2_with fail
    go_ret2
    exact ⟨rfl, rfl⟩
  | true =>
    cases hb : okT b with
    | false =>
      have e1 : addV a b = 0 := by simp [addV, addOk, hb]
      have e2 : addE a b = 21 := by simp [addE, addOk, hb]
      rw [e1, e2]
      have HA := Lib.hid ha
      have HB := Lib.hid hb
      clear ha hb e1 e2
      go_enter Try.func15, Try.ntmps15
      go_wp2_with fail
      refine (refRight_any _ _).mono ?_
      rintro e w' ⟨rfl, rfl⟩
      rw [HA.out]
      go_wp2_with fail
      refine (refRight_any _ _).mono ?_
      rintro e w' ⟨rfl, rfl⟩
      rw [HB.out]
      go_wp2_with fail
      go_ret2
      exact ⟨rfl, rfl⟩
    | true =>
      have HA := Lib.hid ha
      have HB := Lib.hid hb
      obtain ⟨a0, a1⟩ := okT_true.1 ha
      obtain ⟨b0, b1⟩ := okT_true.1 hb
      cases hc : decide (1000000000000 - b < a) with
      | true =>
        have h3 : okT (a + b) = false := by simp at hc; exact okT_false.2 (by omega)
        have e1 : addV a b = 0 := by simp [addV, addOk, h3]
        have e2 : addE a b = 21 := by simp [addE, addOk, h3]
        rw [e1, e2]
        clear ha hb e1 e2 h3
        go_enter Try.func15, Try.ntmps15
        go_wp2_with fail
        refine (refRight_any _ _).mono ?_
        rintro e w' ⟨rfl, rfl⟩
        rw [HA.out]
        go_wp2_with fail
        refine (refRight_any _ _).mono ?_
        rintro e w' ⟨rfl, rfl⟩
        rw [HB.out]
        go_wp2_with fail
        go_ret2
        exact ⟨rfl, rfl⟩
      | false =>
        have h3 : okT (a + b) = true := by simp at hc; exact okT_true.2 (by omega)
        have e1 : addV a b = a + b := by simp [addV, addOk, ha, hb, h3]
        have e2 : addE a b = 0 := by simp [addE, addOk, ha, hb, h3]
        rw [e1, e2]
        clear ha hb e1 e2 h3
        go_enter Try.func15, Try.ntmps15
        go_wp2_with fail
        refine (refRight_any _ _).mono ?_
        rintro e w' ⟨rfl, rfl⟩
        rw [HA.out]
        go_wp2_with fail
        refine (refRight_any _ _).mono ?_
        rintro e w' ⟨rfl, rfl⟩
        rw [HB.out]
        go_wp2_with fail
        go_ret2
        exact ⟨rfl, rfl⟩

set_option maxHeartbeats 1000000 in
theorem refLess_any (a b : Int) (w : World) : Calls Try.prog 16 #[.int .i64 a, .int .i64 b] w (Pair (lessV a b) (lessE a b) w) := by
  cases ha : okT a with
  | false =>
    have e1 : lessV a b = 0 := by simp [lessV, lessOk, ha]
    have e2 : lessE a b = 21 := by simp [lessE, lessOk, ha]
    rw [e1, e2]
    have HA := Lib.hid ha
    clear ha e1 e2
    go_enter Try.func16, Try.ntmps16
    go_wp2_with fail
    refine (refRight_any _ _).mono ?_
    rintro e w' ⟨rfl, rfl⟩
    rw [HA.out]
    go_wp2_with fail
    go_ret2
    exact ⟨rfl, rfl⟩
  | true =>
    cases hb : okT b with
    | false =>
      have e1 : lessV a b = 0 := by simp [lessV, lessOk, hb]
      have e2 : lessE a b = 21 := by simp [lessE, lessOk, hb]
      rw [e1, e2]
      have HA := Lib.hid ha
      have HB := Lib.hid hb
      clear ha hb e1 e2
      go_enter Try.func16, Try.ntmps16
      go_wp2_with fail
      refine (refRight_any _ _).mono ?_
      rintro e w' ⟨rfl, rfl⟩
      rw [HA.out]
      go_wp2_with fail
      refine (refRight_any _ _).mono ?_
      rintro e w' ⟨rfl, rfl⟩
      rw [HB.out]
      go_wp2_with fail
      go_ret2
      exact ⟨rfl, rfl⟩
    | true =>
      have HA := Lib.hid ha
      have HB := Lib.hid hb
      obtain ⟨a0, a1⟩ := okT_true.1 ha
      obtain ⟨b0, b1⟩ := okT_true.1 hb
      cases hc : decide (a < b) with
      | true =>
        have e1 : lessV a b = 0 := by simp at hc; simp [lessV, lessOk, ha, hb]; omega
        have e2 : lessE a b = 21 := by simp at hc; simp [lessE, lessOk, ha, hb]; omega
        rw [e1, e2]
        clear ha hb e1 e2
        go_enter Try.func16, Try.ntmps16
        go_wp2_with fail
        refine (refRight_any _ _).mono ?_
        rintro e w' ⟨rfl, rfl⟩
        rw [HA.out]
        go_wp2_with fail
        refine (refRight_any _ _).mono ?_
        rintro e w' ⟨rfl, rfl⟩
        rw [HB.out]
        go_wp2_with fail
        go_ret2
        exact ⟨rfl, rfl⟩
      | false =>
        have e1 : lessV a b = a - b := by simp at hc; simp [lessV, lessOk, ha, hb]; omega
        have e2 : lessE a b = 0 := by simp at hc; simp [lessE, lessOk, ha, hb]; omega
        rw [e1, e2]
        clear ha hb e1 e2
        go_enter Try.func16, Try.ntmps16
        go_wp2_with fail
        refine (refRight_any _ _).mono ?_
        rintro e w' ⟨rfl, rfl⟩
        rw [HA.out]
        go_wp2_with fail
        refine (refRight_any _ _).mono ?_
        rintro e w' ⟨rfl, rfl⟩
        rw [HB.out]
        go_wp2_with fail
        go_ret2
        exact ⟨rfl, rfl⟩

set_option maxHeartbeats 1000000 in
theorem refTimes_any (a b : Int) (w : World) : Calls Try.prog 17 #[.int .i64 a, .int .i64 b] w (Pair (timesV a b) (timesE a b) w) := by
  cases ha : okT a with
  | false =>
    have e1 : timesV a b = 0 := by simp [timesV, timesOk, ha]
    have e2 : timesE a b = 21 := by simp [timesE, timesOk, ha]
    rw [e1, e2]
    have HA := Lib.hid ha
    clear ha e1 e2
    go_enter Try.func17, Try.ntmps17
    go_wp2_with fail
    refine (refRight_any _ _).mono ?_
    rintro e w' ⟨rfl, rfl⟩
    rw [HA.out]
    go_wp2_with fail
    go_ret2
    exact ⟨rfl, rfl⟩
  | true =>
    cases hb : okT b with
    | false =>
      have e1 : timesV a b = 0 := by simp [timesV, timesOk, hb]
      have e2 : timesE a b = 21 := by simp [timesE, timesOk, hb]
      rw [e1, e2]
      have HA := Lib.hid ha
      have HB := Lib.hid hb
      clear ha hb e1 e2
      go_enter Try.func17, Try.ntmps17
      go_wp2_with fail
      refine (refRight_any _ _).mono ?_
      rintro e w' ⟨rfl, rfl⟩
      rw [HA.out]
      go_wp2_with fail
      refine (refRight_any _ _).mono ?_
      rintro e w' ⟨rfl, rfl⟩
      rw [HB.out]
      go_wp2_with fail
      go_ret2
      exact ⟨rfl, rfl⟩
    | true =>
      have HA := Lib.hid ha
      have HB := Lib.hid hb
      obtain ⟨a0, a1⟩ := okT_true.1 ha
      obtain ⟨b0, b1⟩ := okT_true.1 hb
      cases hz : decide (0 < b) with
      | false =>
        have hk := timesOk_zero ha hb (by simpa using hz)
        obtain ⟨hk, rfl⟩ := hk
        have e1 : timesV a 0 = 0 := by simp [timesV]
        have e2 : timesE a 0 = 0 := by simp [timesE, hk]
        rw [e1, e2]
        clear ha hb e1 e2 hk hz
        go_enter Try.func17, Try.ntmps17
        go_wp2_with fail
        refine (refRight_any _ _).mono ?_
        rintro e w' ⟨rfl, rfl⟩
        rw [HA.out]
        go_wp2_with fail
        refine (refRight_any _ _).mono ?_
        rintro e w' ⟨rfl, rfl⟩
        rw [HB.out]
        go_wp2_with fail
        go_ret2
        exact ⟨rfl, rfl⟩
      | true =>
        have hz' : 0 < b := by simpa using hz
        have hk := timesOk_div ha hb hz'
        cases hc : decide (1000000000000 / b < a) with
        | true =>
          rw [hc] at hk
          have e1 : timesV a b = 0 := by simp [timesV, hk]
          have e2 : timesE a b = 21 := by simp [timesE, hk]
          rw [e1, e2]
          clear ha hb e1 e2 hk
          go_enter Try.func17, Try.ntmps17
          go_wp2_with fail
          refine (refRight_any _ _).mono ?_
          rintro e w' ⟨rfl, rfl⟩
          rw [HA.out]
          go_wp2_with fail
          refine (refRight_any _ _).mono ?_
          rintro e w' ⟨rfl, rfl⟩
          rw [HB.out]
          go_wp2_with fail
          go_ret2
          exact ⟨rfl, rfl⟩
        | false =>
          rw [hc] at hk
          have e1 : timesV a b = a * b := by simp [timesV, hk]
          have e2 : timesE a b = 0 := by simp [timesE, hk]
          rw [e1, e2]
          have hm : 0 ≤ a * b := Int.mul_nonneg a0 b0
          have hm2 : a * b ≤ 1000000000000 := by
            unfold timesOk at hk
            simp only [Bool.not_false, Bool.and_eq_true] at hk
            exact (okT_true.1 hk.2.2).2
          clear ha hb e1 e2 hk
          go_enter Try.func17, Try.ntmps17
          go_wp2_with fail
          refine (refRight_any _ _).mono ?_
          rintro e w' ⟨rfl, rfl⟩
          rw [HA.out]
          go_wp2_with fail
          refine (refRight_any _ _).mono ?_
          rintro e w' ⟨rfl, rfl⟩
          rw [HB.out]
          go_wp2_with fail
          go_ret2
          exact ⟨rfl, rfl⟩

end Go.Proofs.Ytcfpcffcafjkjaa
