/- Sums and differences of tallies: what Sum of two, Add and Less of package tally answer. -/
import Derived.Test.YtieoihmndpkdoaaScLeaf
namespace Go.Proofs.Ytieoihmndpkdoaa
set_option maxRecDepth 100000
open Go.RowKit

def addE (a b : Int) : Int := if tallyB a && tallyB b && decide (a + b ≤ 1000000000000) then 0 else 21
def addV (a b : Int) : Int := if tallyB a && tallyB b && decide (a + b ≤ 1000000000000) then a + b else 0
def lessV (a b : Int) : Int := if tallyB a && tallyB b && decide (b ≤ a) then a - b else 0
def lessE (a b : Int) : Int := if tallyB a && tallyB b && decide (b ≤ a) then 0 else 21
theorem tallyB_iff (n : Int) : tallyB n = true ↔ 0 ≤ n ∧ n ≤ 1000000000000 := by simp [tallyB]
theorem tallyB_no (n : Int) : tallyB n = false ↔ ¬ (0 ≤ n ∧ n ≤ 1000000000000) := by simp [tallyB]
theorem addE_ok {a b : Int} (h : addE a b = 0) : addV a b = a + b ∧ (0 ≤ a ∧ 0 ≤ b ∧ a + b ≤ 1000000000000) := by
  unfold addE addV at *
  split at h
  · rename_i h1
    simp only [Bool.and_eq_true, tallyB_iff, decide_eq_true_eq] at h1
    exact ⟨by rw [if_pos (by simp only [Bool.and_eq_true, tallyB_iff, decide_eq_true_eq]; exact h1)], h1.1.1.1, h1.1.2.1, h1.2⟩
  · cases h
theorem lessV_in {a b : Int} (h : 0 ≤ a ∧ a ≤ 1000000000000) : 0 ≤ lessV a b ∧ lessV a b ≤ 1000000000000 := by
  unfold lessV
  split
  · rename_i h1
    simp only [Bool.and_eq_true, tallyB_iff, decide_eq_true_eq] at h1
    omega
  · omega

/-- Two numbers are answered; all that was there stays. -/
def PairN (x y : Int) (w : World) (e : Ending) (w' : World) : Prop := e = .returned (.tuple #[.int .i64 x, .int .i64 y]) ∧ Below w.heap.size w w'

/-- All together behind s, none where it is too great. -/
def sumFrom : Int → List Int → Option Int
  | s, [] => some s
  | s, x :: l => if tallyB x && decide (x ≤ 1000000000000 - s) then sumFrom (s + x) l else none
def sumV (l : List Int) : Int := (sumFrom 0 l).getD 0
def sumE (l : List Int) : Int := if (sumFrom 0 l).isSome then 0 else 21

theorem sum_two (a b : Int) : sumV [a, b] = addV a b ∧ sumE [a, b] = addE a b := by
  have e : sumFrom 0 [a, b] = if tallyB a && tallyB b && decide (a + b ≤ 1000000000000) then some (a + b) else none := by
    simp only [sumFrom]
    rcases Bool.eq_false_or_eq_true (tallyB a) with ha | ha
    · rw [ha]
      rw [tallyB_iff] at ha
      rw [Int.sub_zero, decide_eq_true ha.2, Int.zero_add]
      rcases Bool.eq_false_or_eq_true (tallyB b) with hb | hb
      · rw [hb]
        by_cases h : b ≤ 1000000000000 - a
        · have : a + b ≤ 1000000000000 := by omega
          simp [h, this]
        · have : ¬ a + b ≤ 1000000000000 := by omega
          simp [h, this]
      · simp [hb]
    · simp [ha]
  unfold sumV sumE addV addE
  rw [e]
  cases (tallyB a && tallyB b && decide (a + b ≤ 1000000000000)) <;> simp

/-- A slice reads as these numbers. -/
structure IntsP (w : World) (a : Option Addr) (cap : Nat) (ls : List Int) : Prop where
  cap : ls.length ≤ cap
  cell : ls ≠ [] → ∃ b o, a = some ⟨b, o, none⟩ ∧ b < w.heap.size ∧ ∀ (j : Nat) (x : Int), ls[j]? = some x → w.cell? ⟨b, o + j, none⟩ = some (.int .i64 x)

set_option maxHeartbeats 2000000 in
theorem sum_any (a : Option Addr) (cap : Nat) (l : List Int) (w : World) (h : IntsP w a cap l) (hl : l.length ≤ 1000000) :
    Calls Try.prog 60 #[.slice a l.length cap] w (fun e w' => e = .returned (.tuple #[.int .i64 (sumV l), .int .i64 (sumE l)]) ∧ w = w') := by
  have H := Lib.hid h
  clear h
  go_enter Try.func60, Try.ntmps60
  go_wp2_with fail
  go_loop [4, 9] (fun s i => ∃ (k : Nat) (t : Int), k ≤ l.length ∧ i = .int .i64 k ∧ s = .int .i64 t ∧ 0 ≤ t ∧ t ≤ 1000000000000 ∧ Hid (sumFrom 0 l = sumFrom t (l.drop k))) (fun _ i => l.length - (intOf i).toNat)
  case atStart => exact ⟨0, 0, Nat.zero_le _, rfl, rfl, by omega, by omega, Lib.hid rfl⟩
  case round =>
    obtain ⟨k, t, hk, rfl, rfl, t0, t1, HS⟩ := hrel
    by_cases hlt : k < l.length
    · have hne : l ≠ [] := by intro e; subst e; simp at hlt
      obtain ⟨b1, o1, rfl, q1, r1⟩ := H.out.cell hne
      have g1 := r1 k _ (List.getElem?_eq_getElem hlt)
      have p1 := H.out.cap
      have HD := Lib.hid (List.drop_eq_getElem_cons hlt)
      generalize l[k] = x at *
      clear r1 hne
      have C := Lib.hid (fun w => tally_any x w)
      cases hx : tallyB x with
      | false =>
        have e : sumFrom 0 l = none := by rw [HS.out, HD.out, sumFrom, hx]; rfl
        have e1 : sumV l = 0 := by unfold sumV; rw [e]; rfl
        have e2 : sumE l = 21 := by unfold sumE; rw [e]; rfl
        have E := Lib.hid (And.intro e1 e2)
        rw [hx] at C
        clear e e1 e2 hx
        go_wp2_with fail
        refine (C.out _).mono ?_
        rintro e w' ⟨rfl, rfl⟩
        go_wp2_with fail
        go_ret2
        exact ⟨by rw [E.out.1, E.out.2]; rfl, rfl⟩
      | true =>
        obtain ⟨x0, x1⟩ := (tallyB_iff _).1 hx
        rw [hx] at C
        cases hc : decide (1000000000000 - t < x) with
        | true =>
          have e : sumFrom 0 l = none := by
            rw [HS.out, HD.out, sumFrom, hx, Bool.true_and]
            rw [if_neg]
            simp at hc ⊢
            omega
          have e1 : sumV l = 0 := by unfold sumV; rw [e]; rfl
          have e2 : sumE l = 21 := by unfold sumE; rw [e]; rfl
          have E := Lib.hid (And.intro e1 e2)
          clear e e1 e2 hx
          go_wp2_with fail
          refine (C.out _).mono ?_
          rintro e w' ⟨rfl, rfl⟩
          go_wp2_with fail
          go_ret2
          exact ⟨by rw [E.out.1, E.out.2]; rfl, rfl⟩
        | false =>
          have hc' : x ≤ 1000000000000 - t := by simpa using hc
          have HN := Lib.hid (show sumFrom 0 l = sumFrom (t + x) (l.drop (k + 1)) by
            rw [HS.out, HD.out, sumFrom, hx, Bool.true_and, if_pos (decide_eq_true hc')])
          clear hx
          go_wp2_with fail
          refine (C.out _).mono ?_
          rintro e w' ⟨rfl, rfl⟩
          go_wp2_with fail
          go_round
          case rel => exact ⟨k + 1, t + x, by omega, by go_num, rfl, by omega, by omega, HN⟩
          case measure => simp [intOf]; omega
    · have e : sumFrom 0 l = some t := by rw [HS.out, List.drop_eq_nil_of_le (by omega), sumFrom]
      have e1 : sumV l = t := by unfold sumV; rw [e]; rfl
      have e2 : sumE l = 0 := by unfold sumE; rw [e]; rfl
      have E := Lib.hid (And.intro e1 e2)
      clear e e1 e2
      go_wp2_with fail
      go_ret2
      exact ⟨by rw [E.out.1, E.out.2]; rfl, rfl⟩

theorem ints_two (a b : Int) (W : World) (T : TypeId) : IntsP (W.alloc (.cells #[.int .i64 a, .int .i64 b] T)) (some ⟨W.heap.size, 0, none⟩) 2 [a, b] := by
  refine ⟨by simp, fun _ => ⟨_, _, rfl, by simp, fun j x hj => ?_⟩⟩
  match j, hj with
  | 0, hj => simp at hj; subst hj; simp
  | 1, hj => simp at hj; subst hj; simp
  | _ + 2, hj => simp at hj

set_option maxHeartbeats 1000000 in
theorem add_any (a b : Int) (w : World) : Calls Try.prog 34 #[.int .i64 a, .int .i64 b] w (PairN (addV a b) (addE a b) w) := by
  have C : ∀ W : World, Calls Try.prog 60 #[.slice (some ⟨W.heap.size, 0, none⟩) 2 2] (W.alloc (.cells #[.int .i64 a, .int .i64 b] 2)) (fun e w' => e = .returned (.tuple #[.int .i64 (addV a b), .int .i64 (addE a b)]) ∧ (W.alloc (.cells #[.int .i64 a, .int .i64 b] 2)) = w') := by
    intro W
    have := sum_any _ 2 [a, b] _ (ints_two a b W 2) (by simp)
    rw [(sum_two a b).1, (sum_two a b).2] at this
    exact this
  have HC := Lib.hid C
  clear C
  go_enter Try.func34, Try.ntmps34
  go_wp2_with fail
  refine (HC.out _).mono ?_
  rintro e w' ⟨rfl, rfl⟩
  go_wp2_with fail
  go_ret2
  exact ⟨rfl, (Below.refl _ _).alloc (Nat.le_refl _) _⟩

set_option maxHeartbeats 1000000 in
theorem less_any (a b : Int) (w : World) : Calls Try.prog 37 #[.int .i64 a, .int .i64 b] w (PairN (lessV a b) (lessE a b) w) := by
  have C := Lib.hid (tally_any a w)
  have D := Lib.hid (tally_any b w)
  cases ha : tallyB a with
  | false =>
    have E := Lib.hid (show lessV a b = 0 ∧ lessE a b = 21 by simp [lessV, lessE, ha])
    rw [ha] at C
    clear ha
    go_enter Try.func37, Try.ntmps37
    go_wp2_with fail
    refine C.out.mono ?_
    rintro e w' ⟨rfl, rfl⟩
    go_wp2_with fail
    go_ret2
    exact ⟨by rw [E.out.1, E.out.2]; rfl, Below.refl _ _⟩
  | true =>
    obtain ⟨a0, a1⟩ := (tallyB_iff _).1 ha
    rw [ha] at C
    cases hb : tallyB b with
    | false =>
      have E := Lib.hid (show lessV a b = 0 ∧ lessE a b = 21 by simp [lessV, lessE, hb])
      rw [hb] at D
      clear ha hb
      go_enter Try.func37, Try.ntmps37
      go_wp2_with fail
      refine C.out.mono ?_
      rintro e w' ⟨rfl, rfl⟩
      go_wp2_with fail
      refine D.out.mono ?_
      rintro e w' ⟨rfl, rfl⟩
      go_wp2_with fail
      go_ret2
      exact ⟨by rw [E.out.1, E.out.2]; rfl, Below.refl _ _⟩
    | true =>
      obtain ⟨b0, b1⟩ := (tallyB_iff _).1 hb
      rw [hb] at D
      by_cases hc : a < b
      · have E := Lib.hid (show lessV a b = 0 ∧ lessE a b = 21 by unfold lessV lessE; rw [ha, hb, decide_eq_false (by omega)]; exact ⟨rfl, rfl⟩)
        clear ha hb
        go_enter Try.func37, Try.ntmps37
        go_wp2_with fail
        refine C.out.mono ?_
        rintro e w' ⟨rfl, rfl⟩
        go_wp2_with fail
        refine D.out.mono ?_
        rintro e w' ⟨rfl, rfl⟩
        go_wp2_with fail
        go_ret2
        exact ⟨by rw [E.out.1, E.out.2]; rfl, Below.refl _ _⟩
      · have E := Lib.hid (show lessV a b = a - b ∧ lessE a b = 0 by unfold lessV lessE; rw [ha, hb, decide_eq_true (by omega)]; exact ⟨rfl, rfl⟩)
        have hw : IntKind.i64.wrap (a - b) = a - b := by rw [IntKind.wrap_i64]; omega
        clear ha hb
        go_enter Try.func37, Try.ntmps37
        go_wp2_with fail
        refine C.out.mono ?_
        rintro e w' ⟨rfl, rfl⟩
        go_wp2_with fail
        refine D.out.mono ?_
        rintro e w' ⟨rfl, rfl⟩
        go_wp2_with fail
        go_ret2
        exact ⟨by rw [E.out.1, E.out.2]; rfl, Below.refl _ _⟩

end Go.Proofs.Ytieoihmndpkdoaa
