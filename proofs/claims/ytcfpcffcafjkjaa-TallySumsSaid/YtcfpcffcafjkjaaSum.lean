/- Slices of numbers, and what Sum and Add of package tally and the document's Sum answer. -/
import Derived.Test.YtcfpcffcafjkjaaLeaf
namespace Go.Proofs.Ytcfpcffcafjkjaa
open Go.RowKit

/-- A slice reads as these numbers. -/
structure IntsP (w : World) (a : Option Addr) (cap : Nat) (ls : List Int) : Prop where
  cap : ls.length ≤ cap
  cell : ls ≠ [] → ∃ b o, a = some ⟨b, o, none⟩ ∧ b < w.heap.size ∧ ∀ j x, ls[j]? = some x → w.cell? ⟨b, o + j, none⟩ = some (.int .i64 x)

theorem IntsP.below {w w' : World} {a cap ls} (h : IntsP w a cap ls) (hb : Below w.heap.size w w') : IntsP w' a cap ls := by
  refine ⟨h.cap, fun hne => ?_⟩
  obtain ⟨b, o, e, hlt, hc⟩ := h.cell hne
  exact ⟨b, o, e, Nat.lt_of_lt_of_le hlt hb.size, fun j x hx => (hb.cell (p := ⟨b, o + j, none⟩) hlt).trans (hc j x hx)⟩

theorem IntsP.nil (w : World) (a : Option Addr) (cap : Nat) : IntsP w a cap [] := ⟨by simp, fun h => absurd rfl h⟩

set_option maxHeartbeats 2000000 in
theorem sum_any (a : Option Addr) (cap : Nat) (l : List Int) (w : World) (h : IntsP w a cap l) (hl : l.length ≤ 1000000) :
    Calls Try.prog 13 #[.slice a l.length cap] w (Pair (sumV l) (sumE l) w) := by
  have H := Lib.hid h
  clear h
  go_enter Try.func13, Try.ntmps13
  go_wp2_with fail
  go_loop [4, 9] (fun s i => ∃ (k : Nat) (t : Int), k ≤ l.length ∧ i = .int .i64 k ∧ s = .int .i64 t ∧ 0 ≤ t ∧ t ≤ 1000000000000 ∧ Hid (sumFrom 0 l = sumFrom t (l.drop k))) (fun _ i => l.length - (intOf i).toNat)
  case atStart => exact ⟨0, 0, Nat.zero_le _, rfl, rfl, by omega, by omega, Lib.hid rfl⟩
  case round =>
    obtain ⟨k, t, hk, rfl, rfl, t0, t1, HS⟩ := hrel
    by_cases hlt : k < l.length
    · have hne : l ≠ [] := by intro e; subst e; simp at hlt
      obtain ⟨b1, o1, rfl, q1, r1⟩ := H.out.cell hne
      have g1 := r1 k _ (List.getElem?_eq_getElem hlt)
      have p1 := H.out.cap
      have HD := Lib.hid (List.drop_eq_getElem_cons hlt)
      generalize l[k] = x at *
      clear r1 hne
      cases hx : okT x with
      | false =>
        have e : sumFrom 0 l = none := by rw [HS.out, HD.out, sumFrom, hx]; rfl
        have e1 : sumV l = 0 := by unfold sumV; rw [e]; rfl
        have e2 : sumE l = 21 := by unfold sumE; rw [e]; rfl
        have E := Lib.hid (And.intro e1 e2)
        have HX := Lib.hid hx
        clear e e1 e2 hx
        go_wp2_with fail
        refine (right_any _ _).mono ?_
        rintro e w' ⟨rfl, rfl⟩
        rw [HX.out]
        go_wp2_with fail
        go_ret2
        exact ⟨by rw [E.out.1, E.out.2]; rfl, rfl⟩
      | true =>
        have hx' := okT_true.1 hx
        obtain ⟨x0, x1⟩ := hx'
        have HX := Lib.hid hx
        cases hc : decide (1000000000000 - t < x) with
        | true =>
          have e : sumFrom 0 l = none := by
            rw [HS.out, HD.out, sumFrom, hx, Bool.true_and]
            rw [if_neg]
            simp at hc ⊢
            omega
          have e1 : sumV l = 0 := by unfold sumV; rw [e]; rfl
          have e2 : sumE l = 21 := by unfold sumE; rw [e]; rfl
          have E := Lib.hid (And.intro e1 e2)
          clear e e1 e2 hx
          go_wp2_with fail
          refine (right_any _ _).mono ?_
          rintro e w' ⟨rfl, rfl⟩
          rw [HX.out]
          go_wp2_with fail
          go_ret2
          exact ⟨by rw [E.out.1, E.out.2]; rfl, rfl⟩
        | false =>
          have hc' : x ≤ 1000000000000 - t := by simpa using hc
          have HN := Lib.hid (show sumFrom 0 l = sumFrom (t + x) (l.drop (k + 1)) by
            rw [HS.out, HD.out, sumFrom, hx, Bool.true_and, if_pos (decide_eq_true hc')])
          clear hx
          go_wp2_with fail
          refine (right_any _ _).mono ?_
          rintro e w' ⟨rfl, rfl⟩
          rw [HX.out]
          go_wp2_with fail
          go_round
          case rel => exact ⟨k + 1, t + x, by omega, by go_num, rfl, by omega, by omega, HN⟩
          case measure => simp [intOf]; omega
    · have e : sumFrom 0 l = some t := by rw [HS.out, List.drop_eq_nil_of_le (by omega), sumFrom]
      have e1 : sumV l = t := by unfold sumV; rw [e]; rfl
      have e2 : sumE l = 0 := by unfold sumE; rw [e]; rfl
      have E := Lib.hid (And.intro e1 e2)
      clear e e1 e2
      go_wp2_with fail
      go_ret2
      exact ⟨by rw [E.out.1, E.out.2]; rfl, rfl⟩

set_option maxHeartbeats 2000000 in
theorem refSum_any (a : Option Addr) (cap : Nat) (l : List Int) (w : World) (h : IntsP w a cap l) (hl : l.length ≤ 1000000) :
    Calls Try.prog 20 #[.slice a l.length cap] w (Pair (sumV l) (sumE l) w) := by
  have H := Lib.hid h
  clear h
  go_enter Try.func20, Try.ntmps20
  go_wp2_with fail
  go_loop [4, 9] (fun s i => ∃ (k : Nat) (t : Int), k ≤ l.length ∧ i = .int .i64 k ∧ s = .int .i64 t ∧ 0 ≤ t ∧ t ≤ 1000000000000 ∧ Hid (sumFrom 0 l = sumFrom t (l.drop k))) (fun _ i => l.length - (intOf i).toNat)
  case atStart => exact ⟨0, 0, Nat.zero_le _, rfl, rfl, by omega, by omega, Lib.hid rfl⟩
  case round =>
    obtain ⟨k, t, hk, rfl, rfl, t0, t1, HS⟩ := hrel
    by_cases hlt : k < l.length
    · have hne : l ≠ [] := by intro e; subst e; simp at hlt
      obtain ⟨b1, o1, rfl, q1, r1⟩ := H.out.cell hne
      have g1 := r1 k _ (List.getElem?_eq_getElem hlt)
      have p1 := H.out.cap
      have HD := Lib.hid (List.drop_eq_getElem_cons hlt)
      generalize l[k] = x at *
      clear r1 hne
      cases hx : okT x with
      | false =>
        have e : sumFrom 0 l = none := by rw [HS.out, HD.out, sumFrom, hx]; rfl
        have e1 : sumV l = 0 := by unfold sumV; rw [e]; rfl
        have e2 : sumE l = 21 := by unfold sumE; rw [e]; rfl
        have E := Lib.hid (And.intro e1 e2)
        have HX := Lib.hid hx
        clear e e1 e2 hx
        go_wp2_with fail
        refine (refRight_any _ _).mono ?_
        rintro e w' ⟨rfl, rfl⟩
        rw [HX.out]
        go_wp2_with fail
        go_ret2
        exact ⟨by rw [E.out.1, E.out.2]; rfl, rfl⟩
      | true =>
        have hx' := okT_true.1 hx
        obtain ⟨x0, x1⟩ := hx'
        have HX := Lib.hid hx
        cases hc : decide (1000000000000 - t < x) with
        | true =>
          have e : sumFrom 0 l = none := by
            rw [HS.out, HD.out, sumFrom, hx, Bool.true_and]
            rw [if_neg]
            simp at hc ⊢
            omega
          have e1 : sumV l = 0 := by unfold sumV; rw [e]; rfl
          have e2 : sumE l = 21 := by unfold sumE; rw [e]; rfl
          have E := Lib.hid (And.intro e1 e2)
          clear e e1 e2 hx
          go_wp2_with fail
          refine (refRight_any _ _).mono ?_
          rintro e w' ⟨rfl, rfl⟩
          rw [HX.out]
          go_wp2_with fail
          go_ret2
          exact ⟨by rw [E.out.1, E.out.2]; rfl, rfl⟩
        | false =>
          have hc' : x ≤ 1000000000000 - t := by simpa using hc
          have HN := Lib.hid (show sumFrom 0 l = sumFrom (t + x) (l.drop (k + 1)) by
            rw [HS.out, HD.out, sumFrom, hx, Bool.true_and, if_pos (decide_eq_true hc')])
          clear hx
          go_wp2_with fail
          refine (refRight_any _ _).mono ?_
          rintro e w' ⟨rfl, rfl⟩
          rw [HX.out]
          go_wp2_with fail
          go_round
          case rel => exact ⟨k + 1, t + x, by omega, by go_num, rfl, by omega, by omega, HN⟩
          case measure => simp [intOf]; omega
    · have e : sumFrom 0 l = some t := by rw [HS.out, List.drop_eq_nil_of_le (by omega), sumFrom]
      have e1 : sumV l = t := by unfold sumV; rw [e]; rfl
      have e2 : sumE l = 0 := by unfold sumE; rw [e]; rfl
      have E := Lib.hid (And.intro e1 e2)
      clear e e1 e2
      go_wp2_with fail
      go_ret2
      exact ⟨by rw [E.out.1, E.out.2]; rfl, rfl⟩

theorem ints_two (x y : Int) (W : World) (T : TypeId) : IntsP (W.alloc (.cells #[.int .i64 x, .int .i64 y] T)) (some ⟨W.heap.size, 0, none⟩) 2 [x, y] := by
  refine ⟨by simp, fun _ => ⟨_, _, rfl, by simp, fun j v hj => ?_⟩⟩
  match j, hj with
  | 0, hj => simp at hj; subst hj; simp
  | 1, hj => simp at hj; subst hj; simp
  | _ + 2, hj => simp at hj

theorem ints_three (x y z : Int) (W : World) (T : TypeId) : IntsP (W.alloc (.cells #[.int .i64 x, .int .i64 y, .int .i64 z] T)) (some ⟨W.heap.size, 0, none⟩) 3 [x, y, z] := by
  refine ⟨by simp, fun _ => ⟨_, _, rfl, by simp, fun j v hj => ?_⟩⟩
  match j, hj with
  | 0, hj => simp at hj; subst hj; simp
  | 1, hj => simp at hj; subst hj; simp
  | 2, hj => simp at hj; subst hj; simp
  | _ + 3, hj => simp at hj

def PairB (x y : Int) (w : World) (e : Ending) (w' : World) : Prop := e = .returned (.tuple #[.int .i64 x, .int .i64 y]) ∧ Below w.heap.size w w'

theorem add_any (a b : Int) (w : World) : Calls Try.prog 9 #[.int .i64 a, .int .i64 b] w (PairB (addV a b) (addE a b) w) := by
  have C : ∀ W : World, Calls Try.prog 13 #[.slice (some ⟨W.heap.size, 0, none⟩) 2 2] (W.alloc (.cells #[.int .i64 a, .int .i64 b] 2)) (Pair (addV a b) (addE a b) (W.alloc (.cells #[.int .i64 a, .int .i64 b] 2))) := by
    intro W
    have := sum_any _ 2 [a, b] _ (ints_two a b W 2) (by simp)
    rw [(sum_two a b).1, (sum_two a b).2] at this
    exact this
  have HC := Lib.hid C
  clear C
  go_enter Try.func9, Try.ntmps9
  go_wp2_with fail
  refine (HC.out _).mono ?_
  rintro e w' ⟨rfl, rfl⟩
  go_wp2_with fail
  go_ret2
  exact ⟨rfl, (Below.refl _ _).alloc (Nat.le_refl _) _⟩

end Go.Proofs.Ytcfpcffcafjkjaa
