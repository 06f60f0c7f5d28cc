/- What the small tests of package batch, and the document's, answer: texts among texts, texts in a row, numbers, groups, members, caps. -/
import Derived.Test.YtieoihmndpkdoaaBtPlain
import Derived.Test.YtieoihmndpkdoaaTxMem
import Derived.Test.YtieoihmndpkdoaaScLeaf
namespace Go.Proofs.Ytieoihmndpkdoaa
set_option maxRecDepth 100000
open Go.RowKit

/-- The place of the first text that is x, from k on; -1, if there is none. -/
def findK (k : Nat) (x : ByteArray) : List ByteArray → Int
  | [] => -1
  | y :: r => if x.toList == y.toList then (k : Int) else findK (k + 1) x r
theorem findK_has : ∀ (l : List ByteArray) (k : Nat) (x : ByteArray), (hasT l x = true ∧ ∃ j : Nat, findK k x l = ((k + j : Nat) : Int) ∧ l[j]? = some x) ∨ (hasT l x = false ∧ findK k x l = -1)
  | [], k, x => .inr ⟨rfl, rfl⟩
  | y :: r, k, x => by
    by_cases e : x = y
    · refine .inl ⟨(hasT_iff _ _).2 (by simp [e]), 0, ?_, by simp [e]⟩
      rw [findK, str_eq e]
      simp
    · have e1 : findK k x (y :: r) = findK (k + 1) x r := by rw [findK, str_ne e]; rfl
      rw [e1]
      rcases findK_has r (k + 1) x with ⟨h1, j, h2, h3⟩ | ⟨h1, h2⟩
      · exact .inl ⟨(hasT_iff _ _).2 (by simp [(hasT_iff _ _).1 h1]), j + 1, by rw [h2]; congr 1; omega, by simpa using h3⟩
      · exact .inr ⟨(hasT_no _ _).2 (by have := (hasT_no _ _).1 h1; simp [e, this]), h2⟩
theorem findK_step (l : List ByteArray) (k : Nat) (x : ByteArray) (h : k < l.length) : findK k x (l.drop k) = if x.toList == l[k].toList then (k : Int) else findK (k + 1) x (l.drop (k + 1)) := by
  rw [List.drop_eq_getElem_cons h, findK]

/-- A number is answered; the world is as it was. -/
def IntSame (n : Int) (w : World) (e : Ending) (w' : World) : Prop := e = .returned (.int .i64 n) ∧ w = w'

set_option maxHeartbeats 2000000 in
theorem index_any (a : Option Addr) (cap : Nat) (l : List ByteArray) (x : ByteArray) (w : World) (h : StrsP w a cap l) :
    Calls Try.prog 36 #[.slice a l.length cap, .string x] w (IntSame (findK 0 x l) w) := by
  have H := Lib.hid h
  have hl := h.len
  clear h
  go_enter Try.func36, Try.ntmps36
  go_wp2_with fail
  go_loop [8] (fun i => ∃ k : Nat, k ≤ l.length ∧ i = .int .i64 k ∧ Hid (findK 0 x l = findK k x (l.drop k))) (fun i => l.length - (intOf i).toNat)
  case atStart => exact ⟨0, Nat.zero_le _, rfl, Lib.hid rfl⟩
  case round =>
    obtain ⟨k, hk, rfl, HK⟩ := hrel
    by_cases hlt : k < l.length
    · obtain ⟨b, o, rfl, q1, c1⟩ := H.out.at k hlt
      have p1 := H.out.cap
      have HS := Lib.hid (findK_step l k x hlt)
      generalize l[k] = y at *
      cases hb : (x.toList == y.toList) with
      | true =>
        have HE := Lib.hid (show findK 0 x l = (k : Int) by rw [HK.out, HS.out, hb]; rfl)
        go_wp2_with fail
        go_ret
        exact ⟨by rw [HE.out]; rfl, rfl⟩
      | false =>
        have HE := Lib.hid (show findK 0 x l = findK (k + 1) x (l.drop (k + 1)) by rw [HK.out, HS.out, hb]; rfl)
        go_wp2_with fail
        go_round
        case rel => exact ⟨k + 1, by omega, by go_num, HE⟩
        case measure => simp [intOf]; omega
    · have HE := Lib.hid (show findK 0 x l = -1 by rw [HK.out, List.drop_eq_nil_of_le (by omega)]; rfl)
      go_wp2_with fail
      go_ret
      exact ⟨by rw [HE.out]; rfl, rfl⟩

set_option maxHeartbeats 1000000 in
theorem contains_any (a : Option Addr) (cap : Nat) (l : List ByteArray) (x : ByteArray) (w : World) (h : StrsP w a cap l) :
    Calls Try.prog 33 #[.slice a l.length cap, .string x] w (BoolSame (hasT l x) w) := by
  have C := Lib.hid (index_any a cap l x w h)
  have HB := Lib.hid (show hasT l x = decide (0 ≤ findK 0 x l) by
    rcases findK_has l 0 x with ⟨h1, j, h2, _⟩ | ⟨h1, h2⟩
    · rw [h1, h2]; simp
    · rw [h1, h2]; rfl)
  go_enter Try.func33, Try.ntmps33
  go_wp2_with fail
  refine C.out.mono ?_
  rintro e w1 ⟨rfl, rfl⟩
  generalize findK 0 x l = n at *
  go_wp2_with fail
  go_ret
  exact ⟨by rw [HB.out]; rfl, rfl⟩

/-- The document's: the law is the same for both. -/
theorem same_rest {l m : List ByteArray} (hq : l.length = m.length) {k : Nat} (h : ¬ k < l.length) (e : sameT l m = sameT (l.drop k) (m.drop k)) : sameT l m = true := by
  rw [e, List.drop_eq_nil_of_le (by omega), List.drop_eq_nil_of_le (by omega)]; rfl

set_option maxHeartbeats 2000000 in
theorem equalT_any (a1 a2 : Option Addr) (c1 c2 : Nat) (l m : List ByteArray) (w : World) (h1 : StrsP w a1 c1 l) (h2 : StrsP w a2 c2 m) :
    Calls Try.prog 47 #[.slice a1 l.length c1, .slice a2 m.length c2] w (Tell (sameT l m) w) := by
  have H1 := Lib.hid h1
  have H2 := Lib.hid h2
  have hl := h1.len
  clear h1 h2
  by_cases hq : l.length = m.length
  rotate_left
  · have HE := Lib.hid (show sameT l m = false from sameT_len hq)
    go_enter Try.func47, Try.ntmps47
    go_wp2_with fail
    go_ret
    exact ⟨by rw [HE.out]; rfl, Below.refl _ _⟩
  · have HQ := Lib.hid hq
    rw [← hq]
    clear hq
    go_enter Try.func47, Try.ntmps47
    go_wp2_with fail
    go_loopw [13] (fun i wr => ∃ k : Nat, k ≤ l.length ∧ i = .int .i64 k ∧ Hid (sameT l m = sameT (l.drop k) (m.drop k)) ∧ Below w.heap.size w wr) (fun i _ => l.length - (intOf i).toNat)
    case atStart => exact ⟨0, Nat.zero_le _, rfl, Lib.hid rfl, Below.refl _ _⟩
    case round =>
      obtain ⟨k, hk, rfl, HK, hbw⟩ := hrel
      by_cases hlt : k < l.length
      · have hltm : k < m.length := by rw [← HQ.out]; exact hlt
        obtain ⟨b1, o1, rfl, q1, r1⟩ := (H1.out.below hbw).at k hlt
        obtain ⟨b2, o2, rfl, q2, s1⟩ := (H2.out.below hbw).at k hltm
        have p1 := H1.out.cap
        have p2 := H2.out.cap
        rw [← HQ.out] at p2
        have HS := Lib.hid (sameT_step l m k hlt hltm)
        generalize l[k] = x at *
        generalize m[k] = y at *
        cases hb : (x.toList == y.toList) with
        | true =>
          have HE := Lib.hid (show sameT l m = sameT (l.drop (k + 1)) (m.drop (k + 1)) by rw [HK.out, HS.out, hb]; rfl)
          go_wp2_with fail
          go_quiet (fail)
          go_wp2_with fail
          go_roundw
          case rel => exact ⟨k + 1, by omega, by go_num, HE, below_drewN hbw _⟩
          case measure => simp [intOf]; omega
        | false =>
          have HE := Lib.hid (show sameT l m = false by rw [HK.out, HS.out, hb]; rfl)
          go_wp2_with fail
          go_quiet (fail)
          go_wp2_with fail
          go_ret
          exact ⟨by rw [HE.out]; rfl, below_drewN hbw _⟩
      · have HE := Lib.hid (same_rest HQ.out hlt HK.out)
        go_wp2_with fail
        go_ret
        exact ⟨by rw [HE.out]; rfl, hbw⟩

set_option maxHeartbeats 2000000 in
theorem refSameT_any (a1 a2 : Option Addr) (c1 c2 : Nat) (l m : List ByteArray) (w : World) (h1 : StrsP w a1 c1 l) (h2 : StrsP w a2 c2 m) :
    Calls Try.prog 48 #[.slice a1 l.length c1, .slice a2 m.length c2] w (Tell (sameT l m) w) := by
  have H1 := Lib.hid h1
  have H2 := Lib.hid h2
  have hl := h1.len
  clear h1 h2
  by_cases hq : l.length = m.length
  rotate_left
  · have HE := Lib.hid (show sameT l m = false from sameT_len hq)
    go_enter Try.func48, Try.ntmps48
    go_wp2_with fail
    go_ret
    exact ⟨by rw [HE.out]; rfl, Below.refl _ _⟩
  · have HQ := Lib.hid hq
    rw [← hq]
    clear hq
    go_enter Try.func48, Try.ntmps48
    go_wp2_with fail
    go_loopw [13] (fun i wr => ∃ k : Nat, k ≤ l.length ∧ i = .int .i64 k ∧ Hid (sameT l m = sameT (l.drop k) (m.drop k)) ∧ Below w.heap.size w wr) (fun i _ => l.length - (intOf i).toNat)
    case atStart => exact ⟨0, Nat.zero_le _, rfl, Lib.hid rfl, Below.refl _ _⟩
    case round =>
      obtain ⟨k, hk, rfl, HK, hbw⟩ := hrel
      by_cases hlt : k < l.length
      · have hltm : k < m.length := by rw [← HQ.out]; exact hlt
        obtain ⟨b1, o1, rfl, q1, r1⟩ := (H1.out.below hbw).at k hlt
        obtain ⟨b2, o2, rfl, q2, s1⟩ := (H2.out.below hbw).at k hltm
        have p1 := H1.out.cap
        have p2 := H2.out.cap
        rw [← HQ.out] at p2
        have HS := Lib.hid (sameT_step l m k hlt hltm)
        generalize l[k] = x at *
        generalize m[k] = y at *
        cases hb : (x.toList == y.toList) with
        | true =>
          have HE := Lib.hid (show sameT l m = sameT (l.drop (k + 1)) (m.drop (k + 1)) by rw [HK.out, HS.out, hb]; rfl)
          go_wp2_with fail
          go_quiet (fail)
          go_wp2_with fail
          go_roundw
          case rel => exact ⟨k + 1, by omega, by go_num, HE, below_drewN hbw _⟩
          case measure => simp [intOf]; omega
        | false =>
          have HE := Lib.hid (show sameT l m = false by rw [HK.out, HS.out, hb]; rfl)
          go_wp2_with fail
          go_quiet (fail)
          go_wp2_with fail
          go_ret
          exact ⟨by rw [HE.out]; rfl, below_drewN hbw _⟩
      · have HE := Lib.hid (same_rest HQ.out hlt HK.out)
        go_wp2_with fail
        go_ret
        exact ⟨by rw [HE.out]; rfl, hbw⟩

set_option maxHeartbeats 1000000 in
theorem tick_any (n : Int) (w : World) : Calls Try.prog 41 #[.int .i64 n] w (BoolSame (tickB n) w) := by
  have HE := Lib.hid (show tickB n = (decide (0 ≤ n) && decide (n ≤ 1099511627776)) by rw [Bool.eq_iff_iff]; simp [tickB])
  cases h1 : decide (0 ≤ n) <;> cases h2 : decide (n ≤ 1099511627776)
  all_goals
    rw [h1, h2] at HE
    go_enter Try.func41, Try.ntmps41
    go_wp2_with fail
    go_ret
    exact ⟨by rw [HE.out]; rfl, rfl⟩
set_option maxHeartbeats 1000000 in
theorem refTick_any (n : Int) (w : World) : Calls Try.prog 44 #[.int .i64 n] w (BoolSame (tickB n) w) := by
  have HE := Lib.hid (show tickB n = (decide (0 ≤ n) && decide (n ≤ 1099511627776)) by rw [Bool.eq_iff_iff]; simp [tickB])
  cases h1 : decide (0 ≤ n) <;> cases h2 : decide (n ≤ 1099511627776)
  all_goals
    rw [h1, h2] at HE
    go_enter Try.func44, Try.ntmps44
    go_wp2_with fail
    go_ret
    exact ⟨by rw [HE.out]; rfl, rfl⟩

set_option maxHeartbeats 1000000 in
theorem above_any (n : Int) (w : World) : Calls Try.prog 39 #[.int .i64 n] w (BoolSame (aboveB n) w) := by
  have HE := Lib.hid (show aboveB n = (decide (0 < n) && tallyB n) by rw [Bool.eq_iff_iff]; simp [aboveB, tallyB]; omega)
  have C := Lib.hid (tally_any n w)
  cases h1 : decide (0 < n) <;> cases h2 : tallyB n
  all_goals
    rw [h1, h2] at HE
    rw [h2] at C
    clear h2
    go_enter Try.func39, Try.ntmps39
    go_wp2_with (go_at_call 40; refine C.out.mono ?_; rintro e w' ⟨rfl, rfl⟩)
    go_ret
    exact ⟨by rw [HE.out]; rfl, rfl⟩

/-- Caps as a value. -/
def cpV (c : Cp) : Value := .agg #[.int .i64 c.count, .int .i64 c.wt]

set_option maxHeartbeats 1000000 in
theorem caps_any (c : Cp) (w : World) : Calls Try.prog 14 #[cpV c] w (Tell (capsB c) w) := by
  have HE := Lib.hid (show capsB c = (decide (1 ≤ c.count) && (decide (c.count ≤ 64) && aboveB c.wt)) by rw [Bool.eq_iff_iff]; simp [capsB, and_assoc])
  have C := Lib.hid (fun w => above_any c.wt w)
  unfold cpV
  generalize c.count = n at *
  generalize c.wt = t at *
  cases h1 : decide (1 ≤ n) <;> cases h2 : decide (n ≤ 64) <;> cases h3 : aboveB t
  all_goals
    rw [h1, h2, h3] at HE
    rw [h3] at C
    clear h3
    go_enter Try.func14, Try.ntmps14
    go_wp2_with (go_at_call 39; refine (C.out _).mono ?_; rintro e w' ⟨rfl, rfl⟩)
    go_ret
    exact ⟨by rw [HE.out]; rfl, (Below.refl _ w).alloc (Nat.le_refl _) _⟩
set_option maxHeartbeats 1000000 in
theorem refCaps_any (c : Cp) (w : World) : Calls Try.prog 18 #[cpV c] w (Tell (capsB c) w) := by
  have HE := Lib.hid (show capsB c = (decide (1 ≤ c.count) && (decide (c.count ≤ 64) && (decide (1 ≤ c.wt) && decide (c.wt ≤ 1000000000000)))) by rw [Bool.eq_iff_iff]; simp [capsB, aboveB, and_assoc])
  unfold cpV
  generalize c.count = n at *
  generalize c.wt = t at *
  cases h1 : decide (1 ≤ n) <;> cases h2 : decide (n ≤ 64) <;> cases h3 : decide (1 ≤ t) <;> cases h4 : decide (t ≤ 1000000000000)
  all_goals
    rw [h1, h2, h3, h4] at HE
    go_enter Try.func18, Try.ntmps18
    go_wp2_with fail
    go_ret
    exact ⟨by rw [HE.out]; rfl, (Below.refl _ w).alloc (Nat.le_refl _) _⟩

end Go.Proofs.Ytieoihmndpkdoaa
