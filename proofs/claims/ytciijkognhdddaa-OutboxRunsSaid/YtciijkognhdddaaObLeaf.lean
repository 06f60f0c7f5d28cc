/- What the small functions of package outbox answer: whether an effect can be, how long one waits; the document's. -/
import Derived.Test.YtciijkognhdddaaObLay
import Derived.Test.YtciijkognhdddaaScLeaf
namespace Go.Proofs.Ytciijkognhdddaa
set_option maxRecDepth 100000
open Go.RowKit Go.ChangeShapes Go.WideShapes Go.ChangeAt
attribute [local go_sem ↓] ldEf stEf alEf bxEf eqEf
attribute [local go_sem] al_ef bx_ef

set_option maxHeartbeats 1000000 in
theorem tick_any (n : Int) (w : World) : Calls Try.prog 35 #[.int .i64 n] w (BoolSame (tickB n) w) := by
  have HE := Lib.hid (show tickB n = (decide (0 ≤ n) && decide (n ≤ 1099511627776)) by rw [Bool.eq_iff_iff]; simp [tickB])
  cases h1 : decide (0 ≤ n) <;> cases h2 : decide (n ≤ 1099511627776)
  all_goals
    rw [h1, h2] at HE
    go_enter Try.func35, Try.ntmps35
    go_wp2_with fail
    go_ret
    exact ⟨by rw [HE.out]; rfl, rfl⟩
set_option maxHeartbeats 1000000 in
theorem refTick_any (n : Int) (w : World) : Calls Try.prog 36 #[.int .i64 n] w (BoolSame (tickB n) w) := by
  have HE := Lib.hid (show tickB n = (decide (0 ≤ n) && decide (n ≤ 1099511627776)) by rw [Bool.eq_iff_iff]; simp [tickB])
  cases h1 : decide (0 ≤ n) <;> cases h2 : decide (n ≤ 1099511627776)
  all_goals
    rw [h1, h2] at HE
    go_enter Try.func36, Try.ntmps36
    go_wp2_with fail
    go_ret
    exact ⟨by rw [HE.out]; rfl, rfl⟩
set_option maxHeartbeats 1000000 in
theorem above_any (n : Int) (w : World) : Calls Try.prog 59 #[.int .i64 n] w (BoolSame (aboveB n) w) := by
  have HE := Lib.hid (show aboveB n = (decide (0 < n) && tallyB n) by rw [Bool.eq_iff_iff]; simp [aboveB, tallyB]; omega)
  have C := Lib.hid (fun w => tally_any n w)
  generalize tallyB n = t at *
  cases h1 : decide (0 < n)
  · rw [h1] at HE
    go_enter Try.func59, Try.ntmps59
    go_wp2_with fail
    go_ret
    exact ⟨by rw [HE.out]; rfl, rfl⟩
  · rw [h1] at HE
    go_enter Try.func59, Try.ntmps59
    go_wp2_with fail
    refine (C.out _).mono ?_
    rintro e w' ⟨rfl, rfl⟩
    go_wp2_with fail
    go_ret
    exact ⟨by rw [HE.out]; rfl, rfl⟩

theorem Row.c {W : World} {g : Nat} {e : Ef} (h : Row W g 27 (efC e)) : W.cell? ⟨g, 0, none⟩ = some (.int .i64 e.key) ∧ W.cell? ⟨g, 1, none⟩ = some (.int .i64 e.batch) ∧ W.cell? ⟨g, 2, none⟩ = some (.int .i64 e.due) ∧ W.cell? ⟨g, 3, none⟩ = some (.int .i64 e.kind) ∧ W.cell? ⟨g, 4, none⟩ = some (.int .i64 e.tries) ∧ W.cell? ⟨g, 5, none⟩ = some (.string e.order) :=
  ⟨h.cell 0, h.cell 1, h.cell 2, h.cell 3, h.cell 4, h.cell 5⟩
theorem Row.f {W : World} {g : Nat} {e : Ef} (h : Row W g 27 (efC e)) : W.frozen? ⟨g, 0, none⟩ = false ∧ W.frozen? ⟨g, 1, none⟩ = false ∧ W.frozen? ⟨g, 2, none⟩ = false ∧ W.frozen? ⟨g, 3, none⟩ = false ∧ W.frozen? ⟨g, 4, none⟩ = false ∧ W.frozen? ⟨g, 5, none⟩ = false :=
  ⟨h.free 0, h.free 1, h.free 2, h.free 3, h.free 4, h.free 5⟩

theorem emptyT_test (s : ByteArray) : s.toList.isEmpty = emptyT s := by
  unfold emptyT
  cases s.toList <;> rfl
theorem kinds_of (n : Int) : bothB n = ((n == 3) || (n == 4)) ∧ soleB n = ((n == 1) || ((n == 2) || ((n == 5) || ((n == 6) || (n == 7))))) := by
  constructor
  · rw [Bool.eq_iff_iff]; simp [bothB]
  · rw [Bool.eq_iff_iff]; simp [soleB]
theorem ofB_both {e : Ef} (h : bothB e.kind = true) : ofB e = (aboveB e.batch && emptyT e.order) := by simp [ofB, h]
theorem ofB_sole {e : Ef} (h1 : bothB e.kind = false) (h : soleB e.kind = true) : ofB e = ((e.batch == 0) && rightT e.order) := by
  simp only [ofB, h1, h, if_true, Bool.false_eq_true, if_false]
  congr 1
theorem ofB_none {e : Ef} (h1 : bothB e.kind = false) (h : soleB e.kind = false) : ofB e = false := by simp [ofB, h1, h]

/-- Whether it is for a batch alone, or for an order alone. -/
theorem forOne_any (e : Ef) (w : World) (hs : e.order.size ≤ maxLen) : Calls Try.prog 60 #[efV e] w (Tell (ofB e) w) := by
  have C1 := Lib.hid (fun w => above_any e.batch w)
  have C2 := Lib.hid (fun w => right_any e.order w hs)
  have B := Lib.hid ((Below.refl w.heap.size w).alloc (Nat.le_refl _) (Obj.cells (efC e) 27))
  have D : Row (w.alloc (.cells (efC e) 27)) w.heap.size 27 (efC e) := Row.new _ _ _
  have H1 := Lib.hid (ofB_both (e := e))
  have H2 := Lib.hid (ofB_sole (e := e))
  have H3 := Lib.hid (ofB_none (e := e))
  have ET := emptyT_test e.order
  unfold rightT at H2
  obtain ⟨c0, c1, c2, c3, c4, c5⟩ := D.c
  clear D c0 c2 c4
  by_cases hb : bothB e.kind = true
  · have HO := Lib.hid (H1.out hb)
    have hk : e.kind = 3 ∨ e.kind = 4 := by simpa [bothB] using hb
    clear H1 H2 H3 hb
    rcases hk with hk | hk
    all_goals
      rw [hk] at c3
      clear hk
      go_enter Try.func60, Try.ntmps60
      go_wp2_with fail
      refine (C1.out _).mono ?_
      rintro x w1 ⟨rfl, rfl⟩
      cases h1 : aboveB e.batch with
      | false =>
        rw [h1] at HO
        go_wp2_with fail
        go_ret
        exact ⟨by rw [HO.out]; rfl, B.out⟩
      | true =>
        rw [h1] at HO
        go_wp2_with fail
        go_ret
        exact ⟨by rw [HO.out, ← ET]; rfl, B.out⟩
  · have hb : bothB e.kind = false := by simpa using hb
    by_cases hs : soleB e.kind = true
    · have HO := Lib.hid (H2.out hb hs)
      have hk : e.kind = 1 ∨ e.kind = 2 ∨ e.kind = 5 ∨ e.kind = 6 ∨ e.kind = 7 := by simpa [soleB] using hs
      clear H1 H2 H3 hb hs
      rcases hk with hk | hk | hk | hk | hk
      all_goals
        rw [hk] at c3
        clear hk
        cases h1 : (e.batch == 0) with
        | false =>
          rw [h1] at HO
          go_enter Try.func60, Try.ntmps60
          go_wp2_with fail
          go_ret
          exact ⟨by rw [HO.out]; rfl, B.out⟩
        | true =>
          rw [h1] at HO
          go_enter Try.func60, Try.ntmps60
          go_wp2_with fail
          refine (C2.out _).mono ?_
          rintro x w1 ⟨rfl, b1⟩
          go_wp2_with fail
          go_ret
          exact ⟨by rw [HO.out]; rfl, B.out.trans (b1.mono B.out.size)⟩
    · have hs : soleB e.kind = false := by simpa using hs
      have HO := Lib.hid (H3.out hb hs)
      clear H1 H2 H3
      obtain ⟨kb, ks⟩ := kinds_of e.kind
      rw [kb] at hb
      rw [ks] at hs
      simp only [Bool.or_eq_false_iff] at hb hs
      obtain ⟨k3, k4⟩ := hb
      obtain ⟨k1, k2, k5, k6, k7⟩ := hs
      clear kb ks
      go_enter Try.func60, Try.ntmps60
      go_wp2_with fail
      go_ret
      exact ⟨by rw [HO.out]; rfl, B.out⟩

theorem one_all (e : Ef) : oneB e = (aboveB e.key && (tickB e.due && (decide (0 ≤ e.tries) && (decide (e.tries ≤ 1000000) && ofB e)))) := by
  have : triesB e.tries = (decide (0 ≤ e.tries) && decide (e.tries ≤ 1000000)) := by rw [Bool.eq_iff_iff]; simp [triesB]
  rw [oneB, this, Bool.and_assoc]

/-- Whether it can be. -/
theorem one_any (e : Ef) (w : World) (hs : e.order.size ≤ maxLen) : Calls Try.prog 48 #[efV e] w (Tell (oneB e) w) := by
  have C1 := Lib.hid (fun w => above_any e.key w)
  have C2 := Lib.hid (fun w => tick_any e.due w)
  have C3 := Lib.hid (fun w => forOne_any e w hs)
  have B := Lib.hid ((Below.refl w.heap.size w).alloc (Nat.le_refl _) (Obj.cells (efC e) 27))
  have D : Row (w.alloc (.cells (efC e) 27)) w.heap.size 27 (efC e) := Row.new _ _ _
  have HE := Lib.hid (one_all e)
  obtain ⟨c0, c1, c2, c3, c4, c5⟩ := D.c
  have ld := ld_row D
  clear D c1 c3 c5
  go_enter Try.func48, Try.ntmps48
  go_wp2_with fail
  generalize w.alloc (Obj.cells (efC e) 27) = W at *
  refine (C1.out _).mono ?_
  rintro x w1 ⟨rfl, rfl⟩
  cases h1 : aboveB e.key with
  | false =>
    go_wp2_with fail
    go_ret
    exact ⟨by rw [HE.out, h1]; rfl, B.out⟩
  | true =>
    go_wp2_with fail
    refine (C2.out _).mono ?_
    rintro x w1 ⟨rfl, rfl⟩
    cases h2 : tickB e.due with
    | false =>
      go_wp2_with fail
      go_ret
      exact ⟨by rw [HE.out, h1, h2]; rfl, B.out⟩
    | true =>
      cases h3 : decide (0 ≤ e.tries) with
      | false =>
        go_wp2_with fail
        go_ret
        exact ⟨by rw [HE.out, h1, h2, h3]; rfl, B.out⟩
      | true =>
        cases h4 : decide (e.tries ≤ 1000000) with
        | false =>
          go_wp2_with fail
          go_ret
          exact ⟨by rw [HE.out, h1, h2, h3, h4]; rfl, B.out⟩
        | true =>
          go_wp2_with fail
          refine (C3.out _).mono ?_
          rintro x w1 ⟨rfl, b1⟩
          go_wp2_with fail
          go_ret
          exact ⟨by rw [HE.out, h1, h2, h3, h4]; rfl, B.out.trans (b1.mono B.out.size)⟩

/-- How long one waits. -/
theorem backoff_any (n : Int) (w : World) : Calls Try.prog 13 #[.int .i64 n] w fun e w' => e = .returned (.int .i64 (backN n)) ∧ w = w' := by
  have HE : Hid ((n < 0 ∧ backN n = 1) ∨ (6 < n ∧ backN n = 64) ∨ n = 0 ∨ n = 1 ∨ n = 2 ∨ n = 3 ∨ n = 4 ∨ n = 5 ∨ n = 6) := by
    refine Lib.hid ?_
    by_cases h : n < 0
    · exact .inl ⟨h, by unfold backN; rw [show n.toNat = 0 by omega]; rfl⟩
    · by_cases h6 : 6 < n
      · exact .inr (.inl ⟨h6, by unfold backN; rw [show min n.toNat 6 = 6 by omega]; rfl⟩)
      · omega
  rcases HE.out with ⟨h, he⟩ | ⟨h, he⟩ | h | h | h | h | h | h | h
  · have HB := Lib.hid he
    have e1 : ¬ 6 < n := by omega
    clear he HE
    go_enter Try.func13, Try.ntmps13
    go_wp2_with fail
    go_ret
    exact ⟨by rw [HB.out]; rfl, rfl⟩
  · have HB := Lib.hid he
    clear he HE
    go_enter Try.func13, Try.ntmps13
    go_wp2_with fail
    go_ret
    exact ⟨by rw [HB.out]; rfl, rfl⟩
  all_goals
    subst h
    clear HE
    go_enter Try.func13, Try.ntmps13
    go_wp2_with fail
    go_ret
    exact ⟨rfl, rfl⟩

def cmpI (a b : Int) : Int := if a < b then -1 else if b < a then 1 else 0
theorem nan_any (n : Int) (w : World) : Calls Try.prog 61 #[.int .i64 n] w (BoolSame false w) := by
  have h : (n != n) = false := by simp
  go_enter Try.func61, Try.ntmps61
  go_wp2_with fail
  go_ret
  exact ⟨rfl, rfl⟩
theorem cmp_any (a b : Int) (w : World) : Calls Try.prog 51 #[.int .i64 a, .int .i64 b] w fun e w' => e = .returned (.int .i64 (cmpI a b)) ∧ w = w' := by
  have C := Lib.hid (fun n w => nan_any n w)
  have HE := Lib.hid (show cmpI a b = if decide (a < b) = true then -1 else if decide (b < a) = true then 1 else 0 by simp [cmpI])
  cases h1 : decide (a < b) <;> cases h2 : decide (b < a)
  all_goals
    rw [h1, h2] at HE
    go_enter Try.func51, Try.ntmps51
    go_wp2_with fail
    refine (C.out _ _).mono ?_
    rintro x w1 ⟨rfl, rfl⟩
    go_wp2_with fail
    refine (C.out _ _).mono ?_
    rintro x w1 ⟨rfl, rfl⟩
    go_wp2_with fail
    go_ret
    exact ⟨by rw [HE.out]; rfl, rfl⟩
/-- How its key lies to another one. -/
theorem keyCmp_any (e : Ef) (key : Int) (w : World) : Calls Try.prog 50 #[efV e, .int .i64 key] w fun x w' => x = .returned (.int .i64 (cmpI e.key key)) ∧ Below w.heap.size w w' := by
  have C := Lib.hid (fun w => cmp_any e.key key w)
  have B := Lib.hid ((Below.refl w.heap.size w).alloc (Nat.le_refl _) (Obj.cells (efC e) 27))
  have D : Row (w.alloc (.cells (efC e) 27)) w.heap.size 27 (efC e) := Row.new _ _ _
  obtain ⟨c0, _⟩ := D.c
  clear D
  go_enter Try.func50, Try.ntmps50
  go_wp2_with fail
  refine (C.out _).mono ?_
  rintro x w1 ⟨rfl, rfl⟩
  go_wp2_with fail
  go_ret
  exact ⟨rfl, B.out⟩

end Go.Proofs.Ytciijkognhdddaa
