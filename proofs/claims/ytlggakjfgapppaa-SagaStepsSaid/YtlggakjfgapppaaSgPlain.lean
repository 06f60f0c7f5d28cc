/- Plain facts on what becomes of an order: the table, one step, and what follows of many. -/
namespace Go.Proofs.Ytlggakjfgapppaa
set_option maxRecDepth 100000

/-- What becomes of an order. -/
structure Sg where
  phase : Int
  given : Bool
  ref : Int

/-- The phase then, and what is asked for; 0: it can't be; below: it is too late. -/
def rowT (g : Bool) : Nat → Nat → Int × Int
  | 1, 1 => if g then (10, 7) else (2, 2)
  | 1, 2 => (11, 0)
  | 1, 3 => (1, 0)
  | 2, 1 => if g then (9, 6) else (3, 0)
  | 2, 2 => (10, 7)
  | 2, 3 => (2, 0)
  | 3, 3 => (9, 6)
  | 3, 4 => (4, 0)
  | 4, 1 => if g then (9, 6) else (5, 0)
  | 4, 2 => (9, 6)
  | 4, 3 => (4, 0)
  | 5, 3 => (9, 6)
  | 5, 4 => (6, 0)
  | 6, 1 => (7, 5)
  | 6, 2 => (9, 6)
  | 6, 3 => (-1, 0)
  | 7, 1 => (8, 0)
  | 7, 2 => (7, 5)
  | 7, 3 => (-1, 0)
  | 8, 3 => (-1, 0)
  | 9, 1 => (10, 7)
  | 9, 2 => (9, 6)
  | 9, 3 => (9, 0)
  | 10, 1 => (11, 0)
  | 10, 2 => (10, 7)
  | 10, 3 => (10, 0)
  | 11, 3 => (11, 0)
  | 12, 3 => (-1, 0)
  | _, _ => (0, 0)
def undoB (p : Int) : Bool := p == 9 || p == 10
/-- One more refusal. -/
def moreR (n : Int) : Int := (if n < 999999 then n else 999999) + 1
def capR (limit : Int) : Int := if limit < 1 then 1 else limit
def stuckB (s : Sg) (event limit : Int) : Bool := event == 2 && undoB s.phase && decide (capR limit ≤ moreR s.ref)
/-- The saga behind an event, what it asks for, the error's number. -/
def stepS (s : Sg) (event limit : Int) : Sg × Int × Int :=
  if 1 ≤ s.phase ∧ s.phase ≤ 12 ∧ 1 ≤ event ∧ event ≤ 4 then
    let r := rowT s.given s.phase.toNat event.toNat
    if r.1 = 0 then (s, 0, 142)
    else if r.1 < 0 then (s, 0, 141)
    else if stuckB s event limit then (⟨12, s.given, moreR s.ref⟩, 0, 0)
    else (⟨r.1, s.given || (event == 3 && decide (s.phase < 6)), if event == 2 && undoB s.phase then moreR s.ref else if event == 1 && s.phase == 9 then 0 else s.ref⟩, r.2, 0)
  else (s, 0, 142)
def asksN (p : Int) : Int := if p = 1 then 1 else if p = 2 then 2 else if p = 7 then 5 else if p = 9 then 6 else if p = 10 then 7 else 0
def leftB (p : Int) : Bool := p == 7 || p == 8

theorem step_out {s : Sg} {event limit : Int} (h : ¬ (1 ≤ s.phase ∧ s.phase ≤ 12 ∧ 1 ≤ event ∧ event ≤ 4)) : stepS s event limit = (s, 0, 142) := by
  unfold stepS
  rw [if_neg h]
/-- Each phase and each event. -/
theorem step_cases (P : Sg → Int → Prop) (hp : ∀ (p e : Int) (g : Bool) (r : Int), (p = 1 ∨ p = 2 ∨ p = 3 ∨ p = 4 ∨ p = 5 ∨ p = 6 ∨ p = 7 ∨ p = 8 ∨ p = 9 ∨ p = 10 ∨ p = 11 ∨ p = 12) → (e = 1 ∨ e = 2 ∨ e = 3 ∨ e = 4) → P ⟨p, g, r⟩ e)
    (s : Sg) (event : Int) (h : 1 ≤ s.phase ∧ s.phase ≤ 12 ∧ 1 ≤ event ∧ event ≤ 4) : P s event := by
  obtain ⟨p, g, r⟩ := s
  obtain ⟨h1, h2, h3, h4⟩ := h
  simp only at h1 h2
  exact hp p event g r (by omega) (by omega)
/-- At an error it is as it was. -/
theorem step_err {s : Sg} {event limit : Int} (h : (stepS s event limit).2.2 ≠ 0) : (stepS s event limit).1 = s ∧ (stepS s event limit).2.1 = 0 := by
  unfold stepS at h ⊢
  split at h
  · rename_i hc
    rw [if_pos hc]
    dsimp only at h ⊢
    split at h
    · rename_i h1; rw [if_pos h1]; exact ⟨rfl, rfl⟩
    · rename_i h1
      rw [if_neg h1]
      split at h
      · rename_i h2; rw [if_pos h2]; exact ⟨rfl, rfl⟩
      · split at h <;> simp at h
  · rename_i hc
    rw [if_neg hc]
    exact ⟨rfl, rfl⟩

/-- A Cancel was fine: it is to be given up, and hasn't been sent; or it is being undone. -/
def upB (s : Sg) : Prop := (s.given = true ∧ (s.phase = 1 ∨ s.phase = 2 ∨ s.phase = 4)) ∨ (9 ≤ s.phase ∧ s.phase ≤ 12)
theorem up_left {s : Sg} (h : upB s) : leftB s.phase = false := by
  unfold upB at h
  unfold leftB
  rw [Bool.or_eq_false_iff]
  constructor <;> (rw [beq_eq_false_iff_ne]; omega)
theorem row_facts : ∀ (g : Bool) (p : Fin 13) (e : Fin 5), 0 < (rowT g p.val e.val).1 →
    (1 ≤ (rowT g p.val e.val).1 ∧ (rowT g p.val e.val).1 ≤ 12) ∧ ((rowT g p.val e.val).2 = 0 ∨ (rowT g p.val e.val).2 = asksN (rowT g p.val e.val).1) ∧ (e.val ≠ 3 → (rowT g p.val e.val).2 = asksN (rowT g p.val e.val).1) ∧ (8 ≤ p.val → (p.val : Int) ≤ (rowT g p.val e.val).1) ∧
    ((g = true ∧ (p.val = 1 ∨ p.val = 2 ∨ p.val = 4)) ∨ 9 ≤ p.val ∨ e.val = 3 → (9 ≤ (rowT g p.val e.val).1) ∨ ((g = true ∨ (e.val = 3 ∧ p.val < 6)) ∧ ((rowT g p.val e.val).1 = 1 ∨ (rowT g p.val e.val).1 = 2 ∨ (rowT g p.val e.val).1 = 4))) := by decide +kernel
theorem row_at (g : Bool) {p e : Int} (hp : 1 ≤ p ∧ p ≤ 12) (he : 1 ≤ e ∧ e ≤ 4) (h : 0 < (rowT g p.toNat e.toNat).1) :
    (1 ≤ (rowT g p.toNat e.toNat).1 ∧ (rowT g p.toNat e.toNat).1 ≤ 12) ∧ ((rowT g p.toNat e.toNat).2 = 0 ∨ (rowT g p.toNat e.toNat).2 = asksN (rowT g p.toNat e.toNat).1) ∧ (e ≠ 3 → (rowT g p.toNat e.toNat).2 = asksN (rowT g p.toNat e.toNat).1) ∧ (8 ≤ p → p ≤ (rowT g p.toNat e.toNat).1) ∧
    ((g = true ∧ (p = 1 ∨ p = 2 ∨ p = 4)) ∨ 9 ≤ p ∨ e = 3 → (9 ≤ (rowT g p.toNat e.toNat).1) ∨ ((g = true ∨ (e = 3 ∧ p < 6)) ∧ ((rowT g p.toNat e.toNat).1 = 1 ∨ (rowT g p.toNat e.toNat).1 = 2 ∨ (rowT g p.toNat e.toNat).1 = 4))) := by
  obtain ⟨h1, h2, h3, h4, h5⟩ := row_facts g ⟨p.toNat, by omega⟩ ⟨e.toNat, by omega⟩ h
  simp only at h1 h2 h3 h4 h5
  refine ⟨h1, h2, fun h => h3 (by omega), fun h => ?_, fun h => ?_⟩
  · have := h4 (by omega)
    omega
  · rcases h5 (by
      rcases h with ⟨a, b⟩ | b | b
      · exact .inl ⟨a, by omega⟩
      · exact .inr (.inl (by omega))
      · exact .inr (.inr (by omega))) with b | ⟨b, c⟩
    · exact .inl b
    · refine .inr ⟨?_, c⟩
      rcases b with b | ⟨b, d⟩
      · exact .inl b
      · exact .inr ⟨by omega, by omega⟩

/-- A step that is fine: by the table, or it is stuck. -/
theorem step_fine {s : Sg} {event limit : Int} (h : (stepS s event limit).2.2 = 0) : (1 ≤ s.phase ∧ s.phase ≤ 12) ∧ (1 ≤ event ∧ event ≤ 4) ∧
    ((stuckB s event limit = true ∧ stepS s event limit = (⟨12, s.given, moreR s.ref⟩, 0, 0)) ∨
     (stuckB s event limit = false ∧ 0 < (rowT s.given s.phase.toNat event.toNat).1 ∧ stepS s event limit = (⟨(rowT s.given s.phase.toNat event.toNat).1, s.given || (event == 3 && decide (s.phase < 6)), if event == 2 && undoB s.phase then moreR s.ref else if event == 1 && s.phase == 9 then 0 else s.ref⟩, (rowT s.given s.phase.toNat event.toNat).2, 0))) := by
  unfold stepS at h ⊢
  split at h
  · rename_i hc
    obtain ⟨c1, c2, c3, c4⟩ := hc
    refine ⟨⟨c1, c2⟩, ⟨c3, c4⟩, ?_⟩
    rw [if_pos ⟨c1, c2, c3, c4⟩]
    dsimp only at h ⊢
    split at h
    · cases h
    · rename_i h1
      rw [if_neg h1]
      split at h
      · cases h
      · rename_i h2
        rw [if_neg h2]
        cases hs : stuckB s event limit with
        | true => exact .inl ⟨rfl, by simp⟩
        | false => exact .inr ⟨rfl, by omega, by simp⟩
  · cases h
theorem step_ok {s : Sg} {event limit : Int} (h : (stepS s event limit).2.2 = 0) :
    (1 ≤ (stepS s event limit).1.phase ∧ (stepS s event limit).1.phase ≤ 12) ∧
    (upB s ∨ event = 3 → upB (stepS s event limit).1) ∧
    ((stepS s event limit).2.1 = 0 ∨ (stepS s event limit).2.1 = asksN (stepS s event limit).1.phase) ∧
    (event ≠ 3 → (stepS s event limit).2.1 = asksN (stepS s event limit).1.phase) ∧
    (8 ≤ s.phase → s.phase ≤ (stepS s event limit).1.phase) := by
  obtain ⟨hp, he, ⟨_, e⟩ | ⟨_, h0, e⟩⟩ := step_fine h
  · rw [e]
    exact ⟨⟨show (1 : Int) ≤ 12 by decide, show (12 : Int) ≤ 12 by decide⟩, fun _ => .inr ⟨show (9 : Int) ≤ 12 by decide, show (12 : Int) ≤ 12 by decide⟩, .inl rfl, fun _ => rfl, fun _ => hp.2⟩
  · obtain ⟨h1, h2, h3, h4, h5⟩ := row_at s.given hp he h0
    rw [e]
    refine ⟨h1, fun hu => ?_, h2, h3, h4⟩
    rcases h5 (by
      rcases hu with (⟨a, b⟩ | ⟨a, b⟩) | a
      · exact .inl ⟨a, b⟩
      · exact .inr (.inl a)
      · exact .inr (.inr a)) with a | ⟨a, b⟩
    · exact .inr ⟨a, h1.2⟩
    · refine .inl ⟨?_, b⟩
      rcases a with a | ⟨a, c⟩
      · simp [a]
      · simp [a, c]

/-- Refusals stay within bounds. -/
theorem more_in {n : Int} (h0 : 0 ≤ n) (h1 : n ≤ 1000000) : 1 ≤ moreR n ∧ moreR n ≤ 1000000 := by
  unfold moreR
  split <;> omega
theorem step_ref {s : Sg} {event limit : Int} (h : 0 ≤ s.ref ∧ s.ref ≤ 1000000) : 0 ≤ (stepS s event limit).1.ref ∧ (stepS s event limit).1.ref ≤ 1000000 := by
  obtain ⟨m1, m2⟩ := more_in h.1 h.2
  by_cases he : (stepS s event limit).2.2 = 0
  · obtain ⟨_, _, ⟨_, e⟩ | ⟨_, _, e⟩⟩ := step_fine he
    · rw [e]; exact ⟨by simp only; omega, m2⟩
    · rw [e]
      simp only
      split
      · omega
      · split
        · omega
        · exact h
  · rw [(step_err he).1]; exact h

/-- Who is over stays so. -/
def overB (p : Int) : Bool := p == 8 || (p == 11 || p == 12)
theorem over_same {s : Sg} (h : overB s.phase = true) (event limit : Int) : (stepS s event limit).1 = s := by
  by_cases he : (stepS s event limit).2.2 = 0
  · obtain ⟨hp, hv, ⟨h1, e⟩ | ⟨h1, h0, e⟩⟩ := step_fine he
    · exfalso
      simp only [stuckB, undoB, Bool.and_eq_true, Bool.or_eq_true, beq_iff_eq] at h1
      simp only [overB, Bool.or_eq_true, beq_iff_eq] at h
      omega
    · rw [e]
      obtain ⟨p, g, r⟩ := s
      simp only [overB, Bool.or_eq_true, beq_iff_eq] at h
      have hv4 : event = 1 ∨ event = 2 ∨ event = 3 ∨ event = 4 := by omega
      clear e h1 he hp hv
      rcases h with h | h | h <;> (try simp only at h) <;> subst h <;> rcases hv4 with rfl | rfl | rfl | rfl <;> dsimp only at h0 <;> first | (exfalso; revert h0; cases g <;> decide) | simp [rowT, undoB]
  · exact (step_err he).1

/-- So many steps are left, if all is answered. -/
def remN (p : Int) : Int := if p = 1 then 7 else if p = 2 then 6 else if p = 3 then 5 else if p = 4 then 4 else if p = 5 then 3 else if p = 6 then 2 else if p = 7 then 1 else if p = 9 then 2 else if p = 10 then 1 else 0
theorem rem_in (p : Int) : 0 ≤ remN p ∧ remN p ≤ 7 := by
  unfold remN
  repeat' split
  all_goals decide
theorem rem_pos {p : Int} (h1 : 1 ≤ p ∧ p ≤ 12) (h : overB p = false) : 1 ≤ remN p := by
  have : p = 1 ∨ p = 2 ∨ p = 3 ∨ p = 4 ∨ p = 5 ∨ p = 6 ∨ p = 7 ∨ p = 8 ∨ p = 9 ∨ p = 10 ∨ p = 11 ∨ p = 12 := by omega
  rcases this with rfl | rfl | rfl | rfl | rfl | rfl | rfl | rfl | rfl | rfl | rfl | rfl <;> first | decide | (exfalso; revert h; decide)
/-- What goes on: what waits goes out, all else is answered. -/
def goesB (p event : Int) : Prop := if p = 3 ∨ p = 5 then event = 4 else event = 1 ∨ event = 2
theorem row_goes : ∀ (g : Bool) (p : Fin 13) (e : Fin 5), (p.val = 1 ∨ p.val = 2 ∨ p.val = 3 ∨ p.val = 4 ∨ p.val = 5 ∨ p.val = 6 ∨ p.val = 7 ∨ p.val = 9 ∨ p.val = 10) → ((p.val = 3 ∨ p.val = 5) ∧ e.val = 4 ∨ ¬ (p.val = 3 ∨ p.val = 5) ∧ (e.val = 1 ∨ e.val = 2)) →
    0 < (rowT g p.val e.val).1 ∧ (e.val ≠ 2 → remN (rowT g p.val e.val).1 + 1 ≤ remN p.val) ∧ ((rowT g p.val e.val).1 ≠ 12) ∧ (9 ≤ p.val → 9 ≤ (rowT g p.val e.val).1) := by decide +kernel
/-- Refusals of what is being undone are counted. -/
def countB (s : Sg) (n limit : Int) : Prop := (s.phase < 9 → s.ref = 0 ∧ n = 0) ∧ ((s.phase = 9 ∨ s.phase = 10) → s.ref = n) ∧ (s.phase = 12 → limit ≤ n)
def countN (s : Sg) (event n : Int) : Int := if undoB s.phase then (if event = 2 then n + 1 else if event = 1 then 0 else n) else n
theorem goes_step {s : Sg} {event limit n : Int} (hp : 1 ≤ s.phase ∧ s.phase ≤ 12) (ho : overB s.phase = false) (hg : goesB s.phase event) (hl : 1 ≤ limit) (hc : countB s n limit) (hn : 0 ≤ n ∧ n ≤ 1000) :
    (stepS s event limit).2.2 = 0 ∧ (1 ≤ (stepS s event limit).1.phase ∧ (stepS s event limit).1.phase ≤ 12) ∧ (event ≠ 2 → remN (stepS s event limit).1.phase + 1 ≤ remN s.phase) ∧ countB (stepS s event limit).1 (countN s event n) limit := by
  obtain ⟨p, g, r⟩ := s
  simp only at hp ho hg hc
  have hp9 : p = 1 ∨ p = 2 ∨ p = 3 ∨ p = 4 ∨ p = 5 ∨ p = 6 ∨ p = 7 ∨ p = 9 ∨ p = 10 := by
    simp only [overB, Bool.or_eq_false_iff, beq_eq_false_iff_ne] at ho
    omega
  have he : 1 ≤ event ∧ event ≤ 4 := by
    unfold goesB at hg
    split at hg <;> omega
  obtain ⟨h1, h2, h3, h4⟩ := row_goes g ⟨p.toNat, by omega⟩ ⟨event.toNat, by omega⟩ (by simp only; omega) (by
    unfold goesB at hg
    split at hg
    · left; simp only; omega
    · right; simp only; omega)
  simp only at h1 h2 h3 h4
  rw [show ((p.toNat : Nat) : Int) = p by omega] at h2
  have hs : stepS ⟨p, g, r⟩ event limit = if stuckB ⟨p, g, r⟩ event limit then (⟨12, g, moreR r⟩, 0, 0) else (⟨(rowT g p.toNat event.toNat).1, g || (event == 3 && decide (p < 6)), if event == 2 && undoB p then moreR r else if event == 1 && p == 9 then 0 else r⟩, (rowT g p.toNat event.toNat).2, 0) := by
    unfold stepS
    rw [if_pos ⟨hp.1, hp.2, he.1, he.2⟩]
    dsimp only
    rw [if_neg (by omega), if_neg (by omega)]
  have hk := row_at g hp he h1
  obtain ⟨c1, c2, c3⟩ := hc
  rw [hs]
  cases hst : stuckB ⟨p, g, r⟩ event limit with
  | true =>
    rw [if_pos rfl]
    simp only [stuckB, Bool.and_eq_true, beq_iff_eq, decide_eq_true_eq] at hst
    obtain ⟨⟨q1, q2⟩, q3⟩ := hst
    have q4 : p = 9 ∨ p = 10 := by simpa [undoB] using q2
    refine ⟨rfl, ⟨show (1 : Int) ≤ 12 by decide, show (12 : Int) ≤ 12 by decide⟩, fun h => absurd q1 h, ?_⟩
    have hr := c2 q4
    simp only at hr
    refine ⟨fun h => absurd h (by simp), fun h => absurd h (by simp), fun _ => ?_⟩
    unfold countN
    simp only
    rw [if_pos q2, if_pos q1]
    unfold capR at q3
    rw [if_neg (by omega)] at q3
    unfold moreR at q3
    split at q3 <;> omega
  | false =>
    rw [if_neg (by decide)]
    refine ⟨rfl, hk.1, fun h => h2 (by omega), ?_⟩
    by_cases hu : p = 9 ∨ p = 10
    · have hub : undoB p = true := by simpa [undoB] using hu
      have hr := c2 hu
      simp only at hr
      have h9 := h4 (by omega)
      refine ⟨fun h => ?_, fun h => ?_, fun h => absurd h h3⟩
      · simp only at h; omega
      · simp only at h ⊢
        unfold countN
        simp only
        rw [if_pos hub]
        have he2 : event = 1 ∨ event = 2 := by
          unfold goesB at hg
          rw [if_neg (by omega)] at hg
          exact hg
        rcases he2 with rfl | rfl
        · rcases hu with rfl | rfl
          · simp [undoB]
          · exfalso
            revert h
            cases g <;> decide
        · simp only [hub]
          have : moreR r = n + 1 := by
            unfold moreR
            rw [if_pos (by omega)]
            omega
          simp [this]
    · have hub : undoB p = false := by simpa [undoB] using hu
      obtain ⟨r0, n0⟩ := c1 (by simp only; omega)
      simp only at r0
      have hr1 : (if event == 2 && undoB p then moreR r else if event == 1 && p == 9 then 0 else r) = 0 := by
        have h9 : (p == 9) = false := by rw [beq_eq_false_iff_ne]; omega
        rw [hub, h9, Bool.and_false, Bool.and_false]
        simp [r0]
      refine ⟨fun _ => ⟨hr1, ?_⟩, fun _ => ?_, fun h => absurd h h3⟩
      · simp [countN, hub, n0]
      · have : countN ⟨p, g, r⟩ event n = 0 := by simp [countN, hub, n0]
        rw [this]
        exact hr1

/-- What undoes is tried as often as the limit says. -/
theorem refuse_on {p : Int} (hp : p = 9 ∨ p = 10) {k limit : Int} (hk : 1 ≤ k) (hk2 : k ≤ 2000) (hl : k < capR limit) : stepS ⟨p, false, k - 1⟩ 2 limit = (⟨p, false, k⟩, asksN p, 0) := by
  have hm : moreR (k - 1) = k := by unfold moreR; rw [if_pos (by omega)]; omega
  have hs : stuckB ⟨p, false, k - 1⟩ 2 limit = false := by
    unfold stuckB
    simp only [hm]
    rw [show decide (capR limit ≤ k) = false by simp; omega, Bool.and_false]
  rcases hp with rfl | rfl
  · simp [stepS, rowT, hs, undoB, hm, asksN]
  · simp [stepS, rowT, hs, undoB, hm, asksN]
theorem refuse_last {p : Int} (hp : p = 9 ∨ p = 10) {k limit : Int} (hk : 1 ≤ k) (hk2 : k ≤ 2000) (hl : capR limit = k) : stepS ⟨p, false, k - 1⟩ 2 limit = (⟨12, false, k⟩, 0, 0) := by
  have hm : moreR (k - 1) = k := by unfold moreR; rw [if_pos (by omega)]; omega
  have hs : stuckB ⟨p, false, k - 1⟩ 2 limit = true := by
    unfold stuckB
    simp only [hm]
    rcases hp with rfl | rfl <;> simp [undoB, hl]
  rcases hp with rfl | rfl
  · simp [stepS, rowT, hs, hm]
  · simp [stepS, rowT, hs, hm]

end Go.Proofs.Ytlggakjfgapppaa
