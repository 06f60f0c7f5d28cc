/- Plain facts on halving: a plan of lists that are to be tried, what is told of them, what comes of it, and in how many tries. -/
namespace Go.Proofs.Ytbhknaggbenfnaa

/-- A plan: lists that are to be tried; who is good, who is bad; how often it was told. -/
structure Hv (α : Type) where
  rest : List (List α)
  good : List α
  bad : List α
  tries : Nat

def halfN (n : Nat) : Nat := (n + 1) / 2
def halfA {α : Type} (l : List α) : List α := l.take (halfN l.length)
def halfB {α : Type} (l : List α) : List α := l.drop (halfN l.length)
theorem half_app {α : Type} (l : List α) : halfA l ++ halfB l = l := List.take_append_drop _ _
theorem halfA_len {α : Type} (l : List α) : (halfA l).length = halfN l.length := by
  unfold halfA halfN
  rw [List.length_take]; omega
theorem halfB_len {α : Type} (l : List α) : (halfB l).length = l.length - halfN l.length := by
  unfold halfB
  rw [List.length_drop]
theorem half_two {α : Type} {l : List α} (h : 2 ≤ l.length) : 1 ≤ (halfA l).length ∧ 1 ≤ (halfB l).length ∧ (halfA l).length < l.length ∧ (halfB l).length < l.length := by
  rw [halfA_len, halfB_len]
  unfold halfN
  omega

def newH {α : Type} (names : List α) : Hv α := ⟨if names.isEmpty then [] else [names], [], [], 0⟩
def tellH {α : Type} (p : Hv α) (g : Bool) : Hv α :=
  match p.rest with
  | [] => p
  | l :: r => if g then ⟨r, p.good ++ l, p.bad, p.tries + 1⟩ else if l.length = 1 then ⟨r, p.good, p.bad ++ l, p.tries + 1⟩ else ⟨halfA l :: halfB l :: r, p.good, p.bad, p.tries + 1⟩
def tellN {α : Type} (p : Hv α) : Int := if p.rest.isEmpty then 121 else 0
def nextH {α : Type} (p : Hv α) : List α := p.rest.headD []

/-- No list that is to be tried is empty. -/
def FullH {α : Type} (p : Hv α) : Prop := ∀ l ∈ p.rest, l ≠ []
theorem newH_full {α : Type} (names : List α) : FullH (newH names) := by
  intro l hl
  unfold newH at hl
  cases names with
  | nil => simp at hl
  | cons x r => simp at hl; subst hl; simp
theorem FullH.tell {α : Type} {p : Hv α} (h : FullH p) (g : Bool) : FullH (tellH p g) := by
  unfold tellH
  split
  · exact h
  · rename_i l r e
    have hl : l ≠ [] := h l (by rw [e]; simp)
    have hr : ∀ m ∈ r, m ≠ [] := fun m hm => h m (by rw [e]; simp [hm])
    split
    · exact fun m hm => hr m hm
    · split
      · exact fun m hm => hr m hm
      · rename_i _ h1
        have h2 : 2 ≤ l.length := by
          have := List.length_pos_iff.2 hl
          omega
        obtain ⟨k1, k2, _, _⟩ := half_two h2
        intro m hm
        simp only [List.mem_cons] at hm
        rcases hm with rfl | rfl | hm
        · exact List.length_pos_iff.1 k1
        · exact List.length_pos_iff.1 k2
        · exact hr m hm
theorem next_none {α : Type} {p : Hv α} (h : FullH p) : nextH p = [] ↔ p.rest = [] := by
  unfold nextH
  cases e : p.rest with
  | nil => simp
  | cons l r =>
    have := h l (by rw [e]; simp)
    simp [this]

/-- Who has been tried, in the order of all. -/
def DoneH {α : Type} (p : Hv α) (names d : List α) : Prop := d ++ p.rest.flatten = names
theorem newH_done {α : Type} (names : List α) : DoneH (newH names) names [] := by
  unfold DoneH newH
  cases names <;> simp
def stepD {α : Type} (p : Hv α) (g : Bool) : List α :=
  match p.rest with
  | [] => []
  | l :: _ => if g then l else if l.length = 1 then l else []
theorem DoneH.tell {α : Type} {p : Hv α} {names d : List α} (h : DoneH p names d) (g : Bool) : DoneH (tellH p g) names (d ++ stepD p g) := by
  unfold DoneH tellH stepD at *
  cases e : p.rest with
  | nil => simp only [e] at *; simpa using h
  | cons l r =>
    rw [e] at h
    simp only
    split
    · rw [← h]; simp
    · split
      · rw [← h]; simp
      · rw [← h]
        simp only [List.append_nil, List.flatten_cons]
        rw [← List.append_assoc (halfA l), half_app]

/-- Whatever is told: who is good and who is bad are together those that have been tried. -/
theorem tell_perm {α : Type} {p : Hv α} {d : List α} (h : (p.good ++ p.bad).Perm d) (g : Bool) : ((tellH p g).good ++ (tellH p g).bad).Perm (d ++ stepD p g) := by
  unfold tellH stepD
  cases e : p.rest with
  | nil => simpa using h
  | cons l r =>
    simp only
    split
    · have : (p.good ++ l ++ p.bad).Perm (p.good ++ p.bad ++ l) := by
        rw [List.append_assoc, List.append_assoc]
        exact List.Perm.append_left _ List.perm_append_comm
      exact this.trans (h.append_right l)
    · split
      · rw [← List.append_assoc]
        exact h.append_right l
      · simpa using h

theorem tell_good {α : Type} {p : Hv α} {l : List α} {r : List (List α)} (e : p.rest = l :: r) : tellH p true = ⟨r, p.good ++ l, p.bad, p.tries + 1⟩ ∧ stepD p true = l := by
  unfold tellH stepD; rw [e]; exact ⟨rfl, rfl⟩
theorem tell_one {α : Type} {p : Hv α} {l : List α} {r : List (List α)} (e : p.rest = l :: r) (h : l.length = 1) : tellH p false = ⟨r, p.good, p.bad ++ l, p.tries + 1⟩ ∧ stepD p false = l := by
  unfold tellH stepD; rw [e]; simp [h]
theorem tell_two {α : Type} {p : Hv α} {l : List α} {r : List (List α)} (e : p.rest = l :: r) (h : l.length ≠ 1) : tellH p false = ⟨halfA l :: halfB l :: r, p.good, p.bad, p.tries + 1⟩ ∧ stepD p false = [] := by
  unfold tellH stepD; rw [e]; simp [h]
theorem tell_none {α : Type} {p : Hv α} (e : p.rest = []) (g : Bool) : tellH p g = p ∧ stepD p g = [] := by
  unfold tellH stepD; rw [e]; exact ⟨rfl, rfl⟩

/-- Told by who is bad. -/
def oracle {α : Type} (q : α → Bool) (p : Hv α) : Bool := (nextH p).all fun x => !q x
structure InvH {α : Type} (q : α → Bool) (names : List α) (p : Hv α) (d : List α) : Prop where
  full : FullH p
  done : DoneH p names d
  good : p.good = d.filter fun x => !q x
  bad : p.bad = d.filter q
theorem InvH.new {α : Type} (q : α → Bool) (names : List α) : InvH q names (newH names) [] := ⟨newH_full _, newH_done _, rfl, rfl⟩
theorem oracle_true {α : Type} {q : α → Bool} {p : Hv α} {l : List α} {r : List (List α)} (e : p.rest = l :: r) : oracle q p = true ↔ ∀ x ∈ l, q x = false := by
  unfold oracle nextH
  rw [e, List.headD_cons, List.all_eq_true]
  simp
theorem oracle_false {α : Type} {q : α → Bool} {p : Hv α} {l : List α} {r : List (List α)} (e : p.rest = l :: r) (h : oracle q p = false) : l.any q = true := by
  cases k : l.any q with
  | true => rfl
  | false =>
    rw [List.any_eq_false] at k
    have := (oracle_true e).2 (fun x hx => by simpa using k x hx)
    rw [this] at h
    cases h
theorem InvH.step {α : Type} {q : α → Bool} {names : List α} {p : Hv α} {d : List α} (h : InvH q names p d) : InvH q names (tellH p (oracle q p)) (d ++ stepD p (oracle q p)) := by
  have h1 := h.full.tell (oracle q p)
  have h2 := h.done.tell (oracle q p)
  refine ⟨h1, h2, ?_, ?_⟩
  all_goals
    clear h1 h2
    cases e : p.rest with
    | nil =>
      rw [(tell_none e _).1, (tell_none e _).2, List.append_nil]
      first | exact h.good | exact h.bad
    | cons l r =>
      cases ho : oracle q p with
      | true =>
        have ha := (oracle_true e).1 ho
        have k1 : l.filter (fun x => !q x) = l := List.filter_eq_self.2 (fun x hx => by rw [ha x hx]; rfl)
        have k2 : l.filter q = [] := List.filter_eq_nil_iff.2 (fun x hx => by rw [ha x hx]; simp)
        rw [(tell_good e).1, (tell_good e).2, List.filter_append]
        first
          | (rw [k2, List.append_nil]; exact h.bad)
          | (rw [k1, ← h.good])
      | false =>
        have ha := oracle_false e ho
        by_cases h1 : l.length = 1
        · rw [(tell_one e h1).1, (tell_one e h1).2, List.filter_append]
          obtain ⟨x, rfl⟩ := List.length_eq_one_iff.1 h1
          have hx : q x = true := by simpa using ha
          first
            | (rw [h.good]; simp [hx]; done)
            | (rw [h.bad]; simp [hx]; done)
        · rw [(tell_two e h1).1, (tell_two e h1).2, List.append_nil]
          first
            | exact h.good
            | exact h.bad

/-- How many tries a list takes. -/
def costH {α : Type} (q : α → Bool) (l : List α) : Nat :=
  if h : l.any q = true ∧ 2 ≤ l.length then
    have := (half_two h.2).2.2.1
    have := (half_two h.2).2.2.2
    1 + costH q (halfA l) + costH q (halfB l)
  else 1
termination_by l.length

theorem cost_one {α : Type} (q : α → Bool) {l : List α} (h : ¬ (l.any q = true ∧ 2 ≤ l.length)) : costH q l = 1 := by
  rw [costH, dif_neg h]
theorem cost_two {α : Type} (q : α → Bool) {l : List α} (h : l.any q = true ∧ 2 ≤ l.length) : costH q l = 1 + costH q (halfA l) + costH q (halfB l) := by
  conv => lhs; rw [costH, dif_pos h]
def costs {α : Type} (q : α → Bool) (ls : List (List α)) : Nat := (ls.map (costH q)).sum

/-- All tries, those to come with those that were. -/
theorem cost_step {α : Type} {q : α → Bool} {p : Hv α} (h : FullH p) : (tellH p (oracle q p)).tries + costs q (tellH p (oracle q p)).rest = p.tries + costs q p.rest := by
  cases e : p.rest with
  | nil => rw [(tell_none e _).1, e]
  | cons l r =>
    have hl : 1 ≤ l.length := List.length_pos_iff.2 (h l (by rw [e]; simp))
    cases ho : oracle q p with
    | true =>
      have ha := (oracle_true e).1 ho
      have : ¬ (l.any q = true ∧ 2 ≤ l.length) := by
        rintro ⟨k, _⟩
        rw [List.any_eq_true] at k
        obtain ⟨x, hx, hq⟩ := k
        rw [ha x hx] at hq
        cases hq
      rw [(tell_good e).1]
      simp only [costs, List.map_cons, List.sum_cons, cost_one q this]
      omega
    | false =>
      have ha := oracle_false e ho
      by_cases h1 : l.length = 1
      · rw [(tell_one e h1).1]
        simp only [costs, List.map_cons, List.sum_cons, cost_one q (l := l) (by omega)]
        omega
      · rw [(tell_two e h1).1]
        simp only [costs, List.map_cons, List.sum_cons, cost_two q (l := l) ⟨ha, by omega⟩]
        omega
theorem cost_new {α : Type} (q : α → Bool) {names : List α} (h : names ≠ []) : (newH names).tries + costs q (newH names).rest = costH q names := by
  cases names with
  | nil => exact absurd rfl h
  | cons x r => simp [newH, costs]

theorem any_count {α : Type} (q : α → Bool) (l : List α) : l.any q = true ↔ 1 ≤ (l.filter q).length := by
  rw [List.any_eq_true]
  constructor
  · rintro ⟨x, hx, hq⟩
    exact List.length_pos_iff.2 (List.ne_nil_of_mem (List.mem_filter.2 ⟨hx, hq⟩))
  · intro h
    obtain ⟨x, hx⟩ := List.exists_mem_of_ne_nil _ (List.length_pos_iff.1 h)
    exact ⟨x, (List.mem_filter.1 hx).1, (List.mem_filter.1 hx).2⟩
theorem filter_half {α : Type} (q : α → Bool) (l : List α) : (l.filter q).length = ((halfA l).filter q).length + ((halfB l).filter q).length := by
  conv => lhs; rw [← half_app l]
  rw [List.filter_append, List.length_append]

theorem mul_step (b1 b2 k : Nat) (h : 1 ≤ b1 + b2) : 1 + (2 * b1 * (k + 1) + 1) + (2 * b2 * (k + 1) + 1) ≤ 2 * (b1 + b2) * (k + 1 + 1) + 1 := by
  have e1 : 2 * (b1 + b2) * (k + 1 + 1) = 2 * b1 * (k + 1) + 2 * b2 * (k + 1) + 2 * (b1 + b2) := by
    rw [Nat.mul_add, Nat.mul_one, Nat.mul_add 2 b1 b2, Nat.add_mul]
  omega
/-- Two times so many bad ones times so many halvings and one more; and one more. -/
theorem cost_bound {α : Type} (q : α → Bool) : ∀ (k : Nat) (l : List α), l.length ≤ 2 ^ k → costH q l ≤ 2 * (l.filter q).length * (k + 1) + 1
  | 0, l, h => by
    rw [cost_one q (by simp at h; omega)]
    omega
  | k + 1, l, h => by
    by_cases c : l.any q = true ∧ 2 ≤ l.length
    · rw [cost_two q c]
      have hp : 2 ^ (k + 1) = 2 * 2 ^ k := by rw [Nat.pow_succ]; omega
      have a1 := cost_bound q k (halfA l) (by rw [halfA_len]; unfold halfN; omega)
      have a2 := cost_bound q k (halfB l) (by rw [halfB_len]; unfold halfN; omega)
      have hc := (any_count q l).1 c.1
      rw [filter_half q l] at hc ⊢
      exact Nat.le_trans (by omega) (mul_step _ _ k hc)
    · rw [cost_one q c]
      omega
/-- One bad one: two tries for each halving, and one more. -/
theorem cost_single {α : Type} (q : α → Bool) : ∀ (k : Nat) (l : List α), l.length ≤ 2 ^ k → (l.filter q).length ≤ 1 → costH q l ≤ 2 * (k * (l.filter q).length) + 1
  | 0, l, h, _ => by
    rw [cost_one q (by simp at h; omega)]
    omega
  | k + 1, l, h, hb => by
    by_cases c : l.any q = true ∧ 2 ≤ l.length
    · rw [cost_two q c]
      have hp : 2 ^ (k + 1) = 2 * 2 ^ k := by rw [Nat.pow_succ]; omega
      have hc := (any_count q l).1 c.1
      have hf := filter_half q l
      have a1 := cost_single q k (halfA l) (by rw [halfA_len]; unfold halfN; omega) (by omega)
      have a2 := cost_single q k (halfB l) (by rw [halfB_len]; unfold halfN; omega) (by omega)
      have h1 : (l.filter q).length = 1 := by omega
      rw [h1]
      rw [h1] at hf
      have : ((halfA l).filter q).length = 0 ∧ ((halfB l).filter q).length = 1 ∨ ((halfA l).filter q).length = 1 ∧ ((halfB l).filter q).length = 0 := by omega
      rcases this with ⟨e1, e2⟩ | ⟨e1, e2⟩
      · rw [e1] at a1; rw [e2] at a2; simp only [Nat.mul_zero, Nat.mul_one] at a1 a2 ⊢; omega
      · rw [e1] at a1; rw [e2] at a2; simp only [Nat.mul_zero, Nat.mul_one] at a1 a2 ⊢; omega
    · rw [cost_one q c]
      omega

/-- So much there is left to do, at most. -/
def leftH {α : Type} (p : Hv α) : Nat := (p.rest.map fun l => 2 * l.length - 1).sum
theorem left_step {α : Type} {p : Hv α} (h : FullH p) (hr : p.rest ≠ []) (g : Bool) : leftH (tellH p g) < leftH p := by
  unfold tellH leftH
  cases e : p.rest with
  | nil => exact absurd e hr
  | cons l r =>
    have hl : 1 ≤ l.length := List.length_pos_iff.2 (h l (by rw [e]; simp))
    simp only
    split
    · simp only [List.map_cons, List.sum_cons]; omega
    · split
      · simp only [List.map_cons, List.sum_cons]; omega
      · obtain ⟨k1, k2, k3, k4⟩ := half_two (l := l) (by omega)
        have hs : (halfA l).length + (halfB l).length = l.length := by rw [← List.length_append, half_app]
        simp only [List.map_cons, List.sum_cons]
        omega
theorem left_new {α : Type} (names : List α) : leftH (newH names) ≤ 2 * names.length := by
  cases names with
  | nil => simp [leftH, newH]
  | cons x r => simp [leftH, newH]
theorem tries_left {α : Type} {p : Hv α} (h : FullH p) (g : Bool) : (tellH p g).tries + leftH (tellH p g) ≤ p.tries + leftH p := by
  by_cases hr : p.rest = []
  · have : tellH p g = p := by unfold tellH; rw [hr]
    rw [this]; omega
  · have h1 := left_step h hr g
    have h2 : (tellH p g).tries = p.tries + 1 := by
      unfold tellH
      cases e : p.rest with
      | nil => exact absurd e hr
      | cons l r =>
        simp only
        split
        · rfl
        · split <;> rfl
    omega
theorem tries_step {α : Type} (p : Hv α) (g : Bool) (hr : p.rest ≠ []) : (tellH p g).tries = p.tries + 1 := by
  unfold tellH
  cases e : p.rest with
  | nil => exact absurd e hr
  | cons l r =>
    simp only
    split
    · rfl
    · split <;> rfl

/-- The least k of which 2 to the power of k is n or more. -/
def deepH (n : Nat) : Nat → Nat → Nat → Nat
  | 0, k, _ => k
  | f + 1, k, pw => if pw < n then deepH n f (k + 1) (2 * pw) else k
theorem deepH_pow (n : Nat) : ∀ (f k : Nat), n ≤ 2 ^ (k + f) → n ≤ 2 ^ deepH n f k (2 ^ k)
  | 0, k, h => by simpa [deepH] using h
  | f + 1, k, h => by
    unfold deepH
    split
    · have := deepH_pow n f (k + 1) (by rwa [show k + 1 + f = k + (f + 1) by omega])
      rwa [show 2 * 2 ^ k = 2 ^ (k + 1) by rw [Nat.pow_succ]; omega]
    · omega

/-- When nothing is to be tried any more: just the bad ones are bad, all others good, in their order; in so many tries. -/
theorem halves_end {α : Type} {q : α → Bool} {names : List α} {p : Hv α} {d : List α} (h : InvH q names p d) (hr : p.rest = []) : p.good = names.filter (fun x => !q x) ∧ p.bad = names.filter q := by
  have hd := h.done
  unfold DoneH at hd
  rw [hr] at hd
  have : d = names := by simpa using hd
  rw [h.good, h.bad, this]
  exact ⟨rfl, rfl⟩
theorem tries_end {α : Type} {q : α → Bool} {names : List α} {p : Hv α} (h : p.tries + costs q p.rest = costH q names) (hr : p.rest = []) (k : Nat) (hk : names.length ≤ 2 ^ k) : p.tries ≤ 2 * (names.filter q).length * (k + 1) + 1 := by
  rw [hr] at h
  have := cost_bound q k names hk
  simp [costs] at h
  omega
theorem tries_single {α : Type} {q : α → Bool} {names : List α} {p : Hv α} (h : p.tries + costs q p.rest = costH q names) (hr : p.rest = []) (k : Nat) (hk : names.length ≤ 2 ^ k) (h1 : (names.filter q).length ≤ 1) : p.tries ≤ 2 * (k * (names.filter q).length) + 1 := by
  rw [hr] at h
  have := cost_single q k names hk h1
  simp [costs] at h
  omega
theorem deepH_least (n : Nat) : ∀ (f k : Nat), (∀ j, j < k → 2 ^ j < n) → ∀ j, j < deepH n f k (2 ^ k) → 2 ^ j < n
  | 0, k, h => by simpa [deepH] using h
  | f + 1, k, h => by
    unfold deepH
    split
    · rename_i hlt
      rw [show 2 * 2 ^ k = 2 ^ (k + 1) by rw [Nat.pow_succ]; omega]
      refine deepH_least n f (k + 1) (fun j hj => ?_)
      by_cases e : j = k
      · rw [e]; exact hlt
      · exact h j (by omega)
    · exact h

end Go.Proofs.Ytbhknaggbenfnaa
