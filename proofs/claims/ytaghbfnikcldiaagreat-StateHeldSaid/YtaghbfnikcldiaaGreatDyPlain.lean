/- Ticks, doors and closings as plain lists and numbers: nothing of the program. -/
namespace Go.Proofs.YtaghbfnikcldiaaGreat

def dyRightB (t : Int) : Bool := decide (0 ≤ t) && decide (t ≤ 1099511627776)
theorem rightB_true {t : Int} : dyRightB t = true ↔ 0 ≤ t ∧ t ≤ 1099511627776 := by simp [dyRightB]
theorem rightB_false {t : Int} : dyRightB t = false ↔ t < 0 ∨ 1099511627776 < t := by
  rw [← Bool.not_eq_true, rightB_true]; omega

def doorB (n : Int) : Bool := decide (0 ≤ n) && decide (n < 96)
theorem doorB_true {n : Int} : doorB n = true ↔ 0 ≤ n ∧ n < 96 := by simp [doorB]

/-- Rising from a last one on, none above 95. -/
def fitsFrom : Int → List Int → Bool
  | _, [] => true
  | last, n :: r => (decide (last < n) && decide (n ≤ 95)) && fitsFrom n r

def fitsB (l : List Int) : Bool := fitsFrom (-1) l && decide (0 < l.length)

structure FitsP (l : List Int) : Prop where
  pos : 0 < l.length
  asc : l.Pairwise (· < ·)
  rng : ∀ x ∈ l, 0 ≤ x ∧ x ≤ 95

theorem fitsFrom_iff : ∀ (l : List Int) (a : Int), fitsFrom a l = true ↔ l.Pairwise (· < ·) ∧ ∀ x ∈ l, a < x ∧ x ≤ 95
  | [], a => by simp [fitsFrom]
  | n :: r, a => by
    rw [fitsFrom, Bool.and_eq_true, Bool.and_eq_true, decide_eq_true_eq, decide_eq_true_eq, fitsFrom_iff r n, List.pairwise_cons]
    constructor
    · rintro ⟨⟨h1, h2⟩, h3, h4⟩
      refine ⟨⟨fun x hx => (h4 x hx).1, h3⟩, fun x hx => ?_⟩
      rcases List.mem_cons.1 hx with rfl | hx
      · exact ⟨h1, h2⟩
      · have := h4 x hx; omega
    · rintro ⟨⟨h1, h2⟩, h3⟩
      have hn := h3 n (by simp)
      exact ⟨⟨hn.1, hn.2⟩, h2, fun x hx => ⟨h1 x hx, (h3 x (by simp [hx])).2⟩⟩

theorem fitsB_iff {l : List Int} : fitsB l = true ↔ FitsP l := by
  rw [fitsB, Bool.and_eq_true, decide_eq_true_eq, fitsFrom_iff]
  constructor
  · rintro ⟨⟨h1, h2⟩, h3⟩
    exact ⟨h3, h1, fun x hx => by have := h2 x hx; omega⟩
  · rintro ⟨h1, h2, h3⟩
    exact ⟨⟨h2, fun x hx => by have := h3 x hx; omega⟩, h1⟩

theorem asc_le {l : List Int} (h : l.Pairwise (· < ·)) : l.Pairwise (· ≤ ·) := h.imp (fun h => Int.le_of_lt h)

theorem asc_get {l : List Int} (h : l.Pairwise (· < ·)) {i j : Nat} (hj : j < l.length) (hij : i < j) : l[i] < l[j] := List.pairwise_iff_getElem.1 h i j (by omega) hj hij

theorem FitsP.at {l : List Int} (h : FitsP l) {j : Nat} (hj : j < l.length) : 0 ≤ l[j] ∧ l[j] ≤ 95 := h.rng _ (List.getElem_mem hj)

theorem FitsP.up {l : List Int} (h : FitsP l) : ∀ (j : Nat) (hj : j < l.length), (j : Int) ≤ l[j]
  | 0, hj => (h.at hj).1
  | j + 1, hj => by
    have h1 := FitsP.up h j (by omega)
    have h2 := asc_get h.asc hj (Nat.lt_succ_self j)
    omega

theorem FitsP.len {l : List Int} (h : FitsP l) : l.length ≤ 96 := by
  have hp := h.pos
  have h1 := h.up (l.length - 1) (by omega)
  have h2 := h.at (j := l.length - 1) (by omega)
  omega

/-- How many of the doors close up to a tick of the day. -/
def closedN (l : List Int) (r : Int) : Nat := l.countP (fun y => decide (y < r + 1))

theorem closedN_place : ∀ (l : List Int) (r : Int), l.Pairwise (· < ·) → ∀ j (h : j < l.length), (l[j] < r + 1 ↔ j < closedN l r)
  | [], _, _, j, h => by simp at h
  | a :: t, r, hp, j, h => by
    rw [List.pairwise_cons] at hp
    have e : closedN (a :: t) r = closedN t r + if a < r + 1 then 1 else 0 := by
      simp [closedN, List.countP_cons]
    by_cases ha : a < r + 1
    · rw [e, if_pos ha]
      cases j with
      | zero => simp [ha]
      | succ j =>
        have := closedN_place t r hp.2 j (by simpa using h)
        simp only [List.getElem_cons_succ]
        omega
    · rw [e, if_neg ha]
      have hz : closedN t r = 0 := by
        unfold closedN
        rw [List.countP_eq_zero]
        intro x hx
        have := hp.1 x hx
        simp; omega
      rw [hz]
      cases j with
      | zero => simp; omega
      | succ j =>
        have := hp.1 (t[j]'(by simpa using h)) (List.getElem_mem _)
        simp only [List.getElem_cons_succ]
        omega

theorem closedN_le (l : List Int) (r : Int) : closedN l r ≤ l.length := List.countP_le_length

theorem closedN_all {l : List Int} (h : FitsP l) {r : Int} (hr : 95 ≤ r) : closedN l r = l.length := by
  unfold closedN
  rw [List.countP_eq_length]
  intro x hx
  have := h.rng x hx
  simp; omega

theorem closedN_none {l : List Int} (h : FitsP l) {r : Int} (hr : r < 0) : closedN l r = 0 := by
  unfold closedN
  rw [List.countP_eq_zero]
  intro x hx
  have := h.rng x hx
  simp; omega

theorem closedN_succ : ∀ (l : List Int) (r : Int), l.Pairwise (· < ·) → closedN l (r + 1) = closedN l r + if l.contains (r + 1) then 1 else 0
  | [], _, _ => by simp [closedN]
  | a :: t, r, hp => by
    rw [List.pairwise_cons] at hp
    have e : ∀ r, closedN (a :: t) r = closedN t r + if a < r + 1 then 1 else 0 := fun r => by
      simp [closedN, List.countP_cons]
    rw [e, e, closedN_succ t r hp.2]
    by_cases ha : a = r + 1
    · subst ha
      have : ¬ (r + 1 ∈ t) := fun hm => by have := hp.1 _ hm; omega
      simp [this]
      omega
    · have h1 : (a :: t).contains (r + 1) = t.contains (r + 1) := by
        simp; omega
      rw [h1]
      by_cases h2 : a < r + 1
      · have h3 : a < r + 1 + 1 := by omega
        rw [if_pos h2, if_pos h3]; omega
      · have h3 : ¬ a < r + 1 + 1 := by omega
        rw [if_neg h2, if_neg h3]; omega

/-- Do doors close at a tick? -/
def closesB (l : List Int) (t : Int) : Bool := l.contains (t % 96)

/-- How often doors close from the beginning up to a tick. -/
def closeN (l : List Int) (t : Int) : Int := t / 96 * l.length + closedN l (t % 96)

theorem closeN_step {l : List Int} (h : FitsP l) {t : Int} (_ht : 0 ≤ t) : closeN l (t + 1) = closeN l t + if closesB l (t + 1) then 1 else 0 := by
  unfold closeN closesB
  by_cases hr : t % 96 = 95
  · have e1 : (t + 1) / 96 = t / 96 + 1 := by omega
    have e2 : (t + 1) % 96 = 0 := by omega
    have e3 := closedN_succ l (-1) h.asc
    rw [closedN_none h (r := -1) (by omega)] at e3
    simp only [show (-1 : Int) + 1 = 0 by rfl, Nat.zero_add] at e3
    rw [e1, e2, hr, closedN_all h (r := 95) (by omega), e3, Int.add_mul]
    split <;> simp
  · have e1 : (t + 1) / 96 = t / 96 := by omega
    have e2 : (t + 1) % 96 = t % 96 + 1 := by omega
    rw [e1, e2, closedN_succ l _ h.asc]
    split <;> simp <;> omega

theorem closeN_day (l : List Int) (t : Int) (k : Int) : closeN l (t + 96 * k) = closeN l t + k * l.length := by
  unfold closeN
  have e1 : (t + 96 * k) / 96 = t / 96 + k := by omega
  have e2 : (t + 96 * k) % 96 = t % 96 := by omega
  rw [e1, e2, Int.add_mul]
  omega

theorem closeN_add {l : List Int} (h : FitsP l) {t : Int} (ht : 0 ≤ t) : ∀ k : Nat, closeN l t ≤ closeN l (t + k)
  | 0 => by simp
  | k + 1 => by
    have h1 := closeN_add h ht k
    have h2 := closeN_step h (t := t + k) (by omega)
    rw [show t + ((k + 1 : Nat) : Int) = t + k + 1 by omega, h2]
    split <;> omega

theorem closeN_mono {l : List Int} (h : FitsP l) {t u : Int} (ht : 0 ≤ t) (hu : t ≤ u) : closeN l t ≤ closeN l u := by
  have := closeN_add h ht (u - t).toNat
  rwa [show t + ((u - t).toNat : Int) = u by omega] at this

theorem closeN_long {l : List Int} (h : FitsP l) {t u : Int} (ht : 0 ≤ t) (hu : t ≤ u) : (u - t) / 96 * l.length ≤ closeN l u - closeN l t := by
  have h1 := closeN_day l t ((u - t) / 96)
  have h2 := closeN_mono h (t := t + 96 * ((u - t) / 96)) (u := u) (by omega) (by omega)
  omega

theorem closeN_bounds {l : List Int} (h : FitsP l) {t : Int} (ht : 0 ≤ t) (h2 : t ≤ 1099511627776) : 0 ≤ t / 96 * l.length ∧ t / 96 * l.length ≤ 1099511627776 ∧ 0 ≤ closeN l t ∧ closeN l t ≤ 1099511627776 + 96 := by
  have hl := h.len
  have hc := closedN_le l (t % 96)
  have a1 : 0 ≤ t / 96 * l.length := Int.mul_nonneg (by omega) (by omega)
  have a2 : t / 96 * l.length ≤ t / 96 * 96 := Int.mul_le_mul_of_nonneg_left (by omega) (by omega)
  unfold closeN
  omega

/-- The first tick behind t at which doors close. -/
def nextRaw (l : List Int) (t : Int) : Int := if closedN l (t % 96) = l.length then (t / 96 + 1) * 96 + l.getD 0 0 else t / 96 * 96 + l.getD (closedN l (t % 96)) 0

theorem getD_get (l : List Int) {j : Nat} (h : j < l.length) : l.getD j 0 = l[j] := by simp [List.getD, h]

theorem next_day (l : List Int) (t : Int) : nextRaw l (t + 96) = nextRaw l t + 96 := by
  unfold nextRaw
  have e1 : (t + 96) / 96 = t / 96 + 1 := by omega
  have e2 : (t + 96) % 96 = t % 96 := by omega
  rw [e1, e2]
  split <;> omega

/-- What the next closing is, one way or the other. -/
theorem next_cases {l : List Int} (h : FitsP l) (t : Int) : 
    (∃ (k : Nat) (hk : k < l.length), nextRaw l t = t / 96 * 96 + (l[k] : Int) ∧ t % 96 < l[k] ∧ ∀ j (hj : j < l.length), t % 96 < l[j] → l[k] ≤ l[j]) ∨
    (∃ (hk : 0 < l.length), nextRaw l t = t / (96 : Int) * (96 : Int) + (96 : Int) + (l[0] : Int) ∧ (∀ j (hj : j < l.length), l[j] ≤ t % 96) ∧ ∀ j (hj : j < l.length), l[0] ≤ l[j]) := by
  have hle := closedN_le l (t % 96)
  have hpl := closedN_place l (t % 96) h.asc
  by_cases he : closedN l (t % 96) = l.length
  · refine .inr ⟨h.pos, ?_, fun j hj => ?_, fun j hj => ?_⟩
    · unfold nextRaw
      rw [if_pos he, getD_get l h.pos]; omega
    · have := hpl j hj; omega
    · rcases Nat.eq_zero_or_pos j with rfl | hp
      · exact Int.le_refl _
      · exact Int.le_of_lt (asc_get h.asc hj hp)
  · have hk : closedN l (t % 96) < l.length := by omega
    refine .inl ⟨_, hk, ?_, ?_, fun j hj hlt => ?_⟩
    · unfold nextRaw
      rw [if_neg he, getD_get l hk]
    · have := hpl _ hk; omega
    · have h1 := hpl j hj
      rcases Nat.lt_or_ge (closedN l (t % 96)) j with hp | hp
      · exact Int.le_of_lt (asc_get h.asc hj hp)
      · have : j = closedN l (t % 96) := by omega
        subst this
        exact Int.le_refl _

theorem next_gt {l : List Int} (h : FitsP l) (t : Int) : t < nextRaw l t ∧ nextRaw l t ≤ t + 96 := by
  rcases next_cases h t with ⟨k, hk, e, h1, _⟩ | ⟨hk, e, h1, _⟩
  · have := h.at hk; omega
  · have := h.at hk
    have := h1 0 hk; omega

theorem next_closes {l : List Int} (h : FitsP l) (t : Int) : closesB l (nextRaw l t) = true := by
  unfold closesB
  rw [List.contains_iff_mem]
  rcases next_cases h t with ⟨k, hk, e, h1, _⟩ | ⟨hk, e, h1, _⟩
  · have := h.at hk
    rw [e, show (t / (96 : Int) * (96 : Int) + (l[k] : Int)) % (96 : Int) = (l[k] : Int) by omega]
    exact List.getElem_mem hk
  · have := h.at hk
    rw [e, show (t / (96 : Int) * (96 : Int) + (96 : Int) + (l[0] : Int)) % (96 : Int) = (l[0] : Int) by omega]
    exact List.getElem_mem hk

theorem next_none {l : List Int} (h : FitsP l) {t n : Int} (h1 : t < n) (h2 : n < nextRaw l t) : closesB l n = false := by
  rw [← Bool.not_eq_true]
  unfold closesB
  rw [List.contains_iff_mem, List.mem_iff_getElem]
  rintro ⟨j, hj, e⟩
  have hb := h.at hj
  rcases next_cases h t with ⟨k, hk, e2, h3, h4⟩ | ⟨hk, e2, h3, h4⟩
  · have := h.at hk
    have := h4 j hj
    omega
  · have := h3 j hj
    have := h4 j hj
    have := h.at hk
    omega

theorem closeN_flat {l : List Int} (h : FitsP l) {t : Int} (ht : 0 ≤ t) : ∀ k : Nat, t + k < nextRaw l t → closeN l (t + k) = closeN l t
  | 0, _ => by simp
  | k + 1, hk => by
    have h1 := closeN_flat h ht k (by omega)
    have h2 := closeN_step h (t := t + k) (by omega)
    have h3 := next_none h (t := t) (n := t + k + 1) (by omega) (by omega)
    rw [show t + ((k + 1 : Nat) : Int) = t + k + 1 by omega, h2, h3, h1]
    simp

theorem closeN_next {l : List Int} (h : FitsP l) {t : Int} (ht : 0 ≤ t) : closeN l (nextRaw l t) = closeN l t + 1 := by
  have hg := (next_gt h t).1
  have h1 := closeN_flat h ht (nextRaw l t - 1 - t).toNat (by omega)
  rw [show t + ((nextRaw l t - 1 - t).toNat : Int) = nextRaw l t - 1 by omega] at h1
  have h2 := closeN_step h (t := nextRaw l t - 1) (by omega)
  rw [show nextRaw l t - 1 + 1 = nextRaw l t by omega, next_closes h t, h1] at h2
  simpa using h2

def nextOk (l : List Int) (t : Int) : Bool := fitsB l && dyRightB t && decide (nextRaw l t ≤ 1099511627776)
def nextV (l : List Int) (t : Int) : Int := if nextOk l t then nextRaw l t else 0
def nextE (l : List Int) (t : Int) : Int := if nextOk l t then 0 else 31

def passOk (l : List Int) (t u : Int) : Bool := fitsB l && dyRightB t && dyRightB u && decide (t ≤ u)
def passV (l : List Int) (t u : Int) : Int := if passOk l t u then closeN l u - closeN l t else 0
def passE (l : List Int) (t u : Int) : Int := if passOk l t u then 0 else 31

def endOk (t : Int) : Bool := dyRightB t && decide ((t / 96 + 1) * 96 ≤ 1099511627776)
def endV (t : Int) : Int := if endOk t then (t / 96 + 1) * 96 else 0
def endE (t : Int) : Int := if endOk t then 0 else 31

end Go.Proofs.YtaghbfnikcldiaaGreat
