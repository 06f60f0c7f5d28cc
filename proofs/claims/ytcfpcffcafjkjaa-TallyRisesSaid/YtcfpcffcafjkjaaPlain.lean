/- Plain words on tallies: which numbers can be, sums, differences, products, shares. Nothing of the program is named here. -/
import Derived.Lib.Hide
namespace Go.Proofs.Ytcfpcffcafjkjaa

/-- From 0 to the greatest tally. -/
def okT (n : Int) : Bool := decide (0 ≤ n) && decide (n ≤ 1000000000000)

theorem okT_true {n : Int} : okT n = true ↔ 0 ≤ n ∧ n ≤ 1000000000000 := by simp [okT]
theorem okT_false {n : Int} : okT n = false ↔ n < 0 ∨ 1000000000000 < n := by
  rw [← Bool.not_eq_true, okT_true]; omega

def addOk (a b : Int) : Bool := okT a && (okT b && okT (a + b))
def addV (a b : Int) : Int := if addOk a b then a + b else 0
def addE (a b : Int) : Int := if addOk a b then 0 else 21
def lessOk (a b : Int) : Bool := okT a && (okT b && decide (b ≤ a))
def lessV (a b : Int) : Int := if lessOk a b then a - b else 0
def lessE (a b : Int) : Int := if lessOk a b then 0 else 21
def timesOk (a b : Int) : Bool := okT a && (okT b && okT (a * b))
def timesV (a b : Int) : Int := if timesOk a b then a * b else 0
def timesE (a b : Int) : Int := if timesOk a b then 0 else 21

/-- All together behind s, none where it is too great. -/
def sumFrom : Int → List Int → Option Int
  | s, [] => some s
  | s, x :: l => if okT x && decide (x ≤ 1000000000000 - s) then sumFrom (s + x) l else none
def sumV (l : List Int) : Int := (sumFrom 0 l).getD 0
def sumE (l : List Int) : Int := if (sumFrom 0 l).isSome then 0 else 21

theorem sum_two (a b : Int) : sumV [a, b] = addV a b ∧ sumE [a, b] = addE a b := by
  have e : sumFrom 0 [a, b] = if addOk a b then some (a + b) else none := by
    unfold addOk
    simp only [sumFrom]
    rcases Bool.eq_false_or_eq_true (okT a) with ha | ha
    · rw [ha]
      rw [okT_true] at ha
      rw [Int.sub_zero, decide_eq_true ha.2, Int.zero_add]
      rcases Bool.eq_false_or_eq_true (okT b) with hb | hb
      · rw [hb]
        rw [okT_true] at hb
        by_cases h : b ≤ 1000000000000 - a
        · have : okT (a + b) = true := okT_true.2 (by omega)
          simp [h, this]
        · have : okT (a + b) = false := okT_false.2 (by omega)
          simp [h, this]
      · simp [hb]
    · simp [ha]
  unfold sumV sumE addV addE
  rw [e]
  cases addOk a b <;> simp

theorem timesOk_div {a n : Int} (ha : okT a = true) (hn : okT n = true) (h0 : 0 < n) : timesOk a n = !decide (1000000000000 / n < a) := by
  unfold timesOk
  rw [ha, hn, Bool.true_and, Bool.true_and]
  rw [okT_true] at ha hn
  have hnn : 0 ≤ a * n := Int.mul_nonneg ha.1 hn.1
  by_cases h : 1000000000000 / n < a
  · have : ¬ a * n ≤ 1000000000000 := by
      intro hc
      have := (Int.le_ediv_iff_mul_le h0).2 hc
      omega
    rw [decide_eq_true h]
    exact okT_false.2 (by omega)
  · have : a * n ≤ 1000000000000 := (Int.le_ediv_iff_mul_le h0).1 (by omega)
    rw [decide_eq_false h]
    exact okT_true.2 ⟨hnn, this⟩

theorem timesOk_zero {a n : Int} (ha : okT a = true) (hn : okT n = true) (h0 : ¬ 0 < n) : timesOk a n = true ∧ n = 0 := by
  have hz : n = 0 := by rw [okT_true] at hn; omega
  subst hz
  have h00 : okT 0 = true := by decide
  simp [timesOk, ha, h00]

theorem sumFrom_replicate (a : Int) (ha : okT a = true) : ∀ (n : Nat) (s : Int), okT s = true → sumFrom s (List.replicate n a) = if okT (s + a * n) then some (s + a * n) else none := by
  intro n
  have ha' := okT_true.1 ha
  induction n with
  | zero => intro s hs; simp [sumFrom, hs]
  | succ n ih =>
    intro s hs
    have hs' := okT_true.1 hs
    have hm : a * ((n : Int) + 1) = a * n + a := by rw [Int.mul_add, Int.mul_one]
    have hp : 0 ≤ a * n := Int.mul_nonneg ha'.1 (by omega)
    rw [List.replicate_succ, sumFrom, ha, Bool.true_and, Int.natCast_succ, hm]
    by_cases h : a ≤ 1000000000000 - s
    · rw [decide_eq_true h, if_pos rfl, ih (s + a) (okT_true.2 (by omega)), show s + a + a * (n : Int) = s + (a * n + a) by omega]
    · rw [decide_eq_false h, if_neg (by simp), if_neg]
      rw [okT_true]; omega

theorem sum_replicate (a : Int) (ha : okT a = true) (n : Nat) (hn : n ≤ 100) : sumV (List.replicate n a) = timesV a n ∧ sumE (List.replicate n a) = timesE a n := by
  have h := sumFrom_replicate a ha n 0 (by decide)
  rw [Int.zero_add] at h
  have hnok : okT (n : Int) = true := okT_true.2 (by omega)
  unfold sumV sumE timesV timesE timesOk
  rw [h, ha, hnok]
  cases okT (a * (n : Int)) <;> simp

/-- The i-th of p shares of n. -/
def shareI (n p : Int) (i : Nat) : Int := n / p + if (i : Int) < n % p then 1 else 0
def shareL (n : Int) (p : Nat) : List Int := (List.range p).map (shareI n p)

theorem shareL_len (n : Int) (p : Nat) : (shareL n p).length = p := by simp [shareL]

theorem shareL_get {n : Int} {p i : Nat} (h : i < p) : (shareL n p)[i]? = some (shareI n p i) := by
  simp [shareL, List.getElem?_range h]

theorem sumFrom_shares (n : Int) (p : Nat) (hn : okT n = true) (hp : 0 < p) : ∀ (m k : Nat), m + k = p →
    sumFrom (n / p * k + min (k : Int) (n % p)) ((shareL n p).drop k) = some n := by
  rw [okT_true] at hn
  have hp' : (0 : Int) < p := by omega
  have hd := Int.mul_ediv_add_emod n p
  have hr0 := Int.emod_nonneg n (by omega : (p : Int) ≠ 0)
  have hr1 := Int.emod_lt_of_pos n hp'
  have hq : 0 ≤ n / p := Int.ediv_nonneg hn.1 (by omega)
  intro m
  induction m with
  | zero =>
    intro k hk
    have : k = p := by omega
    subst this
    rw [List.drop_eq_nil_of_le (by rw [shareL_len]; omega), sumFrom]
    rw [Int.mul_comm]
    congr 1
    omega
  | succ m ih =>
    intro k hk
    have hlt : k < p := by omega
    have hlt' : k < (shareL n p).length := by rw [shareL_len]; exact hlt
    rw [List.drop_eq_getElem_cons hlt', sumFrom]
    have hg : (shareL n p)[k] = shareI n p k := by
      have := shareL_get (n := n) hlt
      rw [List.getElem?_eq_getElem hlt'] at this
      exact Option.some.inj this
    rw [hg]
    have hk1 : n / p * ((k : Int) + 1) = n / p * k + n / p := by rw [Int.mul_add, Int.mul_one]
    have hkp : n / p * ((k : Int) + 1) ≤ n / p * p := Int.mul_le_mul_of_nonneg_left (by omega) hq
    have hpp : n / p * p = p * (n / p) := Int.mul_comm _ _
    have hk0 : 0 ≤ n / p * (k : Int) := Int.mul_nonneg hq (by omega)
    have ih' := ih (k + 1) (by omega)
    have hstep : n / p * k + min (k : Int) (n % p) + shareI n p k = n / p * ((k + 1 : Nat) : Int) + min ((k + 1 : Nat) : Int) (n % p) := by
      unfold shareI
      rw [Int.natCast_succ, hk1]
      split <;> omega
    have hsh : 0 ≤ shareI n p k ∧ shareI n p k ≤ n / p + 1 := by unfold shareI; split <;> omega
    have hup : n / p * k + min (k : Int) (n % p) + shareI n p k ≤ n := by
      rw [hstep, Int.natCast_succ, hk1]
      omega
    have hlo : 0 ≤ n / p * k + min (k : Int) (n % p) := by omega
    have h1 : okT (shareI n p k) = true := okT_true.2 (by omega)
    rw [h1, Bool.true_and, decide_eq_true (by omega), if_pos rfl, hstep]
    exact ih'

theorem sum_shares (n : Int) (p : Nat) (hn : okT n = true) (hp : 0 < p) : sumV (shareL n p) = n ∧ sumE (shareL n p) = 0 := by
  have h := sumFrom_shares n p hn hp p 0 (by omega)
  have hr0 := Int.emod_nonneg n (by omega : (p : Int) ≠ 0)
  simp only [List.drop_zero] at h
  rw [show n / (p : Int) * ((0 : Nat) : Int) + min ((0 : Nat) : Int) (n % p) = 0 by simp; omega] at h
  unfold sumV sumE
  rw [h]
  simp

theorem share_falls (n : Int) (p i : Nat) : shareI n p (i + 1) ≤ shareI n p i := by
  unfold shareI; split <;> split <;> omega
theorem share_near (n : Int) (p i j : Nat) : shareI n p i - shareI n p j ≤ 1 := by
  unfold shareI; split <;> split <;> omega
theorem share_pos (n : Int) (p i : Nat) (hn : 0 ≤ n) : 0 ≤ shareI n p i := by
  have : 0 ≤ n / (p : Int) := Int.ediv_nonneg hn (by omega)
  unfold shareI; split <;> omega
theorem share_le (n : Int) (p i : Nat) (hn : 0 ≤ n) : shareI n p i ≤ n + 1 := by
  have : n / (p : Int) ≤ n := by
    rcases Nat.eq_zero_or_pos p with h | h
    · subst h; simp; exact hn
    · exact Int.ediv_le_self _ hn
  unfold shareI; split <;> omega

end Go.Proofs.Ytcfpcffcafjkjaa
