/- Plain facts on lines, as lists: which can be, each thing once, without some pieces: no program is walked here. -/
import Derived.Test.YtijcgioggmphkaaCmp
namespace Go.Proofs.Ytijcgioggmphkaa

/-- A line: what it is called, how many pieces, how heavy one is. -/
structure Ln where
  sku : ByteArray
  qty : Int
  wt : Int

def kcmp (a b : ByteArray) : Int := cmpL a.data.toList b.data.toList

theorem kcmp_three (a b : ByteArray) : kcmp a b = -1 ∨ kcmp a b = 0 ∨ kcmp a b = 1 := cmpL_three _ _
theorem kcmp_swap (a b : ByteArray) : kcmp b a = - kcmp a b := cmpL_swap _ _
theorem kcmp_zero (a b : ByteArray) : kcmp a b = 0 ↔ a = b := by
  unfold kcmp
  rw [cmpL_zero]
  constructor
  · intro h
    cases a; cases b
    simp only at h
    rw [Array.toList_inj] at h
    rw [h]
  · rintro rfl; rfl
theorem kcmp_self (a : ByteArray) : kcmp a a = 0 := (kcmp_zero a a).2 rfl
theorem kcmp_trans {a b c : ByteArray} (h1 : kcmp a b < 0) (h2 : kcmp b c < 0) : kcmp a c < 0 := by
  have h := cmpL_trans _ _ _ (Int.le_of_lt h1) (Int.le_of_lt h2)
  rcases Int.lt_or_eq_of_le h with h | h
  · exact h
  · have := (kcmp_zero a c).1 h
    subst this
    have := kcmp_swap a b
    omega

def lineB (x : Ln) : Bool := rightB x.sku.data.toList && decide (1 ≤ x.qty ∧ x.qty ≤ 1000 ∧ 0 ≤ x.wt ∧ x.wt ≤ 100000)
theorem lineB_of {x : Ln} (h : lineB x = true) : rightB x.sku.data.toList = true ∧ 1 ≤ x.qty ∧ x.qty ≤ 1000 ∧ 0 ≤ x.wt ∧ x.wt ≤ 100000 := by simpa [lineB] using h
theorem lineB_mk {x : Ln} (h0 : rightB x.sku.data.toList = true) (h : 1 ≤ x.qty ∧ x.qty ≤ 1000 ∧ 0 ≤ x.wt ∧ x.wt ≤ 100000) : lineB x = true := by simp [lineB, h0, h]

def klt (a b : Ln) : Prop := kcmp a.sku b.sku < 0
theorem klt_irr {a : Ln} (h : klt a a) : False := by unfold klt at h; rw [kcmp_self] at h; omega
theorem klt_asym {a b : Ln} (h1 : klt a b) (h2 : klt b a) : False := klt_irr (a := a) (kcmp_trans h1 h2)
abbrev sortedK (l : List Ln) : Prop := l.Pairwise klt

/-- Stands x behind the line p? -/
def behindB (p : Option Ln) (x : Ln) : Bool := match p with | none => true | some y => decide (kcmp y.sku x.sku < 0)
/-- The lines of l behind the line p. -/
def goodFrom (p : Option Ln) : List Ln → Bool
  | [] => true
  | x :: r => lineB x && behindB p x && goodFrom (some x) r
def rightLB (l : List Ln) : Bool := decide (1 ≤ l.length ∧ l.length ≤ 8) && goodFrom none l

theorem goodFrom_some : ∀ (l : List Ln) (p : Ln), goodFrom (some p) l = true ↔ (∀ x ∈ l, lineB x = true) ∧ sortedK (p :: l)
  | [], p => by simp [goodFrom, sortedK]
  | x :: r, p => by
    have ih := goodFrom_some r x
    simp only [goodFrom, behindB, Bool.and_eq_true, decide_eq_true_eq, ih]
    constructor
    · rintro ⟨⟨h1, h2⟩, h3, h4⟩
      refine ⟨?_, ?_⟩
      · intro y hy
        rcases List.mem_cons.1 hy with rfl | hy
        · exact h1
        · exact h3 y hy
      · rw [sortedK, List.pairwise_cons]
        refine ⟨?_, h4⟩
        intro y hy
        rcases List.mem_cons.1 hy with rfl | hy
        · exact h2
        · exact kcmp_trans h2 ((List.pairwise_cons.1 h4).1 y hy)
    · rintro ⟨h1, h2⟩
      obtain ⟨h3, h4⟩ := List.pairwise_cons.1 h2
      exact ⟨⟨h1 x (by simp), h3 x (by simp)⟩, fun y hy => h1 y (by simp [hy]), h4⟩

theorem goodFrom_none (l : List Ln) : goodFrom none l = true ↔ (∀ x ∈ l, lineB x = true) ∧ sortedK l := by
  cases l with
  | nil => simp [goodFrom, sortedK]
  | cons x r =>
    simp only [goodFrom, behindB, Bool.and_true, Bool.and_eq_true, goodFrom_some]
    constructor
    · rintro ⟨h1, h3, h4⟩
      refine ⟨?_, h4⟩
      intro y hy
      rcases List.mem_cons.1 hy with rfl | hy
      · exact h1
      · exact h3 y hy
    · rintro ⟨h1, h2⟩
      exact ⟨h1 x (by simp), fun y hy => h1 y (by simp [hy]), h2⟩

theorem rightLB_iff (l : List Ln) : rightLB l = true ↔ (1 ≤ l.length ∧ l.length ≤ 8) ∧ (∀ x ∈ l, lineB x = true) ∧ sortedK l := by
  simp only [rightLB, Bool.and_eq_true, decide_eq_true_eq, goodFrom_none]

/-- The line ahead of a place. -/
def prevAt (l : List Ln) (k : Nat) : Option Ln := if k = 0 then none else l[k - 1]?
theorem goodFrom_step (l : List Ln) (k : Nat) (h : k < l.length) : goodFrom (prevAt l k) (l.drop k) = (lineB l[k] && behindB (prevAt l k) l[k] && goodFrom (prevAt l (k + 1)) (l.drop (k + 1))) := by
  rw [List.drop_eq_getElem_cons h, goodFrom]
  have : prevAt l (k + 1) = some l[k] := by simp [prevAt, h]
  rw [this]

def sumQ (l : List Ln) : Int := (l.map (·.qty)).sum
def sumW (l : List Ln) : Int := (l.map (fun x => x.qty * x.wt)).sum
theorem sumQ_nil : sumQ [] = 0 := rfl
theorem sumW_nil : sumW [] = 0 := rfl
theorem sumQ_cons (x : Ln) (l : List Ln) : sumQ (x :: l) = x.qty + sumQ l := by simp [sumQ]
theorem sumW_cons (x : Ln) (l : List Ln) : sumW (x :: l) = x.qty * x.wt + sumW l := by simp [sumW]
theorem sumQ_append (a b : List Ln) : sumQ (a ++ b) = sumQ a + sumQ b := by simp [sumQ]
theorem sumW_append (a b : List Ln) : sumW (a ++ b) = sumW a + sumW b := by simp [sumW]

theorem prod_bound {x : Ln} (h : lineB x = true) : 0 ≤ x.qty * x.wt ∧ x.qty * x.wt ≤ 100000000 := by
  obtain ⟨_, h1, h2, h3, h4⟩ := lineB_of h
  refine ⟨Int.mul_nonneg (by omega) h3, ?_⟩
  have := Int.mul_le_mul h2 h4 h3 (by omega : (0 : Int) ≤ 1000)
  omega

theorem sum_bound : ∀ (l : List Ln), (∀ x ∈ l, lineB x = true) → 0 ≤ sumQ l ∧ sumQ l ≤ 1000 * l.length ∧ 0 ≤ sumW l ∧ sumW l ≤ 100000000 * l.length
  | [], _ => by simp [sumQ, sumW]
  | x :: r, h => by
    have ih := sum_bound r (fun y hy => h y (by simp [hy]))
    have h1 := lineB_of (h x (by simp))
    have h2 := prod_bound (h x (by simp))
    rw [sumQ_cons, sumW_cons, List.length_cons]
    omega

def piecesV (l : List Ln) : Int := if rightLB l then sumQ l else 0
def weightV (l : List Ln) : Int := if rightLB l then sumW l else 0

/-- A line put to those that are merged already. -/
def addLn : List Ln → Ln → List Ln
  | [], x => [x]
  | y :: r, x => if kcmp y.sku x.sku < 0 then y :: addLn r x else if kcmp y.sku x.sku = 0 then { y with qty := y.qty + x.qty } :: r else x :: y :: r

theorem addLn_len : ∀ (l : List Ln) (x : Ln), l.length ≤ (addLn l x).length ∧ (addLn l x).length ≤ l.length + 1
  | [], _ => by simp [addLn]
  | y :: r, x => by
    have := addLn_len r x
    simp only [addLn]
    split
    · simp; omega
    · split <;> simp

theorem addLn_keys : ∀ (l : List Ln) (x : Ln) (k : ByteArray), (∃ y ∈ addLn l x, y.sku = k) ↔ (∃ y ∈ l, y.sku = k) ∨ x.sku = k
  | [], x, k => by simp [addLn]
  | y :: r, x, k => by
    have ih := addLn_keys r x k
    simp only [addLn]
    split
    · simp only [List.mem_cons, exists_eq_or_imp, ih]
      rw [or_assoc]
    · split
      · rename_i h2
        have := (kcmp_zero _ _).1 h2
        simp only [List.mem_cons, exists_eq_or_imp]
        rw [this]
        constructor
        · rintro (h | h)
          · exact Or.inr h
          · exact Or.inl (Or.inr h)
        · rintro ((h | h) | h)
          · exact Or.inl h
          · exact Or.inr h
          · exact Or.inl h
      · simp only [List.mem_cons, exists_eq_or_imp]
        constructor
        · rintro (h | h)
          · exact Or.inr h
          · exact Or.inl h
        · rintro (h | h)
          · exact Or.inr h
          · exact Or.inl h

theorem addLn_sorted : ∀ (l : List Ln) (x : Ln), sortedK l → sortedK (addLn l x)
  | [], x, _ => by simp [addLn, sortedK]
  | y :: r, x, h => by
    obtain ⟨h1, h2⟩ := List.pairwise_cons.1 h
    have ih := addLn_sorted r x h2
    simp only [addLn]
    split
    · rename_i hlt
      rw [sortedK, List.pairwise_cons]
      refine ⟨?_, ih⟩
      intro z hz
      rcases (addLn_keys r x z.sku).1 ⟨z, hz, rfl⟩ with ⟨u, hu, e⟩ | e
      · have := h1 u hu
        unfold klt at this ⊢
        rwa [e] at this
      · unfold klt
        rwa [← e]
    · split
      · rw [sortedK, List.pairwise_cons]
        exact ⟨fun z hz => h1 z hz, h2⟩
      · rename_i hn hz
        have hxy : klt x y := by
          unfold klt
          have := kcmp_swap y.sku x.sku
          rcases kcmp_three y.sku x.sku with e | e | e <;> omega
        rw [sortedK, List.pairwise_cons]
        refine ⟨?_, h⟩
        intro z hz
        rcases List.mem_cons.1 hz with rfl | hz
        · exact hxy
        · exact kcmp_trans hxy (h1 z hz)

/-- All pieces of one thing. -/
def totQ (l : List Ln) (k : ByteArray) : Int := (l.map (fun x => if x.sku = k then x.qty else 0)).sum
theorem totQ_nil (k) : totQ [] k = 0 := rfl
theorem totQ_cons (x : Ln) (l k) : totQ (x :: l) k = (if x.sku = k then x.qty else 0) + totQ l k := by simp [totQ]
theorem totQ_append (a b : List Ln) (k) : totQ (a ++ b) k = totQ a k + totQ b k := by simp [totQ]
theorem totQ_none : ∀ (l : List Ln) (k : ByteArray), (∀ x ∈ l, x.sku ≠ k) → totQ l k = 0
  | [], _, _ => rfl
  | x :: r, k, h => by
    rw [totQ_cons, if_neg (h x (by simp)), totQ_none r k (fun y hy => h y (by simp [hy]))]; rfl
theorem totQ_sorted : ∀ (l : List Ln), sortedK l → ∀ y ∈ l, totQ l y.sku = y.qty
  | [], _, y, hy => by simp at hy
  | x :: r, h, y, hy => by
    obtain ⟨h1, h2⟩ := List.pairwise_cons.1 h
    rw [totQ_cons]
    rcases List.mem_cons.1 hy with rfl | hy
    · rw [if_pos rfl, totQ_none r _ (fun z hz e => by have := h1 z hz; unfold klt at this; rw [e, kcmp_self] at this; omega)]
      omega
    · rw [if_neg (fun e => by have := h1 y hy; unfold klt at this; rw [e, kcmp_self] at this; omega), totQ_sorted r h2 y hy]
      omega
theorem totQ_nonneg : ∀ (l : List Ln) (k : ByteArray), (∀ x ∈ l, 0 ≤ x.qty) → 0 ≤ totQ l k
  | [], _, _ => by simp [totQ]
  | x :: r, k, h => by
    have ih := totQ_nonneg r k (fun y hy => h y (by simp [hy]))
    have := h x (by simp)
    rw [totQ_cons]
    split <;> omega
theorem totQ_pos : ∀ (l : List Ln) (k : ByteArray), (∀ x ∈ l, 1 ≤ x.qty) → (∃ x ∈ l, x.sku = k) → 1 ≤ totQ l k
  | [], _, _, h => by obtain ⟨x, hx, _⟩ := h; simp at hx
  | x :: r, k, h, he => by
    have hx := h x (by simp)
    have hn := totQ_nonneg r k (fun y hy => by have := h y (by simp [hy]); omega)
    rw [totQ_cons]
    by_cases e : x.sku = k
    · rw [if_pos e]; omega
    · rw [if_neg e]
      have : 1 ≤ totQ r k := totQ_pos r k (fun y hy => h y (by simp [hy])) (by
        obtain ⟨y, hy, hk⟩ := he
        rcases List.mem_cons.1 hy with rfl | hy
        · exact absurd hk e
        · exact ⟨y, hy, hk⟩)
      omega
theorem totQ_perm {a b : List Ln} (h : a.Perm b) (k : ByteArray) : totQ a k = totQ b k := by
  induction h with
  | nil => rfl
  | cons x _ ih => rw [totQ_cons, totQ_cons, ih]
  | swap x y l => simp only [totQ_cons]; omega
  | trans _ _ h1 h2 => exact h1.trans h2

theorem addLn_totQ : ∀ (l : List Ln) (x : Ln) (k : ByteArray), totQ (addLn l x) k = totQ l k + if x.sku = k then x.qty else 0
  | [], x, k => by simp [addLn, totQ]
  | y :: r, x, k => by
    have ih := addLn_totQ r x k
    simp only [addLn]
    split
    · rw [totQ_cons, totQ_cons, ih]; omega
    · split
      · rename_i h2
        have := (kcmp_zero _ _).1 h2
        rw [totQ_cons, totQ_cons, ← this]
        simp only
        split <;> omega
      · rw [totQ_cons, totQ_cons]
        omega

/-- A line of l has another weight than x, though they are of one thing. -/
def wBad (l : List Ln) (x : Ln) : Bool := l.any fun y => decide (y.sku = x.sku) && decide (y.wt ≠ x.wt)

/-- Does each thing weigh the same, wherever it stands? -/
def consB (acc : List Ln) : List Ln → Bool
  | [] => true
  | x :: r => !wBad acc x && consB (addLn acc x) r

def mergeF (acc l : List Ln) : List Ln := l.foldl addLn acc
theorem mergeF_cons (acc : List Ln) (x : Ln) (l : List Ln) : mergeF acc (x :: l) = mergeF (addLn acc x) l := rfl
theorem mergeF_len : ∀ (l acc : List Ln), acc.length ≤ (mergeF acc l).length
  | [], acc => Nat.le_refl _
  | x :: r, acc => by
    rw [mergeF_cons]
    have := mergeF_len r (addLn acc x)
    have := addLn_len acc x
    omega
theorem mergeF_sorted : ∀ (l acc : List Ln), sortedK acc → sortedK (mergeF acc l)
  | [], _, h => h
  | x :: r, acc, h => by rw [mergeF_cons]; exact mergeF_sorted r _ (addLn_sorted acc x h)
theorem mergeF_keys : ∀ (l acc : List Ln) (k : ByteArray), (∃ y ∈ mergeF acc l, y.sku = k) ↔ (∃ y ∈ acc, y.sku = k) ∨ ∃ x ∈ l, x.sku = k
  | [], acc, k => by simp [mergeF]
  | x :: r, acc, k => by
    rw [mergeF_cons, mergeF_keys r (addLn acc x) k, addLn_keys]
    simp only [List.mem_cons, exists_eq_or_imp]
    rw [or_assoc]
theorem mergeF_totQ : ∀ (l acc : List Ln) (k : ByteArray), totQ (mergeF acc l) k = totQ acc k + totQ l k
  | [], acc, k => by simp [mergeF, totQ]
  | x :: r, acc, k => by
    rw [mergeF_cons, mergeF_totQ r (addLn acc x) k, addLn_totQ, totQ_cons]
    omega

/-- What Merge comes to, step by step. -/
def mergeG : List Ln → List Ln → Option (List Ln)
  | acc, [] => if rightLB acc then some acc else none
  | acc, x :: r => if lineB x = false then none else if wBad acc x = true then none else if 8 < (addLn acc x).length then none else mergeG (addLn acc x) r

theorem mergeG_eq : ∀ (l acc : List Ln), mergeG acc l = if (∀ x ∈ l, lineB x = true) ∧ consB acc l = true ∧ rightLB (mergeF acc l) = true then some (mergeF acc l) else none
  | [], acc => by simp [mergeG, consB, mergeF]
  | x :: r, acc => by
    rw [mergeG, mergeG_eq r (addLn acc x), mergeF_cons]
    cases h1 : lineB x with
    | false =>
      rw [if_pos rfl, if_neg]
      rintro ⟨h, _⟩
      have := h x (by simp)
      rw [h1] at this; cases this
    | true =>
      rw [if_neg (by simp)]
      cases h2 : wBad acc x with
      | true => simp [consB, h2]
      | false =>
        rw [if_neg (by simp)]
        by_cases h3 : 8 < (addLn acc x).length
        · rw [if_pos h3, if_neg]
          rintro ⟨_, _, h⟩
          have := ((rightLB_iff _).1 h).1.2
          have := mergeF_len r (addLn acc x)
          omega
        · rw [if_neg h3]
          simp [consB, h1, h2]

def mergeV (l : List Ln) : List Ln := (mergeG [] l).getD []
def mergeE (l : List Ln) : Int := if (mergeV l).isEmpty then 41 else 0

/-- m is what l comes to, each thing once. -/
structure IsM (l m : List Ln) : Prop where
  line : ∀ x ∈ l, lineB x = true
  right : rightLB m = true
  from_ : ∀ y ∈ m, ∃ x ∈ l, x.sku = y.sku
  tot : ∀ k, totQ m k = totQ l k
  wt : ∀ x ∈ l, ∃ y ∈ m, y.sku = x.sku ∧ y.wt = x.wt

theorem sorted_ext : ∀ (a b : List Ln), sortedK a → sortedK b → (∀ z, z ∈ a ↔ z ∈ b) → a = b
  | [], [], _, _, _ => rfl
  | [], y :: b, _, _, h => by have := (h y).2 (by simp); simp at this
  | x :: a, [], _, _, h => by have := (h x).1 (by simp); simp at this
  | x :: a, y :: b, ha, hb, h => by
    obtain ⟨a1, a2⟩ := List.pairwise_cons.1 ha
    obtain ⟨b1, b2⟩ := List.pairwise_cons.1 hb
    have e : x = y := by
      rcases List.mem_cons.1 ((h x).1 (by simp)) with e | hx
      · exact e
      · rcases List.mem_cons.1 ((h y).2 (by simp)) with e | hy
        · exact e.symm
        · exact (klt_asym (a1 y hy) (b1 x hx)).elim
    subst e
    rw [sorted_ext a b a2 b2 (fun z => ?_)]
    constructor
    · intro hz
      rcases List.mem_cons.1 ((h z).1 (by simp [hz])) with rfl | hz'
      · exact (klt_irr (a1 z hz)).elim
      · exact hz'
    · intro hz
      rcases List.mem_cons.1 ((h z).2 (by simp [hz])) with rfl | hz'
      · exact (klt_irr (b1 z hz)).elim
      · exact hz'

theorem same_key {m : List Ln} (s : sortedK m) {u z : Ln} (hu : u ∈ m) (hz : z ∈ m) (e : u.sku = z.sku) : u = z := by
  induction m with
  | nil => simp at hu
  | cons x r ih =>
    obtain ⟨a1, a2⟩ := List.pairwise_cons.1 s
    rcases List.mem_cons.1 hu with hu | hu
    · rcases List.mem_cons.1 hz with hz | hz
      · rw [hu, hz]
      · have := a1 z hz; unfold klt at this; rw [← hu, e, kcmp_self] at this; omega
    · rcases List.mem_cons.1 hz with hz | hz
      · have := a1 u hu; unfold klt at this; rw [← hz, e, kcmp_self] at this; omega
      · exact ih a2 hu hz

theorem IsM.sub {l m m' : List Ln} (h : IsM l m) (h' : IsM l m') : ∀ z ∈ m, z ∈ m' := by
  intro z hz
  obtain ⟨x, hx, e⟩ := h.from_ z hz
  obtain ⟨y, hy, e1, e2⟩ := h'.wt x hx
  obtain ⟨u, hu, e3, e4⟩ := h.wt x hx
  have s := ((rightLB_iff _).1 h.right).2.2
  have s' := ((rightLB_iff _).1 h'.right).2.2
  have q1 := totQ_sorted m s z hz
  have q2 := totQ_sorted m' s' y hy
  have q3 := totQ_sorted m s u hu
  have huz : u = z := same_key s hu hz (e3.trans e)
  subst huz
  have : y = u := by
    cases y; cases u
    simp only at *
    rw [h.tot] at q1
    rw [h'.tot] at q2
    subst e4 e2
    rw [e1, ← e3, q1] at q2
    subst q2
    rw [e1, e3]
  exact this ▸ hy
end Go.Proofs.Ytijcgioggmphkaa
