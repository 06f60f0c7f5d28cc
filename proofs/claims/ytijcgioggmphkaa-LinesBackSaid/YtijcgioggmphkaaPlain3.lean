/- Plain facts on lines: where a thing stands, and lines without some pieces. -/
import Derived.Test.YtijcgioggmphkaaPlain2
namespace Go.Proofs.Ytijcgioggmphkaa

/-- Where a thing stands, or would stand; whether it is there. -/
def posK (l : List Ln) (k : ByteArray) : Nat := l.countP fun y => decide (kcmp y.sku k < 0)
def hasK (l : List Ln) (k : ByteArray) : Bool := l.any fun y => decide (y.sku = k)
theorem posK_le (l : List Ln) (k : ByteArray) : posK l k ≤ l.length := List.countP_le_length
theorem posK_cons (x : Ln) (r : List Ln) (k : ByteArray) : posK (x :: r) k = (if kcmp x.sku k < 0 then 1 else 0) + posK r k := by
  unfold posK
  rw [List.countP_cons]
  simp only [decide_eq_true_eq]
  omega
theorem posK_zero {x : Ln} {r : List Ln} {k : ByteArray} (h : sortedK (x :: r)) (hx : ¬ kcmp x.sku k < 0) : posK r k = 0 := by
  unfold posK
  rw [List.countP_eq_zero]
  intro y hy
  have h1 := (List.pairwise_cons.1 h).1 y hy
  simp only [decide_eq_true_eq]
  intro h2
  exact hx (kcmp_trans h1 h2)

theorem pos_iff : ∀ (l : List Ln) (k : ByteArray), sortedK l → ∀ i (h : i < l.length), kcmp l[i].sku k < 0 ↔ i < posK l k
  | [], _, _, i, h => by simp at h
  | x :: r, k, hs, i, h => by
    rw [posK_cons]
    have ih := pos_iff r k (List.pairwise_cons.1 hs).2
    by_cases hx : kcmp x.sku k < 0
    · rw [if_pos hx]
      cases i with
      | zero => simp [hx]; omega
      | succ i =>
        have := ih i (by simpa using h)
        simp only [List.getElem_cons_succ]
        rw [this]
        omega
    · rw [if_neg hx, posK_zero hs hx]
      cases i with
      | zero => simp [hx]
      | succ i =>
        have := ih i (by simpa using h)
        simp only [List.getElem_cons_succ]
        rw [this, posK_zero hs hx]
        omega

theorem has_iff (l : List Ln) (k : ByteArray) : hasK l k = true ↔ ∃ y ∈ l, y.sku = k := by simp [hasK]

theorem has_at {l : List Ln} {k : ByteArray} (hs : sortedK l) (h : hasK l k = true) : ∃ hp : posK l k < l.length, l[posK l k].sku = k := by
  obtain ⟨y, hy, e⟩ := (has_iff l k).1 h
  obtain ⟨i, hi, rfl⟩ := List.mem_iff_getElem.1 hy
  have h1 : ¬ i < posK l k := by
    rw [← pos_iff l k hs i hi, e, kcmp_self]
    omega
  have h2 : ¬ posK l k < i := by
    intro hlt
    have hlt2 : posK l k < l.length := by omega
    have h3 := (List.pairwise_iff_getElem.1 hs) (posK l k) i hlt2 hi hlt
    have h4 : ¬ kcmp l[posK l k].sku k < 0 := by
      rw [pos_iff l k hs _ hlt2]
      omega
    unfold klt at h3
    rw [e] at h3
    exact h4 h3
  have h5 : i = posK l k := by omega
  subst h5
  exact ⟨hi, e⟩

theorem has_cmp {l : List Ln} {k : ByteArray} (hs : sortedK l) (hp : posK l k < l.length) : (kcmp l[posK l k].sku k == 0) = hasK l k := by
  cases h : hasK l k with
  | true =>
    obtain ⟨_, e⟩ := has_at hs h
    rw [beq_iff_eq, kcmp_zero]
    exact e
  | false =>
    rw [beq_eq_false_iff_ne]
    intro e
    have := (has_iff l k).2 ⟨_, List.getElem_mem hp, (kcmp_zero _ _).1 e⟩
    rw [this] at h
    cases h
theorem has_end {l : List Ln} {k : ByteArray} (hs : sortedK l) (hp : ¬ posK l k < l.length) : hasK l k = false := by
  cases h : hasK l k with
  | false => rfl
  | true => exact absurd (has_at hs h).1 hp

/-- A line put in at a place. -/
def putAt (l : List Ln) (i : Nat) (x : Ln) : List Ln := l.take i ++ x :: l.drop i
theorem putAt_len {l : List Ln} {i : Nat} (x : Ln) (h : i ≤ l.length) : (putAt l i x).length = l.length + 1 := by simp [putAt]; omega
theorem putAt_get {l : List Ln} {i : Nat} (x : Ln) (h : i ≤ l.length) : (putAt l i x)[i]? = some x := by
  unfold putAt
  rw [List.getElem?_append_right (by simp; omega)]
  simp [Nat.min_eq_left h]
theorem putAt_set {l : List Ln} {i : Nat} (x y : Ln) (h : i ≤ l.length) : (putAt l i x).set i y = putAt l i y := by
  unfold putAt
  rw [List.set_append_right _ _ (by simp; omega)]
  simp [Nat.min_eq_left h]

theorem addLn_in : ∀ (acc : List Ln) (x : Ln), sortedK acc → hasK acc x.sku = false → addLn acc x = putAt acc (posK acc x.sku) x
  | [], x, _, _ => by simp [addLn, putAt]
  | y :: r, x, hs, h => by
    simp only [hasK, List.any_cons, Bool.or_eq_false_iff, decide_eq_false_iff_not] at h
    have ih := addLn_in r x (List.pairwise_cons.1 hs).2 h.2
    simp only [addLn]
    rw [posK_cons]
    by_cases hx : kcmp y.sku x.sku < 0
    · rw [if_pos hx, if_pos hx, ih]
      simp [putAt, Nat.add_comm 1]
    · rw [if_neg hx, if_neg hx, posK_zero hs hx, if_neg (by rw [kcmp_zero]; exact h.1)]
      simp [putAt]

theorem addLn_there : ∀ (acc : List Ln) (x : Ln) (hs : sortedK acc) (h : hasK acc x.sku = true), addLn acc x = acc.set (posK acc x.sku) { acc[posK acc x.sku]'(has_at hs h).1 with qty := (acc[posK acc x.sku]'(has_at hs h).1).qty + x.qty }
  | [], x, _, h => by simp [hasK] at h
  | y :: r, x, hs, h => by
    simp only [addLn]
    by_cases hx : kcmp y.sku x.sku < 0
    · have hne : ¬ y.sku = x.sku := by
        intro e
        rw [e, kcmp_self] at hx
        omega
      have hr : hasK r x.sku = true := by
        simp only [hasK, List.any_cons, Bool.or_eq_true, decide_eq_true_eq] at h
        rcases h with h | h
        · exact absurd h hne
        · exact h
      have ih := addLn_there r x (List.pairwise_cons.1 hs).2 hr
      have hp : posK (y :: r) x.sku = posK r x.sku + 1 := by rw [posK_cons, if_pos hx]; omega
      rw [if_pos hx, ih]
      simp only [hp, List.getElem_cons_succ, List.set_cons_succ]
    · have hp : posK (y :: r) x.sku = 0 := by rw [posK_cons, if_neg hx, posK_zero hs hx]
      have e : y.sku = x.sku := by
        have := (has_at hs h).2
        simpa only [hp, List.getElem_cons_zero] using this
      rw [if_neg hx, if_pos (by rw [kcmp_zero]; exact e)]
      simp only [hp, List.getElem_cons_zero, List.set_cons_zero]

theorem wBad_in {acc : List Ln} {x : Ln} (h : hasK acc x.sku = false) : wBad acc x = false := by
  rw [wBad, List.any_eq_false]
  intro y hy
  simp only [hasK, List.any_eq_false, decide_eq_true_eq] at h
  simp [h y hy]
theorem wBad_there {acc : List Ln} {x : Ln} (hs : sortedK acc) (h : hasK acc x.sku = true) : wBad acc x = decide ((acc[posK acc x.sku]'(has_at hs h).1).wt ≠ x.wt) := by
  obtain ⟨hp, e⟩ := has_at hs h
  rw [Bool.eq_iff_iff, wBad, List.any_eq_true]
  simp only [Bool.and_eq_true, decide_eq_true_eq]
  constructor
  · rintro ⟨y, hy, e1, e2⟩
    have := same_key hs hy (List.getElem_mem hp) (e1.trans e.symm)
    rwa [this] at e2
  · intro h2
    exact ⟨_, List.getElem_mem hp, e, h2⟩

theorem addLn_bound : ∀ (acc : List Ln) (x : Ln) (B : Int), 0 ≤ B → 0 ≤ x.qty → x.qty ≤ 1000 → (∀ y ∈ acc, 0 ≤ y.qty ∧ y.qty ≤ B) → ∀ y ∈ addLn acc x, 0 ≤ y.qty ∧ y.qty ≤ B + 1000
  | [], x, B, hB, h1, h2, _, y, hy => by simp [addLn] at hy; subst hy; omega
  | z :: r, x, B, hB, h1, h2, h, y, hy => by
    have ih := addLn_bound r x B hB h1 h2 (fun u hu => h u (by simp [hu]))
    have hz := h z (by simp)
    simp only [addLn] at hy
    split at hy
    · rcases List.mem_cons.1 hy with rfl | hy
      · omega
      · exact ih y hy
    · split at hy
      · rcases List.mem_cons.1 hy with rfl | hy
        · simp only; omega
        · have := h y (by simp [hy]); omega
      · rcases List.mem_cons.1 hy with rfl | hy
        · omega
        · have := h y hy; omega

/-- The lines without so many pieces of that thing. -/
def lessB (k : ByteArray) (q : Int) (x : Ln) : Option Ln := if x.sku = k then (if q < x.qty then some { x with qty := x.qty - q } else none) else some x
def takeL (l : List Ln) (k : ByteArray) (q : Int) : List Ln := l.filterMap (lessB k q)
def enoughB (l : List Ln) (k : ByteArray) (q : Int) : Bool := l.any fun x => decide (x.sku = k) && decide (q ≤ x.qty)
def takeV (l : List Ln) (k : ByteArray) (q : Int) : List Ln := if rightLB l && decide (1 ≤ q) && enoughB l k q then takeL l k q else []
def takeE (l : List Ln) (k : ByteArray) (q : Int) : Int := if (takeV l k q).isEmpty then 41 else 0

theorem takeL_none {l : List Ln} {k : ByteArray} {q : Int} (h : ∀ x ∈ l, x.sku ≠ k) : takeL l k q = l := by
  induction l with
  | nil => rfl
  | cons x r ih =>
    unfold takeL at ih ⊢
    rw [List.filterMap_cons, lessB, if_neg (h x (by simp))]
    simp only
    rw [ih (fun y hy => h y (by simp [hy]))]

theorem sorted_split {A B : List Ln} {x : Ln} (hs : sortedK (A ++ x :: B)) : (∀ y ∈ A, y.sku ≠ x.sku) ∧ (∀ y ∈ B, y.sku ≠ x.sku) := by
  obtain ⟨_, h2, h3⟩ := List.pairwise_append.1 hs
  refine ⟨fun y hy e => ?_, fun y hy e => ?_⟩
  · have := h3 y hy x (by simp)
    unfold klt at this
    rw [e, kcmp_self] at this
    omega
  · have := (List.pairwise_cons.1 h2).1 y hy
    unfold klt at this
    rw [e, kcmp_self] at this
    omega

theorem takeL_split {A B : List Ln} {x : Ln} (q : Int) (hs : sortedK (A ++ x :: B)) : takeL (A ++ x :: B) x.sku q = A ++ ((if q < x.qty then [{ x with qty := x.qty - q }] else []) ++ B) := by
  obtain ⟨h1, h2⟩ := sorted_split hs
  have e1 := takeL_none (q := q) h1
  have e2 := takeL_none (q := q) h2
  unfold takeL at e1 e2 ⊢
  rw [List.filterMap_append, List.filterMap_cons, e1, e2, lessB, if_pos rfl]
  split <;> rename_i h
  · split at h
    · cases h
    · rename_i hq
      rw [if_neg hq]
      rfl
  · split at h
    · rename_i hq
      cases h
      rw [if_pos hq]
      rfl
    · cases h

theorem enough_split {A B : List Ln} {x : Ln} (q : Int) (hs : sortedK (A ++ x :: B)) : enoughB (A ++ x :: B) x.sku q = decide (q ≤ x.qty) := by
  obtain ⟨h1, h2⟩ := sorted_split hs
  rw [Bool.eq_iff_iff, enoughB, List.any_eq_true]
  simp only [Bool.and_eq_true, decide_eq_true_eq]
  constructor
  · rintro ⟨y, hy, e, h⟩
    rcases List.mem_append.1 hy with hy | hy
    · exact absurd e (h1 y hy)
    · rcases List.mem_cons.1 hy with rfl | hy
      · exact h
      · exact absurd e (h2 y hy)
  · intro h
    exact ⟨x, by simp, rfl, h⟩
theorem enough_none {l : List Ln} {k : ByteArray} (q : Int) (h : hasK l k = false) : enoughB l k q = false := by
  rw [enoughB, List.any_eq_false]
  intro y hy
  simp only [hasK, List.any_eq_false, decide_eq_true_eq] at h
  simp [h y hy]

theorem split_at (l : List Ln) (p : Nat) (h : p < l.length) : l = l.take p ++ l[p] :: l.drop (p + 1) := by
  rw [← List.drop_eq_getElem_cons h, List.take_append_drop]

/-- What Take comes to, where the thing is there. -/
theorem takeL_at {l : List Ln} (q : Int) (p : Nat) (h : p < l.length) (hs : sortedK l) : takeL l l[p].sku q = if q < l[p].qty then l.set p { l[p] with qty := l[p].qty - q } else l.take p ++ l.drop (p + 1) := by
  have e := split_at l p h
  have hs' := hs
  rw [e] at hs'
  have := takeL_split q hs'
  rw [← e] at this
  rw [this]
  split
  · rw [List.set_eq_take_append_cons_drop, if_pos h]
    rfl
  · rfl
theorem enough_at {l : List Ln} (q : Int) (p : Nat) (h : p < l.length) (hs : sortedK l) : enoughB l l[p].sku q = decide (q ≤ l[p].qty) := by
  have e := split_at l p h
  have hs' := hs
  rw [e] at hs'
  have := enough_split q hs'
  rwa [← e] at this

structure Took (l t : List Ln) (x : Ln) (q : Int) : Prop where
  pieces : sumQ t + q = sumQ l
  heavy : sumW t + q * x.wt = sumW l
  right : t ≠ [] → rightLB t = true
  nil : t = [] ↔ l.length = 1 ∧ q = x.qty
  back : IsM (t ++ [{ x with qty := q }]) l

theorem took {l : List Ln} {x : Ln} {q : Int} (hr : rightLB l = true) (hx : x ∈ l) (h1 : 1 ≤ q) (h2 : q ≤ x.qty) : Took l (takeL l x.sku q) x q := by
  obtain ⟨⟨_, hl8⟩, hline, hs⟩ := (rightLB_iff _).1 hr
  obtain ⟨A, B, rfl⟩ := List.append_of_mem hx
  have hxl := lineB_of (hline x (by simp))
  rw [takeL_split q hs]
  have hsort : sortedK (A ++ ((if q < x.qty then [{ x with qty := x.qty - q }] else []) ++ B)) := by
    obtain ⟨a1, a2, a3⟩ := List.pairwise_append.1 hs
    obtain ⟨b1, b2⟩ := List.pairwise_cons.1 a2
    split
    · refine List.pairwise_append.2 ⟨a1, List.pairwise_cons.2 ⟨fun y hy => b1 y hy, b2⟩, fun u hu v hv => ?_⟩
      rcases List.mem_cons.1 hv with rfl | hv
      · exact a3 u hu x (by simp)
      · exact a3 u hu v (List.mem_cons_of_mem _ hv)
    · refine List.pairwise_append.2 ⟨a1, b2, fun u hu v hv => ?_⟩
      exact a3 u hu v (by simp at hv; simp [hv])
  have hln : ∀ y ∈ A ++ ((if q < x.qty then [{ x with qty := x.qty - q }] else []) ++ B), lineB y = true := by
    intro y hy
    simp only [List.mem_append] at hy
    rcases hy with hy | hy | hy
    · exact hline y (by simp [hy])
    · split at hy
      · rw [List.mem_singleton] at hy
        subst hy
        exact lineB_mk hxl.1 (by simp only; omega)
      · simp at hy
    · exact hline y (by simp [hy])
  refine ⟨?_, ?_, ?_, ?_, ?_⟩
  · simp only [sumQ_append, sumQ_cons]
    split
    · simp only [sumQ_cons, sumQ_nil]; omega
    · simp only [sumQ_nil]; omega
  · simp only [sumW_append, sumW_cons]
    split
    · simp only [sumW_cons, sumW_nil, Int.sub_mul]; omega
    · have : q = x.qty := by omega
      subst this
      simp only [sumW_nil]; omega
  · intro hne
    rw [rightLB_iff]
    refine ⟨⟨List.length_pos_iff.2 hne, ?_⟩, hln, hsort⟩
    simp only [List.length_append, List.length_cons] at hl8 ⊢
    split
    · simp only [List.length_singleton]; omega
    · simp only [List.length_nil]; omega
  · simp only [List.append_eq_nil_iff, List.length_append, List.length_cons]
    constructor
    · rintro ⟨rfl, h, rfl⟩
      split at h
      · simp at h
      · exact ⟨rfl, by omega⟩
    · rintro ⟨h3, h4⟩
      have ha : A = [] := List.eq_nil_of_length_eq_zero (by omega)
      have hb : B = [] := List.eq_nil_of_length_eq_zero (by omega)
      exact ⟨ha, by rw [if_neg (by omega)], hb⟩
  · have htot : ∀ k, totQ (A ++ x :: B) k = totQ (A ++ ((if q < x.qty then [{ x with qty := x.qty - q }] else []) ++ B) ++ [{ x with qty := q }]) k := by
      intro k
      by_cases hq : q < x.qty
      · simp only [if_pos hq, totQ_append, totQ_cons, totQ_nil]
        split <;> omega
      · simp only [if_neg hq, totQ_append, totQ_cons, totQ_nil]
        split <;> omega
    refine ⟨?_, hr, ?_, htot, ?_⟩
    · intro y hy
      rcases List.mem_append.1 hy with hy | hy
      · exact hln y hy
      · rw [List.mem_singleton] at hy
        subst hy
        exact lineB_mk hxl.1 (by simp only; omega)
    · intro y hy
      rcases List.mem_append.1 hy with hy | hy
      · exact ⟨y, by simp [hy], rfl⟩
      · rcases List.mem_cons.1 hy with rfl | hy
        · exact ⟨{ y with qty := q }, by simp, rfl⟩
        · exact ⟨y, by simp [hy], rfl⟩
    · intro y hy
      simp only [List.mem_append, List.mem_singleton] at hy
      rcases hy with (hy | hy | hy) | hy
      · exact ⟨y, by simp [hy], rfl, rfl⟩
      · split at hy
        · rw [List.mem_singleton] at hy
          subst hy
          exact ⟨x, by simp, rfl, rfl⟩
        · simp at hy
      · exact ⟨y, by simp [hy], rfl, rfl⟩
      · subst hy
        exact ⟨x, by simp, rfl, rfl⟩

end Go.Proofs.Ytijcgioggmphkaa
