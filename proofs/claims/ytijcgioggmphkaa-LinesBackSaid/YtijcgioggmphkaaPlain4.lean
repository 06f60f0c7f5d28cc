/- Plain facts on the document's way of merging: the least thing behind another, and all its pieces. -/
import Derived.Test.YtijcgioggmphkaaPlain3
namespace Go.Proofs.Ytijcgioggmphkaa

def noK : ByteArray := ⟨#[]⟩

theorem kle_trans {a b c : ByteArray} (h1 : kcmp a b ≤ 0) (h2 : kcmp b c ≤ 0) : kcmp a c ≤ 0 := cmpL_trans _ _ _ h1 h2
theorem kcmp_none {a : ByteArray} (h : a ≠ noK) : 0 < kcmp a noK := by
  have h3 := kcmp_three a noK
  have hz : kcmp a noK ≠ 0 := fun e => h ((kcmp_zero _ _).1 e)
  have hn : kcmp a noK ≠ -1 := by
    unfold kcmp noK
    cases e : a.data.toList with
    | nil => simp [cmpL_nn]
    | cons x r => rw [show (ByteArray.mk #[]).data.toList = [] from rfl, cmpL_cn]; omega
  omega

/-- The least thing so far, behind last. -/
def leastS (last acc : ByteArray) (x : Ln) : ByteArray := if 0 < kcmp x.sku last ∧ (acc = noK ∨ kcmp x.sku acc < 0) then x.sku else acc
def leastF (last acc : ByteArray) (l : List Ln) : ByteArray := l.foldl (leastS last) acc
theorem leastF_nil (last acc) : leastF last acc [] = acc := rfl
theorem leastF_cons (last acc) (x : Ln) (l : List Ln) : leastF last acc (x :: l) = leastF last (leastS last acc x) l := rfl

theorem least_spec (last : ByteArray) : ∀ (l : List Ln) (acc : ByteArray), (∀ x ∈ l, x.sku ≠ noK) →
    (leastF last acc l = acc ∨ ∃ x ∈ l, x.sku = leastF last acc l ∧ 0 < kcmp x.sku last) ∧
    (∀ x ∈ l, 0 < kcmp x.sku last → leastF last acc l ≠ noK ∧ kcmp (leastF last acc l) x.sku ≤ 0) ∧
    (acc ≠ noK → leastF last acc l ≠ noK ∧ kcmp (leastF last acc l) acc ≤ 0)
  | [], acc, _ => by
    refine ⟨Or.inl rfl, by simp, fun h => ⟨h, ?_⟩⟩
    rw [leastF_nil, kcmp_self]; omega
  | x :: r, acc, h => by
    have hx := h x (by simp)
    obtain ⟨i1, i2, i3⟩ := least_spec last r (leastS last acc x) (fun y hy => h y (by simp [hy]))
    rw [leastF_cons]
    generalize hR : leastF last (leastS last acc x) r = R at *
    unfold leastS at i1 i3
    by_cases hc : 0 < kcmp x.sku last ∧ (acc = noK ∨ kcmp x.sku acc < 0)
    · rw [if_pos hc] at i1 i3
      obtain ⟨j1, j2⟩ := i3 hx
      refine ⟨?_, ?_, ?_⟩
      · rcases i1 with e | ⟨y, hy, e⟩
        · exact Or.inr ⟨x, by simp, e.symm, hc.1⟩
        · exact Or.inr ⟨y, by simp [hy], e⟩
      · intro y hy hl
        rcases List.mem_cons.1 hy with rfl | hy
        · exact ⟨j1, j2⟩
        · exact i2 y hy hl
      · intro ha
        refine ⟨j1, kle_trans j2 ?_⟩
        rcases hc.2 with e | e
        · exact absurd e ha
        · omega
    · rw [if_neg hc] at i1 i3
      refine ⟨?_, ?_, i3⟩
      · rcases i1 with e | ⟨y, hy, e⟩
        · exact Or.inl e
        · exact Or.inr ⟨y, by simp [hy], e⟩
      · intro y hy hl
        rcases List.mem_cons.1 hy with rfl | hy
        · have ha : acc ≠ noK := fun e => hc ⟨hl, Or.inl e⟩
          have hb : ¬ kcmp y.sku acc < 0 := fun e => hc ⟨hl, Or.inr e⟩
          obtain ⟨j1, j2⟩ := i3 ha
          refine ⟨j1, kle_trans j2 ?_⟩
          rw [kcmp_swap]; omega
        · exact i2 y hy hl

/-- The thing ahead of a place. -/
def lastAt (M : List Ln) : Nat → ByteArray
  | 0 => noK
  | j + 1 => ((M[j]?).map (·.sku)).getD noK
theorem lastAt_succ {M : List Ln} {j : Nat} (h : j < M.length) : lastAt M (j + 1) = M[j].sku := by simp [lastAt, h]

theorem least_at {M l : List Ln} {k : Nat} (hs : sortedK M) (hk : ∀ q, (∃ y ∈ M, y.sku = q) ↔ ∃ x ∈ l, x.sku = q) (hn : ∀ x ∈ l, x.sku ≠ noK) (hkl : k ≤ M.length) :
    leastF (lastAt M k) noK l = ((M[k]?).map (·.sku)).getD noK := by
  have hpos : ∀ i (h : i < M.length), 0 < kcmp M[i].sku (lastAt M k) ↔ k ≤ i := by
    intro i h
    cases k with
    | zero =>
      obtain ⟨x, hx, e⟩ := (hk M[i].sku).1 ⟨_, List.getElem_mem h, rfl⟩
      have := kcmp_none (a := M[i].sku) (by rw [← e]; exact hn x hx)
      simp only [lastAt]
      constructor
      · intro _; omega
      · intro _; exact this
    | succ j =>
      have hj : j < M.length := by omega
      rw [lastAt_succ hj]
      have hp := List.pairwise_iff_getElem.1 hs
      constructor
      · intro hlt
        rcases Nat.lt_trichotomy i j with h1 | h1 | h1
        · have := hp i j h hj h1
          unfold klt at this
          omega
        · subst h1
          rw [kcmp_self] at hlt
          omega
        · omega
      · intro hji
        have := hp j i hj h (by omega)
        unfold klt at this
        rw [kcmp_swap]; omega
  obtain ⟨h1, h2, _⟩ := least_spec (lastAt M k) l noK hn
  generalize hR : leastF (lastAt M k) noK l = R at *
  have hin : ∀ x ∈ l, 0 < kcmp x.sku (lastAt M k) → ∃ i, ∃ h : i < M.length, M[i].sku = x.sku ∧ k ≤ i := by
    intro x hx hl
    obtain ⟨y, hy, e⟩ := (hk x.sku).2 ⟨x, hx, rfl⟩
    obtain ⟨i, hi, rfl⟩ := List.mem_iff_getElem.1 hy
    exact ⟨i, hi, e, (hpos i hi).1 (by rw [e]; exact hl)⟩
  by_cases hlt : k < M.length
  · rw [List.getElem?_eq_getElem hlt]
    simp only [Option.map_some, Option.getD_some]
    obtain ⟨x, hx, e⟩ := (hk M[k].sku).1 ⟨_, List.getElem_mem hlt, rfl⟩
    obtain ⟨j1, j2⟩ := h2 x hx (by rw [e]; exact (hpos k hlt).2 (Nat.le_refl _))
    rw [e] at j2
    rcases h1 with h1 | ⟨y, hy, e1, e2⟩
    · exact absurd h1 j1
    · obtain ⟨i, hi, e3, hki⟩ := hin y hy e2
      rw [e1] at e3
      have j3 : kcmp M[k].sku R ≤ 0 := by
        rw [← e3]
        rcases Nat.lt_or_eq_of_le hki with h | h
        · have := (List.pairwise_iff_getElem.1 hs) k i hlt hi h
          unfold klt at this
          omega
        · subst h
          rw [kcmp_self]; omega
      have := kcmp_swap R M[k].sku
      exact (kcmp_zero _ _).1 (by omega)
  · rw [List.getElem?_eq_none (by omega)]
    simp only [Option.map_none, Option.getD_none]
    rcases h1 with h1 | ⟨y, hy, e1, e2⟩
    · exact h1
    · obtain ⟨i, hi, _, hki⟩ := hin y hy e2
      omega

/-- All pieces of one thing, and its weight, while they are gone through. -/
def sumG (k : ByteArray) : Int → Int → List Ln → Option (Int × Int)
  | q, t, [] => some (q, t)
  | q, t, x :: r => if x.sku = k then (if 0 ≤ t ∧ t ≠ x.wt then none else sumG k (q + x.qty) x.wt r) else sumG k q t r

theorem sumG_some (k : ByteArray) : ∀ (l : List Ln) (q t q' t' : Int), (∀ x ∈ l, 0 ≤ x.wt) → sumG k q t l = some (q', t') → q' = q + totQ l k ∧ (∀ x ∈ l, x.sku = k → x.wt = t') ∧ (0 ≤ t → t' = t)
  | [], q, t, q', t', _, h => by
    simp only [sumG, Option.some.injEq, Prod.mk.injEq] at h
    obtain ⟨rfl, rfl⟩ := h
    simp [totQ]
  | x :: r, q, t, q', t', hw, h => by
    have hx := hw x (by simp)
    rw [sumG] at h
    split at h
    · rename_i e
      split at h
      · cases h
      · rename_i hb
        obtain ⟨i1, i2, i3⟩ := sumG_some k r _ _ _ _ (fun y hy => hw y (by simp [hy])) h
        have := i3 hx
        refine ⟨by rw [totQ_cons, if_pos e]; omega, ?_, ?_⟩
        · intro y hy ey
          rcases List.mem_cons.1 hy with rfl | hy
          · exact this.symm
          · exact i2 y hy ey
        · intro ht
          rw [this]
          by_cases h2 : t = x.wt
          · exact h2.symm
          · exact absurd ⟨ht, h2⟩ hb
    · rename_i e
      obtain ⟨i1, i2, i3⟩ := sumG_some k r _ _ _ _ (fun y hy => hw y (by simp [hy])) h
      refine ⟨by rw [totQ_cons, if_neg e]; omega, ?_, i3⟩
      intro y hy ey
      rcases List.mem_cons.1 hy with rfl | hy
      · exact absurd ey e
      · exact i2 y hy ey

theorem sumG_none (k : ByteArray) : ∀ (l : List Ln) (q t : Int), sumG k q t l = none → ∃ x ∈ l, x.sku = k ∧ (0 ≤ t ∧ x.wt ≠ t ∨ ∃ y ∈ l, y.sku = k ∧ y.wt ≠ x.wt)
  | [], q, t, h => by simp [sumG] at h
  | x :: r, q, t, h => by
    rw [sumG] at h
    split at h
    · rename_i e
      split at h
      · rename_i hb
        exact ⟨x, by simp, e, Or.inl ⟨hb.1, fun h => hb.2 h.symm⟩⟩
      · obtain ⟨y, hy, e1, e2⟩ := sumG_none k r _ _ h
        rcases e2 with ⟨_, e2⟩ | ⟨z, hz, e2⟩
        · exact ⟨x, by simp, e, Or.inr ⟨y, by simp [hy], e1, e2⟩⟩
        · exact ⟨y, by simp [hy], e1, Or.inr ⟨z, by simp [hz], e2⟩⟩
    · obtain ⟨y, hy, e1, e2⟩ := sumG_none k r _ _ h
      rcases e2 with e2 | ⟨z, hz, e2⟩
      · exact ⟨y, by simp [hy], e1, Or.inl e2⟩
      · exact ⟨y, by simp [hy], e1, Or.inr ⟨z, by simp [hz], e2⟩⟩

/-- Lines all of which can be, and what they come to. -/
structure Lined (l M : List Ln) : Prop where
  line : ∀ x ∈ l, lineB x = true
  sorted : sortedK M
  keys : ∀ q, (∃ y ∈ M, y.sku = q) ↔ ∃ x ∈ l, x.sku = q
  tot : ∀ k, totQ M k = totQ l k
  wt : ∀ y ∈ M, ∃ x ∈ l, x.sku = y.sku ∧ x.wt = y.wt
  val : mergeV l = if consB [] l = true ∧ rightLB M = true then M else []

theorem mergeF_rel (R : ByteArray → Int → Prop) : ∀ (l acc : List Ln), (∀ x ∈ l, R x.sku x.wt) → (∀ z ∈ acc, R z.sku z.wt) → ∀ z ∈ mergeF acc l, R z.sku z.wt
  | [], _, _, h => h
  | x :: r, acc, hl, ha => by
    rw [mergeF_cons]
    exact mergeF_rel R r _ (fun y hy => hl y (by simp [hy])) (addLn_rel R acc x (hl x (by simp)) ha)

theorem lined {l : List Ln} (h : ∀ x ∈ l, lineB x = true) : Lined l (mergeF [] l) where
  line := h
  sorted := mergeF_sorted l [] (by simp [sortedK])
  keys := fun q => by
    rw [mergeF_keys]
    simp
  tot := fun k => by rw [mergeF_totQ, totQ_nil]; omega
  wt := mergeF_rel (fun k a => ∃ x ∈ l, x.sku = k ∧ x.wt = a) l [] (fun x hx => ⟨x, hx, rfl, rfl⟩) (by simp)
  val := by
    unfold mergeV
    rw [mergeG_eq]
    by_cases hc : consB [] l = true ∧ rightLB (mergeF [] l) = true
    · rw [if_pos ⟨h, hc⟩, if_pos hc]; rfl
    · rw [if_neg (fun h2 => hc h2.2), if_neg hc]; rfl

theorem Lined.ne {l M : List Ln} (h : Lined l M) : ∀ x ∈ l, x.sku ≠ noK := by
  intro x hx e
  have := (lineB_of (h.line x hx)).1
  rw [e] at this
  exact absurd this (by decide +kernel)

/-- Each of the first things weighs the same wherever it stands. -/
def Cons (l M : List Ln) (k : Nat) : Prop := ∀ i (h : i < M.length), i < k → ∀ x ∈ l, x.sku = M[i].sku → x.wt = M[i].wt

theorem cons_all {l M : List Ln} (h : Lined l M) (hc : Cons l M M.length) : consB [] l = true := by
  refine consB_rel (fun k a => ∃ y ∈ M, y.sku = k ∧ y.wt = a) ?_ l [] ?_ (by simp)
  · rintro k a b ⟨y, hy, e1, e2⟩ ⟨z, hz, e3, e4⟩
    have := same_key h.sorted hy hz (e1.trans e3.symm)
    rw [← e2, ← e4, this]
  · intro x hx
    obtain ⟨y, hy, e⟩ := (h.keys x.sku).2 ⟨x, hx, rfl⟩
    obtain ⟨i, hi, rfl⟩ := List.mem_iff_getElem.1 hy
    exact ⟨_, hy, e, (hc i hi hi x hx e.symm).symm⟩

/-- The sum of one thing is its line. -/
theorem sum_line {l M : List Ln} (h : Lined l M) {k : Nat} (hk : k < M.length) {q t : Int} (hs : sumG M[k].sku 0 (-1) l = some (q, t)) (hc : Cons l M k) : (⟨M[k].sku, q, t⟩ : Ln) = M[k] ∧ Cons l M (k + 1) := by
  obtain ⟨h1, h2, _⟩ := sumG_some M[k].sku l 0 (-1) q t (fun x hx => (lineB_of (h.line x hx)).2.2.2.1) hs
  obtain ⟨x, hx, e1, e2⟩ := h.wt _ (List.getElem_mem hk)
  have ht : t = M[k].wt := by rw [← h2 x hx e1, e2]
  have hq : q = M[k].qty := by
    rw [h1, ← totQ_sorted M h.sorted _ (List.getElem_mem hk), h.tot]
    omega
  refine ⟨by rw [hq, ht], ?_⟩
  intro i hi hik y hy ey
  by_cases hc2 : i < k
  · exact hc i hi hc2 y hy ey
  · have : i = k := by omega
    subst this
    rw [h2 y hy ey, ht]

theorem sum_none {l M : List Ln} (h : Lined l M) {k : ByteArray} (hs : sumG k 0 (-1) l = none) : mergeV l = [] := by
  rw [h.val, if_neg]
  rintro ⟨hc, hr⟩
  obtain ⟨x, hx, e, h2⟩ := sumG_none k l 0 (-1) hs
  rcases h2 with ⟨h2, _⟩ | ⟨y, hy, e2, h2⟩
  · omega
  · have hw := (consB_wt l [] hc).1
    obtain ⟨u, hu, u1, u2⟩ := hw x hx
    obtain ⟨v, hv, v1, v2⟩ := hw y hy
    have := same_key (mergeF_sorted l [] (by simp [sortedK])) hu hv (by rw [u1, v1, e, e2])
    rw [← u2, ← v2, this] at h2
    exact h2 rfl

theorem end_val {l M : List Ln} (h : Lined l M) {k : Nat} (hk : k ≤ M.length) (hend : k = M.length ∨ k = 9) (hc : Cons l M k) : mergeV l = if rightLB (M.take k) = true then M.take k else [] := by
  rw [h.val]
  by_cases hkm : k = M.length
  · subst hkm
    rw [List.take_length]
    have := cons_all h hc
    by_cases hr : rightLB M = true
    · rw [if_pos ⟨this, hr⟩, if_pos hr]
    · rw [if_neg (fun h => hr h.2), if_neg hr]
  · have h9 : k = 9 := by
      rcases hend with h | h
      · exact absurd h hkm
      · exact h
    rw [if_neg, if_neg]
    · intro hr
      have := ((rightLB_iff _).1 hr).1.2
      rw [List.length_take] at this
      omega
    · rintro ⟨_, hr⟩
      have := ((rightLB_iff _).1 hr).1.2
      omega

theorem totQ_le : ∀ (l : List Ln) (k : ByteArray), (∀ x ∈ l, lineB x = true) → 0 ≤ totQ l k ∧ totQ l k ≤ 1000 * l.length
  | [], _, _ => by simp [totQ]
  | x :: r, k, h => by
    have ih := totQ_le r k (fun y hy => h y (by simp [hy]))
    have hx := lineB_of (h x (by simp))
    rw [totQ_cons, List.length_cons]
    split <;> omega

end Go.Proofs.Ytijcgioggmphkaa
