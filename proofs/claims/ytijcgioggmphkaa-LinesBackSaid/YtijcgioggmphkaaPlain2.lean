/- Plain facts on merging: what comes of lines is told by them alone, in whatever order they come, and in parts. -/
import Derived.Test.YtijcgioggmphkaaPlain
namespace Go.Proofs.Ytijcgioggmphkaa

theorem IsM.sorted {l m : List Ln} (h : IsM l m) : sortedK m := ((rightLB_iff _).1 h.right).2.2
theorem IsM.uniq {l m m' : List Ln} (h : IsM l m) (h' : IsM l m') : m = m' :=
  sorted_ext m m' h.sorted h'.sorted (fun z => ⟨h.sub h' z, h'.sub h z⟩)

theorem addLn_wt_old : ∀ (acc : List Ln) (x z : Ln), z ∈ acc → ∃ y ∈ addLn acc x, y.sku = z.sku ∧ y.wt = z.wt
  | [], _, _, h => by simp at h
  | y :: r, x, z, h => by
    simp only [addLn]
    rcases List.mem_cons.1 h with e | h
    · subst e
      split
      · exact ⟨z, by simp, rfl, rfl⟩
      · split
        · exact ⟨_, List.mem_cons_self, rfl, rfl⟩
        · exact ⟨z, by simp, rfl, rfl⟩
    · obtain ⟨u, hu, e⟩ := addLn_wt_old r x z h
      split
      · exact ⟨u, by simp [hu], e⟩
      · split
        · exact ⟨z, by simp [h], rfl, rfl⟩
        · exact ⟨z, by simp [h], rfl, rfl⟩

theorem addLn_wt_new : ∀ (acc : List Ln) (x : Ln), wBad acc x = false → ∃ y ∈ addLn acc x, y.sku = x.sku ∧ y.wt = x.wt
  | [], x, _ => ⟨x, by simp [addLn], rfl, rfl⟩
  | y :: r, x, h => by
    simp only [wBad, List.any_cons, Bool.or_eq_false_iff] at h
    simp only [addLn]
    split
    · obtain ⟨u, hu, e⟩ := addLn_wt_new r x h.2
      exact ⟨u, by simp [hu], e⟩
    · split
      · rename_i h2
        have e := (kcmp_zero _ _).1 h2
        have h1 := h.1
        simp only [e, decide_true, Bool.true_and, decide_eq_false_iff_not, ne_eq, Decidable.not_not] at h1
        exact ⟨_, List.mem_cons_self, e, h1⟩
      · exact ⟨x, by simp, rfl, rfl⟩

theorem consB_wt : ∀ (l acc : List Ln), consB acc l = true → (∀ x ∈ l, ∃ y ∈ mergeF acc l, y.sku = x.sku ∧ y.wt = x.wt) ∧ ∀ z ∈ acc, ∃ y ∈ mergeF acc l, y.sku = z.sku ∧ y.wt = z.wt
  | [], acc, _ => ⟨by simp, fun z hz => ⟨z, hz, rfl, rfl⟩⟩
  | x :: r, acc, h => by
    simp only [consB, Bool.and_eq_true, Bool.not_eq_true'] at h
    obtain ⟨i1, i2⟩ := consB_wt r (addLn acc x) h.2
    rw [mergeF_cons]
    refine ⟨?_, ?_⟩
    · intro u hu
      rcases List.mem_cons.1 hu with rfl | hu
      · obtain ⟨y, hy, e1, e2⟩ := addLn_wt_new acc u h.1
        obtain ⟨v, hv, e3, e4⟩ := i2 y hy
        exact ⟨v, hv, e3.trans e1, e4.trans e2⟩
      · exact i1 u hu
    · intro z hz
      obtain ⟨y, hy, e1, e2⟩ := addLn_wt_old acc x z hz
      obtain ⟨v, hv, e3, e4⟩ := i2 y hy
      exact ⟨v, hv, e3.trans e1, e4.trans e2⟩

theorem addLn_rel (R : ByteArray → Int → Prop) : ∀ (acc : List Ln) (x : Ln), R x.sku x.wt → (∀ z ∈ acc, R z.sku z.wt) → ∀ z ∈ addLn acc x, R z.sku z.wt
  | [], x, hx, _, z, hz => by simp [addLn] at hz; subst hz; exact hx
  | y :: r, x, hx, h, z, hz => by
    have ih := addLn_rel R r x hx (fun u hu => h u (by simp [hu]))
    simp only [addLn] at hz
    split at hz
    · rcases List.mem_cons.1 hz with rfl | hz
      · exact h _ (by simp)
      · exact ih z hz
    · split at hz
      · rcases List.mem_cons.1 hz with rfl | hz
        · exact h y (by simp)
        · exact h z (by simp [hz])
      · rcases List.mem_cons.1 hz with rfl | hz
        · exact hx
        · exact h z hz

theorem consB_rel (R : ByteArray → Int → Prop) (hu : ∀ k a b, R k a → R k b → a = b) : ∀ (l acc : List Ln), (∀ x ∈ l, R x.sku x.wt) → (∀ z ∈ acc, R z.sku z.wt) → consB acc l = true
  | [], _, _, _ => rfl
  | x :: r, acc, hl, ha => by
    have hx := hl x (by simp)
    simp only [consB, Bool.and_eq_true, Bool.not_eq_true']
    refine ⟨?_, consB_rel R hu r _ (fun y hy => hl y (by simp [hy])) (addLn_rel R acc x hx ha)⟩
    rw [wBad, List.any_eq_false]
    intro y hy
    simp only [Bool.and_eq_true, decide_eq_true_eq, not_and]
    intro e hne
    have := ha y hy
    rw [e] at this
    exact hne (hu _ _ _ this hx)

/-- Where the lines are right and each thing weighs the same, they come to mergeF. -/
theorem isM_of {l : List Ln} (h1 : ∀ x ∈ l, lineB x = true) (h2 : consB [] l = true) (h3 : rightLB (mergeF [] l) = true) : IsM l (mergeF [] l) where
  line := h1
  right := h3
  from_ := fun y hy => by
    rcases (mergeF_keys l [] y.sku).1 ⟨y, hy, rfl⟩ with ⟨_, h, _⟩ | h
    · simp at h
    · exact h
  tot := fun k => by rw [mergeF_totQ, totQ_nil]; omega
  wt := (consB_wt l [] h2).1

theorem IsM.all {l m : List Ln} (h : IsM l m) : consB [] l = true ∧ mergeF [] l = m := by
  have hc : consB [] l = true := by
    refine consB_rel (fun k a => ∃ y ∈ m, y.sku = k ∧ y.wt = a) ?_ l [] ?_ (by simp)
    · rintro k a b ⟨y, hy, e1, e2⟩ ⟨z, hz, e3, e4⟩
      have := same_key h.sorted hy hz (e1.trans e3.symm)
      rw [← e2, ← e4, this]
    · intro x hx
      exact h.wt x hx
  refine ⟨hc, ?_⟩
  have hs := mergeF_sorted l [] (by simp [sortedK])
  have hw := (consB_wt l [] hc).1
  refine sorted_ext _ _ hs h.sorted (fun z => ⟨fun hz => ?_, fun hz => ?_⟩)
  · have hk := (mergeF_keys l [] z.sku).1 ⟨z, hz, rfl⟩
    simp only [List.not_mem_nil, false_and, exists_false, false_or] at hk
    obtain ⟨x, hx, e⟩ := hk
    obtain ⟨y, hy, e1, e2⟩ := h.wt x hx
    obtain ⟨u, hu, e3, e4⟩ := hw x hx
    have huz := same_key hs hu hz (e3.trans e)
    subst huz
    have q1 := totQ_sorted _ hs u hz
    have q2 := totQ_sorted m h.sorted y hy
    rw [mergeF_totQ, totQ_nil] at q1
    rw [h.tot, e1, ← e3] at q2
    have : y = u := by
      cases y; cases u
      simp only at *
      subst e4 e2
      rw [e1, ← e3]
      congr 1
      omega
    exact this ▸ hy
  · obtain ⟨x, hx, e⟩ := h.from_ z hz
    obtain ⟨y, hy, e1, e2⟩ := hw x hx
    obtain ⟨u, hu, e3, e4⟩ := h.wt x hx
    have huz := same_key h.sorted hu hz (e3.trans e)
    subst huz
    have q1 := totQ_sorted _ hs y hy
    have q2 := totQ_sorted m h.sorted u hz
    rw [mergeF_totQ, totQ_nil, e1, ← e3] at q1
    rw [h.tot] at q2
    have : y = u := by
      cases y; cases u
      simp only at *
      subst e4 e2
      rw [e1, ← e3]
      congr 1
      omega
    exact this ▸ hy

theorem mergeG_iff (l m : List Ln) : mergeG [] l = some m ↔ IsM l m := by
  rw [mergeG_eq]
  constructor
  · intro h
    split at h
    · rename_i h1
      cases h
      exact isM_of h1.1 h1.2.1 h1.2.2
    · cases h
  · intro h
    obtain ⟨h1, h2⟩ := h.all
    rw [if_pos ⟨h.line, h1, by rw [h2]; exact h.right⟩, h2]

theorem IsM.ne {l m : List Ln} (h : IsM l m) : m ≠ [] := by
  intro e
  have := ((rightLB_iff _).1 h.right).1.1
  rw [e] at this
  simp at this

theorem mergeV_of {l m : List Ln} (h : IsM l m) : mergeV l = m := by
  unfold mergeV
  rw [(mergeG_iff l m).2 h]; rfl
theorem mergeE_of {l m : List Ln} (h : IsM l m) : mergeE l = 0 := by
  unfold mergeE
  rw [mergeV_of h]
  have := h.ne
  cases m with
  | nil => exact absurd rfl this
  | cons => rfl
theorem mergeV_cases (l : List Ln) : (mergeV l = [] ∧ mergeE l = 41 ∧ ∀ m, ¬ IsM l m) ∨ (IsM l (mergeV l) ∧ mergeE l = 0) := by
  cases h : mergeG [] l with
  | none =>
    have hv : mergeV l = [] := by unfold mergeV; rw [h]; rfl
    refine Or.inl ⟨hv, by unfold mergeE; rw [hv]; rfl, fun m hm => ?_⟩
    rw [(mergeG_iff l m).2 hm] at h
    cases h
  | some m =>
    have hm := (mergeG_iff l m).1 h
    rw [mergeV_of hm]
    exact Or.inr ⟨hm, mergeE_of hm⟩
theorem mergeE_ok {l : List Ln} (h : mergeE l = 0) : IsM l (mergeV l) := by
  rcases mergeV_cases l with ⟨_, h1, _⟩ | ⟨h1, _⟩
  · rw [h1] at h; omega
  · exact h1

/-- The order in which lines come doesn't matter. -/
theorem IsM.perm {l l' m : List Ln} (h : IsM l m) (hp : l.Perm l') : IsM l' m where
  line := fun x hx => h.line x (hp.mem_iff.2 hx)
  right := h.right
  from_ := fun y hy => by
    obtain ⟨x, hx, e⟩ := h.from_ y hy
    exact ⟨x, hp.mem_iff.1 hx, e⟩
  tot := fun k => by rw [h.tot, totQ_perm hp]
  wt := fun x hx => h.wt x (hp.mem_iff.2 hx)

theorem merge_perm {l l' : List Ln} (hp : l.Perm l') : mergeV l = mergeV l' := by
  rcases mergeV_cases l with ⟨h1, _, h2⟩ | ⟨h1, _⟩
  · rcases mergeV_cases l' with ⟨h3, _, _⟩ | ⟨h3, _⟩
    · rw [h1, h3]
    · exact (h2 _ (h3.perm hp.symm)).elim
  · exact (mergeV_of (h1.perm hp)).symm
theorem mergeE_perm {l l' : List Ln} (hp : l.Perm l') : mergeE l = mergeE l' := by unfold mergeE; rw [merge_perm hp]

/-- What is merged already stays. -/
theorem isM_self {m : List Ln} (h : rightLB m = true) : IsM m m where
  line := ((rightLB_iff _).1 h).2.1
  right := h
  from_ := fun y hy => ⟨y, hy, rfl⟩
  tot := fun _ => rfl
  wt := fun x hx => ⟨x, hx, rfl, rfl⟩

/-- Some of the lines: what they come to. -/
def partOf (m p : List Ln) : List Ln := (m.filter fun y => p.any fun x => decide (x.sku = y.sku)).map fun y => { y with qty := totQ p y.sku }

theorem partOf_mem {m p : List Ln} {z : Ln} : z ∈ partOf m p ↔ ∃ y ∈ m, (∃ x ∈ p, x.sku = y.sku) ∧ z = { y with qty := totQ p y.sku } := by
  simp only [partOf, List.mem_map, List.mem_filter, List.any_eq_true, decide_eq_true_eq]
  constructor
  · rintro ⟨y, ⟨h1, h2⟩, e⟩
    exact ⟨y, h1, h2, e.symm⟩
  · rintro ⟨y, h1, h2, e⟩
    exact ⟨y, ⟨h1, h2⟩, e.symm⟩

theorem isM_part {l m p : List Ln} (h : IsM l m) (hs : p.Sublist l) (hne : p ≠ []) : IsM p (partOf m p) := by
  have hmem : ∀ x ∈ p, x ∈ l := fun x hx => hs.subset hx
  have hline : ∀ x ∈ p, lineB x = true := fun x hx => h.line x (hmem x hx)
  have hle : ∀ (p l : List Ln), p.Sublist l → (∀ x ∈ l, 0 ≤ x.qty) → ∀ k, totQ p k ≤ totQ l k := by
    intro p l hs
    induction hs with
    | slnil => intro _ k; exact Int.le_refl _
    | cons a _ ih =>
      intro hq k
      rw [totQ_cons]
      have := ih (fun x hx => hq x (by simp [hx])) k
      have := hq a (by simp)
      split <;> omega
    | cons_cons a _ ih =>
      intro hq k
      rw [totQ_cons, totQ_cons]
      have := ih (fun x hx => hq x (by simp [hx])) k
      omega
  have hsort : sortedK (partOf m p) := by
    unfold partOf sortedK
    rw [List.pairwise_map]
    exact (h.sorted.filter _).imp (fun hab => hab)
  have hin : ∀ x ∈ p, ∃ z ∈ partOf m p, z.sku = x.sku ∧ z.wt = x.wt := by
    intro x hx
    obtain ⟨y, hy, e1, e2⟩ := h.wt x (hmem x hx)
    exact ⟨_, partOf_mem.2 ⟨y, hy, ⟨x, hx, e1.symm⟩, rfl⟩, e1, e2⟩
  refine ⟨hline, ?_, ?_, ?_, hin⟩
  · rw [rightLB_iff]
    refine ⟨⟨?_, ?_⟩, ?_, hsort⟩
    · cases p with
      | nil => exact absurd rfl hne
      | cons x r =>
        obtain ⟨z, hz, _⟩ := hin x (by simp)
        exact List.length_pos_of_mem hz
    · have h1 := ((rightLB_iff _).1 h.right).1.2
      have h2 : (partOf m p).length ≤ m.length := by
        unfold partOf
        rw [List.length_map]
        exact List.length_filter_le _ _
      omega
    · intro z hz
      obtain ⟨y, hy, ⟨x, hx, e⟩, rfl⟩ := partOf_mem.1 hz
      have hy' := lineB_of (((rightLB_iff _).1 h.right).2.1 y hy)
      refine lineB_mk hy'.1 ?_
      simp only
      have q1 := totQ_pos p y.sku (fun x hx => (lineB_of (hline x hx)).2.1) ⟨x, hx, e⟩
      have q2 := hle p l hs (fun x hx => by have := (lineB_of (h.line x hx)).2.1; omega) y.sku
      have q3 := totQ_sorted m h.sorted y hy
      rw [h.tot] at q3
      omega
  · intro z hz
    obtain ⟨y, hy, ⟨x, hx, e⟩, rfl⟩ := partOf_mem.1 hz
    exact ⟨x, hx, e⟩
  · intro k
    by_cases hk : ∃ x ∈ p, x.sku = k
    · obtain ⟨x, hx, rfl⟩ := hk
      obtain ⟨y, hy, e1, e2⟩ := h.wt x (hmem x hx)
      have hz := partOf_mem.2 ⟨y, hy, ⟨x, hx, e1.symm⟩, rfl⟩
      have := totQ_sorted _ hsort _ hz
      simp only [e1] at this
      rw [← this]
    · rw [totQ_none p k (fun x hx e => hk ⟨x, hx, e⟩), totQ_none _ k (fun z hz e => ?_)]
      obtain ⟨y, hy, ⟨x, hx, e'⟩, rfl⟩ := partOf_mem.1 hz
      exact hk ⟨x, hx, e'.trans e⟩

/-- Two parts, and what they come to together. -/
theorem isM_both {l1 l2 m m1 m2 : List Ln} (h : IsM (l1 ++ l2) m) (h1 : l1 = [] ∧ m1 = [] ∨ IsM l1 m1) (h2 : l2 = [] ∧ m2 = [] ∨ IsM l2 m2) : IsM (m1 ++ m2) m := by
  have t1 : ∀ k, totQ m1 k = totQ l1 k := by
    rcases h1 with ⟨rfl, rfl⟩ | h1
    · exact fun _ => rfl
    · exact h1.tot
  have t2 : ∀ k, totQ m2 k = totQ l2 k := by
    rcases h2 with ⟨rfl, rfl⟩ | h2
    · exact fun _ => rfl
    · exact h2.tot
  have g1 : ∀ y ∈ m1, lineB y = true ∧ ∃ x ∈ l1, x.sku = y.sku ∧ x.wt = y.wt := by
    rcases h1 with ⟨rfl, rfl⟩ | h1
    · simp
    · intro y hy
      obtain ⟨x, hx, e⟩ := h1.from_ y hy
      obtain ⟨u, hu, e1, e2⟩ := h1.wt x hx
      have := same_key h1.sorted hu hy (e1.trans e)
      subst this
      exact ⟨((rightLB_iff _).1 h1.right).2.1 _ hy, x, hx, e, e2.symm⟩
  have g2 : ∀ y ∈ m2, lineB y = true ∧ ∃ x ∈ l2, x.sku = y.sku ∧ x.wt = y.wt := by
    rcases h2 with ⟨rfl, rfl⟩ | h2
    · simp
    · intro y hy
      obtain ⟨x, hx, e⟩ := h2.from_ y hy
      obtain ⟨u, hu, e1, e2⟩ := h2.wt x hx
      have := same_key h2.sorted hu hy (e1.trans e)
      subst this
      exact ⟨((rightLB_iff _).1 h2.right).2.1 _ hy, x, hx, e, e2.symm⟩
  have k1 : ∀ x ∈ l1, ∃ y ∈ m1, y.sku = x.sku := by
    rcases h1 with ⟨rfl, rfl⟩ | h1
    · simp
    · intro x hx
      obtain ⟨y, hy, e, _⟩ := h1.wt x hx
      exact ⟨y, hy, e⟩
  have k2 : ∀ x ∈ l2, ∃ y ∈ m2, y.sku = x.sku := by
    rcases h2 with ⟨rfl, rfl⟩ | h2
    · simp
    · intro x hx
      obtain ⟨y, hy, e, _⟩ := h2.wt x hx
      exact ⟨y, hy, e⟩
  have g : ∀ y ∈ m1 ++ m2, lineB y = true ∧ ∃ x ∈ l1 ++ l2, x.sku = y.sku ∧ x.wt = y.wt := by
    intro y hy
    rcases List.mem_append.1 hy with hy | hy
    · obtain ⟨q, x, hx, e⟩ := g1 y hy
      exact ⟨q, x, List.mem_append.2 (.inl hx), e⟩
    · obtain ⟨q, x, hx, e⟩ := g2 y hy
      exact ⟨q, x, List.mem_append.2 (.inr hx), e⟩
  refine ⟨fun y hy => (g y hy).1, h.right, ?_, ?_, ?_⟩
  · intro y hy
    obtain ⟨x, hx, e⟩ := h.from_ y hy
    rcases List.mem_append.1 hx with hx | hx
    · obtain ⟨z, hz, e'⟩ := k1 x hx
      exact ⟨z, List.mem_append.2 (.inl hz), e'.trans e⟩
    · obtain ⟨z, hz, e'⟩ := k2 x hx
      exact ⟨z, List.mem_append.2 (.inr hz), e'.trans e⟩
  · intro k
    rw [h.tot, totQ_append, totQ_append, t1, t2]
  · intro y hy
    obtain ⟨_, x, hx, e1, e2⟩ := g y hy
    obtain ⟨z, hz, e3, e4⟩ := h.wt x hx
    exact ⟨z, hz, e3.trans e1, e4.trans e2⟩

end Go.Proofs.Ytijcgioggmphkaa
