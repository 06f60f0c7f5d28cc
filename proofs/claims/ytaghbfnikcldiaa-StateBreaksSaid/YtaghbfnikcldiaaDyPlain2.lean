/- The doors that numbers are, as plain lists: by putting each in, and by looking for each tick of a day. -/
import Derived.Test.YtaghbfnikcldiaaDyPlain
namespace Go.Proofs.Ytaghbfnikcldiaa

def putIn (l : List Int) (i : Nat) (x : Int) : List Int := l.take i ++ x :: l.drop i

/-- One number more. -/
def addDoor (acc : List Int) (x : Int) : List Int := if acc.contains x then acc else putIn acc (acc.countP (fun y => decide (y < x))) x

theorem mem_putIn {l : List Int} {i : Nat} {x y : Int} : y ∈ putIn l i x ↔ y ∈ l ∨ y = x := by
  unfold putIn
  have h : y ∈ l ↔ y ∈ l.take i ∨ y ∈ l.drop i := by
    rw [← List.mem_append, List.take_append_drop]
  rw [h]
  simp
  constructor
  · rintro (h | h | h) <;> simp [h]
  · rintro ((h | h) | h) <;> simp [h]

theorem mem_addDoor {l : List Int} {x y : Int} : y ∈ addDoor l x ↔ y ∈ l ∨ y = x := by
  unfold addDoor
  split
  · rename_i h
    rw [List.contains_iff_mem] at h
    constructor
    · exact .inl
    · rintro (h1 | rfl)
      · exact h1
      · exact h
  · exact mem_putIn

theorem asc_addDoor {l : List Int} {x : Int} (h : l.Pairwise (· < ·)) : (addDoor l x).Pairwise (· < ·) := by
  unfold addDoor
  split
  · exact h
  · rename_i hx
    rw [List.contains_iff_mem] at hx
    have hp := closedN_place l (x - 1) h
    have hc : closedN l (x - 1) = l.countP (fun y => decide (y < x)) := by unfold closedN; rw [show x - 1 + 1 = x by omega]
    rw [hc, show x - 1 + 1 = x by omega] at hp
    generalize l.countP (fun y => decide (y < x)) = n at *
    unfold putIn
    rw [List.pairwise_append, List.pairwise_cons]
    have hlo : ∀ a ∈ l.take n, a < x := by
      intro a ha
      obtain ⟨j, hj, rfl⟩ := List.mem_iff_getElem.1 ha
      rw [List.length_take] at hj
      rw [List.getElem_take]
      exact (hp j (by omega)).2 (by omega)
    have hhi : ∀ a ∈ l.drop n, x < a := by
      intro a ha
      have hm : a ∈ l := List.mem_of_mem_drop ha
      obtain ⟨j, hj, e⟩ := List.mem_iff_getElem.1 ha
      rw [List.length_drop] at hj
      rw [List.getElem_drop] at e
      have h1 := hp (n + j) (by omega)
      rw [e] at h1
      have hne : a ≠ x := fun e => hx (e ▸ hm)
      omega
    refine ⟨h.take, ⟨hhi, h.drop⟩, fun a ha b hb => ?_⟩
    have h1 := hlo a ha
    rcases List.mem_cons.1 hb with rfl | hb
    · exact h1
    · have := hhi b hb; omega

theorem rng_addDoor {l : List Int} {x : Int} (h : ∀ y ∈ l, 0 ≤ y ∧ y ≤ 95) (hx : doorB x = true) : ∀ y ∈ addDoor l x, 0 ≤ y ∧ y ≤ 95 := by
  intro y hy
  have := doorB_true.1 hx
  rcases mem_addDoor.1 hy with h1 | rfl
  · exact h y h1
  · omega

theorem few_doors {l : List Int} (h : l.Pairwise (· < ·)) (h2 : ∀ y ∈ l, 0 ≤ y ∧ y ≤ 95) : l.length ≤ 96 := by
  rcases Nat.eq_zero_or_pos l.length with h0 | h0
  · omega
  · exact FitsP.len ⟨h0, h, h2⟩

/-- Each number in turn; none, where one can't be. -/
def doorsFrom : List Int → List Int → Option (List Int)
  | acc, [] => some acc
  | acc, n :: r => if doorB n then doorsFrom (addDoor acc n) r else none

def doorsV (l : List Int) : List Int := (doorsFrom [] l).getD []
def doorsE (l : List Int) : Int := if (doorsV l).isEmpty then 31 else 0

/-- Two rising lists of the same numbers are the same. -/
theorem asc_eq : ∀ {l m : List Int}, l.Pairwise (· < ·) → m.Pairwise (· < ·) → (∀ x, x ∈ l ↔ x ∈ m) → l = m
  | [], [], _, _, _ => rfl
  | [], b :: m, _, _, h => by have := (h b).2 (by simp); simp at this
  | a :: l, [], _, _, h => by have := (h a).1 (by simp); simp at this
  | a :: l, b :: m, hl, hm, h => by
    rw [List.pairwise_cons] at hl hm
    have hab : a = b := by
      have h1 := (h a).1 (by simp)
      have h2 := (h b).2 (by simp)
      rcases List.mem_cons.1 h1 with e | h1
      · exact e
      · rcases List.mem_cons.1 h2 with e | h2
        · exact e.symm
        · have := hm.1 a h1
          have := hl.1 b h2
          omega
    subst hab
    congr 1
    refine asc_eq hl.2 hm.2 fun x => ?_
    have hx := h x
    simp only [List.mem_cons] at hx
    constructor
    · intro hm1
      have := hl.1 x hm1
      rcases hx.1 (.inr hm1) with e | h1
      · omega
      · exact h1
    · intro hm1
      have := hm.1 x hm1
      rcases hx.2 (.inr hm1) with e | h1
      · omega
      · exact h1

theorem doorsFrom_some : ∀ (l acc : List Int), acc.Pairwise (· < ·) → l.all doorB = true → ∃ d, doorsFrom acc l = some d ∧ d.Pairwise (· < ·) ∧ ∀ x, x ∈ d ↔ x ∈ acc ∨ x ∈ l
  | [], acc, h, _ => ⟨acc, rfl, h, by simp⟩
  | n :: r, acc, h, ha => by
    rw [List.all_cons, Bool.and_eq_true] at ha
    obtain ⟨d, e, h1, h2⟩ := doorsFrom_some r (addDoor acc n) (asc_addDoor h) ha.2
    refine ⟨d, by rw [doorsFrom, if_pos ha.1, e], h1, fun x => ?_⟩
    rw [h2 x, mem_addDoor, List.mem_cons, or_assoc]

theorem doorsFrom_none : ∀ (l acc : List Int), l.all doorB = false → doorsFrom acc l = none
  | [], acc, h => by simp at h
  | n :: r, acc, h => by
    rw [doorsFrom]
    rw [List.all_cons] at h
    split
    · rename_i h1
      rw [h1, Bool.true_and] at h
      exact doorsFrom_none r _ h
    · rfl

/-- The first n ticks of a day that are among the numbers. -/
def ticksOf (l : List Int) (n : Nat) : List Int := ((List.range n).map Int.ofNat).filter (fun x => l.contains x)

theorem ticksOf_succ (l : List Int) (n : Nat) : ticksOf l (n + 1) = ticksOf l n ++ if l.contains (n : Int) then [(n : Int)] else [] := by
  unfold ticksOf
  rw [List.range_succ, List.map_append, List.filter_append]
  congr 1
  simp only [List.map_cons, List.map_nil, List.filter_cons, List.filter_nil]
  rfl

theorem mem_ticksOf {l : List Int} {n : Nat} {x : Int} : x ∈ ticksOf l n ↔ x ∈ l ∧ 0 ≤ x ∧ x < n := by
  unfold ticksOf
  rw [List.mem_filter, List.mem_map, List.contains_iff_mem]
  constructor
  · rintro ⟨⟨a, ha, rfl⟩, h⟩
    have := List.mem_range.1 ha
    exact ⟨h, by simp, by simpa using this⟩
  · rintro ⟨h, h0, h1⟩
    exact ⟨⟨x.toNat, List.mem_range.2 (by omega), by simp; omega⟩, h⟩

theorem ticksOf_len (l : List Int) (n : Nat) : (ticksOf l n).length ≤ n := by
  unfold ticksOf
  have := List.length_filter_le (fun x => l.contains x) ((List.range n).map Int.ofNat)
  simpa using this

theorem asc_ticksOf (l : List Int) (n : Nat) : (ticksOf l n).Pairwise (· < ·) := by
  induction n with
  | zero => simp [ticksOf]
  | succ n ih =>
    rw [ticksOf_succ, List.pairwise_append]
    refine ⟨ih, by split <;> simp, fun a ha b hb => ?_⟩
    have := (mem_ticksOf.1 ha).2
    split at hb
    · simp at hb; omega
    · simp at hb

theorem all_door {l : List Int} : l.all doorB = true ↔ ∀ x ∈ l, 0 ≤ x ∧ x < 96 := by
  rw [List.all_eq_true]
  constructor
  · intro h x hx; exact doorB_true.1 (h x hx)
  · intro h x hx; exact doorB_true.2 (h x hx)

theorem doorsV_good {l : List Int} (h : l.all doorB = true) : doorsV l = ticksOf l 96 := by
  obtain ⟨d, e, h1, h2⟩ := doorsFrom_some l [] (by simp) h
  unfold doorsV
  rw [e, Option.getD_some]
  refine asc_eq h1 (asc_ticksOf _ _) fun x => ?_
  rw [h2, mem_ticksOf]
  have := all_door.1 h
  constructor
  · rintro (h3 | h3)
    · simp at h3
    · exact ⟨h3, (this x h3).1, (this x h3).2⟩
  · exact fun h3 => .inr h3.1

theorem doorsV_bad {l : List Int} (h : l.all doorB = false) : doorsV l = [] := by
  unfold doorsV
  rw [doorsFrom_none l [] h]; rfl

theorem doorsV_len (l : List Int) : (doorsV l).length ≤ 96 := by
  cases h : l.all doorB with
  | true => rw [doorsV_good h]; exact ticksOf_len l 96
  | false => rw [doorsV_bad h]; simp

/-- What is without an error are doors. -/
theorem doorsV_fits {l : List Int} (h : doorsE l = 0) : FitsP (doorsV l) := by
  unfold doorsE at h
  have hne : doorsV l ≠ [] := by
    intro e
    rw [e] at h
    simp at h
  cases ha : l.all doorB with
  | false => exact absurd (doorsV_bad ha) hne
  | true =>
    rw [doorsV_good ha] at hne ⊢
    refine ⟨?_, asc_ticksOf _ _, fun x hx => ?_⟩
    · exact List.length_pos_iff.2 hne
    · have := (mem_ticksOf.1 hx).2; omega

theorem doorsE_cases (l : List Int) : doorsE l = 0 ∨ doorsE l = 31 := by
  unfold doorsE
  split <;> simp

end Go.Proofs.Ytaghbfnikcldiaa
