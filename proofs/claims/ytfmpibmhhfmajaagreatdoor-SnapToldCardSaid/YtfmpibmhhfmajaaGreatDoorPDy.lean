/- DyPlain, DyPlain2, DyOwn, DyLeaf, DyNext, DyPass, DyDoors, DyRefDoors: together. -/
import Derived.Test.YtfmpibmhhfmajaaGreatDoorDyShelf
import Derived.Test.YtfmpibmhhfmajaaGreatDoorChecked
import Derived.WalkKit
import Derived.WalkSpells
import Derived.ProofKit
import Derived.Below
import Derived.IntWalk
import Derived.Lib.Hide
namespace Go.Proofs.YtfmpibmhhfmajaaGreatDoor

/- DyPlain: Ticks, doors and closings as plain lists and numbers: nothing of the program. -/
section
def dyRightB (t : Int) : Bool := decide (0 ≤ t) && decide (t ≤ 1099511627776)
theorem rightB_true {t : Int} : dyRightB t = true ↔ 0 ≤ t ∧ t ≤ 1099511627776 := by simp [dyRightB]
def doorB (n : Int) : Bool := decide (0 ≤ n) && decide (n < 96)
theorem doorB_true {n : Int} : doorB n = true ↔ 0 ≤ n ∧ n < 96 := by simp [doorB]

/-- Rising from a last one on, none above 95. -/
def fitsFrom : Int → List Int → Bool
  | _, [] => true
  | last, n :: r => (decide (last < n) && decide (n ≤ 95)) && fitsFrom n r

def fitsB (l : List Int) : Bool := fitsFrom (-1) l && decide (0 < l.length)

structure FitsP (l : List Int) : Prop where
  pos : 0 < l.length
  asc : l.Pairwise (· < ·)
  rng : ∀ x ∈ l, 0 ≤ x ∧ x ≤ 95

theorem fitsFrom_iff : ∀ (l : List Int) (a : Int), fitsFrom a l = true ↔ l.Pairwise (· < ·) ∧ ∀ x ∈ l, a < x ∧ x ≤ 95
  | [], a => by simp [fitsFrom]
  | n :: r, a => by
    rw [fitsFrom, Bool.and_eq_true, Bool.and_eq_true, decide_eq_true_eq, decide_eq_true_eq, fitsFrom_iff r n, List.pairwise_cons]
    constructor
    · rintro ⟨⟨h1, h2⟩, h3, h4⟩
      refine ⟨⟨fun x hx => (h4 x hx).1, h3⟩, fun x hx => ?_⟩
      rcases List.mem_cons.1 hx with rfl | hx
      · exact ⟨h1, h2⟩
      · have := h4 x hx; omega
    · rintro ⟨⟨h1, h2⟩, h3⟩
      have hn := h3 n (by simp)
      exact ⟨⟨hn.1, hn.2⟩, h2, fun x hx => ⟨h1 x hx, (h3 x (by simp [hx])).2⟩⟩

theorem fitsB_iff {l : List Int} : fitsB l = true ↔ FitsP l := by
  rw [fitsB, Bool.and_eq_true, decide_eq_true_eq, fitsFrom_iff]
  constructor
  · rintro ⟨⟨h1, h2⟩, h3⟩
    exact ⟨h3, h1, fun x hx => by have := h2 x hx; omega⟩
  · rintro ⟨h1, h2, h3⟩
    exact ⟨⟨h2, fun x hx => by have := h3 x hx; omega⟩, h1⟩

theorem asc_le {l : List Int} (h : l.Pairwise (· < ·)) : l.Pairwise (· ≤ ·) := h.imp (fun h => Int.le_of_lt h)

theorem asc_get {l : List Int} (h : l.Pairwise (· < ·)) {i j : Nat} (hj : j < l.length) (hij : i < j) : l[i] < l[j] := List.pairwise_iff_getElem.1 h i j (by omega) hj hij

theorem FitsP.at {l : List Int} (h : FitsP l) {j : Nat} (hj : j < l.length) : 0 ≤ l[j] ∧ l[j] ≤ 95 := h.rng _ (List.getElem_mem hj)

theorem FitsP.up {l : List Int} (h : FitsP l) : ∀ (j : Nat) (hj : j < l.length), (j : Int) ≤ l[j]
  | 0, hj => (h.at hj).1
  | j + 1, hj => by
    have h1 := FitsP.up h j (by omega)
    have h2 := asc_get h.asc hj (Nat.lt_succ_self j)
    omega

theorem FitsP.len {l : List Int} (h : FitsP l) : l.length ≤ 96 := by
  have hp := h.pos
  have h1 := h.up (l.length - 1) (by omega)
  have h2 := h.at (j := l.length - 1) (by omega)
  omega

/-- How many of the doors close up to a tick of the day. -/
def closedN (l : List Int) (r : Int) : Nat := l.countP (fun y => decide (y < r + 1))

theorem closedN_place : ∀ (l : List Int) (r : Int), l.Pairwise (· < ·) → ∀ j (h : j < l.length), (l[j] < r + 1 ↔ j < closedN l r)
  | [], _, _, j, h => by simp at h
  | a :: t, r, hp, j, h => by
    rw [List.pairwise_cons] at hp
    have e : closedN (a :: t) r = closedN t r + if a < r + 1 then 1 else 0 := by
      simp [closedN, List.countP_cons]
    by_cases ha : a < r + 1
    · rw [e, if_pos ha]
      cases j with
      | zero => simp [ha]
      | succ j =>
        have := closedN_place t r hp.2 j (by simpa using h)
        simp only [List.getElem_cons_succ]
        omega
    · rw [e, if_neg ha]
      have hz : closedN t r = 0 := by
        unfold closedN
        rw [List.countP_eq_zero]
        intro x hx
        have := hp.1 x hx
        simp; omega
      rw [hz]
      cases j with
      | zero => simp; omega
      | succ j =>
        have := hp.1 (t[j]'(by simpa using h)) (List.getElem_mem _)
        simp only [List.getElem_cons_succ]
        omega

theorem closedN_le (l : List Int) (r : Int) : closedN l r ≤ l.length := List.countP_le_length

/-- How often doors close from the beginning up to a tick. -/
def closeN (l : List Int) (t : Int) : Int := t / 96 * l.length + closedN l (t % 96)

theorem closeN_bounds {l : List Int} (h : FitsP l) {t : Int} (ht : 0 ≤ t) (h2 : t ≤ 1099511627776) : 0 ≤ t / 96 * l.length ∧ t / 96 * l.length ≤ 1099511627776 ∧ 0 ≤ closeN l t ∧ closeN l t ≤ 1099511627776 + 96 := by
  have hl := h.len
  have hc := closedN_le l (t % 96)
  have a1 : 0 ≤ t / 96 * l.length := Int.mul_nonneg (by omega) (by omega)
  have a2 : t / 96 * l.length ≤ t / 96 * 96 := Int.mul_le_mul_of_nonneg_left (by omega) (by omega)
  unfold closeN
  omega

theorem getD_get (l : List Int) {j : Nat} (h : j < l.length) : l.getD j 0 = l[j] := by simp [List.getD, h]

def passOk (l : List Int) (t u : Int) : Bool := fitsB l && dyRightB t && dyRightB u && decide (t ≤ u)
def passV (l : List Int) (t u : Int) : Int := if passOk l t u then closeN l u - closeN l t else 0
def passE (l : List Int) (t u : Int) : Int := if passOk l t u then 0 else 31
end

/- DyPlain2: The doors that numbers are, as plain lists: by putting each in, and by looking for each tick of a day. -/
section
def putIn (l : List Int) (i : Nat) (x : Int) : List Int := l.take i ++ x :: l.drop i

/-- One number more. -/
def addDoor (acc : List Int) (x : Int) : List Int := if acc.contains x then acc else putIn acc (acc.countP (fun y => decide (y < x))) x

theorem mem_putIn {l : List Int} {i : Nat} {x y : Int} : y ∈ putIn l i x ↔ y ∈ l ∨ y = x := by
  unfold putIn
  have h : y ∈ l ↔ y ∈ l.take i ∨ y ∈ l.drop i := by
    rw [← List.mem_append, List.take_append_drop]
  rw [h]
  simp
  constructor
  · rintro (h | h | h) <;> simp [h]
  · rintro ((h | h) | h) <;> simp [h]

theorem mem_addDoor {l : List Int} {x y : Int} : y ∈ addDoor l x ↔ y ∈ l ∨ y = x := by
  unfold addDoor
  split
  · rename_i h
    rw [List.contains_iff_mem] at h
    constructor
    · exact .inl
    · rintro (h1 | rfl)
      · exact h1
      · exact h
  · exact mem_putIn

theorem asc_addDoor {l : List Int} {x : Int} (h : l.Pairwise (· < ·)) : (addDoor l x).Pairwise (· < ·) := by
  unfold addDoor
  split
  · exact h
  · rename_i hx
    rw [List.contains_iff_mem] at hx
    have hp := closedN_place l (x - 1) h
    have hc : closedN l (x - 1) = l.countP (fun y => decide (y < x)) := by unfold closedN; rw [show x - 1 + 1 = x by omega]
    rw [hc, show x - 1 + 1 = x by omega] at hp
    generalize l.countP (fun y => decide (y < x)) = n at *
    unfold putIn
    rw [List.pairwise_append, List.pairwise_cons]
    have hlo : ∀ a ∈ l.take n, a < x := by
      intro a ha
      obtain ⟨j, hj, rfl⟩ := List.mem_iff_getElem.1 ha
      rw [List.length_take] at hj
      rw [List.getElem_take]
      exact (hp j (by omega)).2 (by omega)
    have hhi : ∀ a ∈ l.drop n, x < a := by
      intro a ha
      have hm : a ∈ l := List.mem_of_mem_drop ha
      obtain ⟨j, hj, e⟩ := List.mem_iff_getElem.1 ha
      rw [List.length_drop] at hj
      rw [List.getElem_drop] at e
      have h1 := hp (n + j) (by omega)
      rw [e] at h1
      have hne : a ≠ x := fun e => hx (e ▸ hm)
      omega
    refine ⟨h.take, ⟨hhi, h.drop⟩, fun a ha b hb => ?_⟩
    have h1 := hlo a ha
    rcases List.mem_cons.1 hb with rfl | hb
    · exact h1
    · have := hhi b hb; omega

theorem rng_addDoor {l : List Int} {x : Int} (h : ∀ y ∈ l, 0 ≤ y ∧ y ≤ 95) (hx : doorB x = true) : ∀ y ∈ addDoor l x, 0 ≤ y ∧ y ≤ 95 := by
  intro y hy
  have := doorB_true.1 hx
  rcases mem_addDoor.1 hy with h1 | rfl
  · exact h y h1
  · omega

theorem few_doors {l : List Int} (h : l.Pairwise (· < ·)) (h2 : ∀ y ∈ l, 0 ≤ y ∧ y ≤ 95) : l.length ≤ 96 := by
  rcases Nat.eq_zero_or_pos l.length with h0 | h0
  · omega
  · exact FitsP.len ⟨h0, h, h2⟩

/-- Each number in turn; none, where one can't be. -/
def doorsFrom : List Int → List Int → Option (List Int)
  | acc, [] => some acc
  | acc, n :: r => if doorB n then doorsFrom (addDoor acc n) r else none

def doorsV (l : List Int) : List Int := (doorsFrom [] l).getD []
def doorsE (l : List Int) : Int := if (doorsV l).isEmpty then 31 else 0

/-- Two rising lists of the same numbers are the same. -/
theorem asc_eq : ∀ {l m : List Int}, l.Pairwise (· < ·) → m.Pairwise (· < ·) → (∀ x, x ∈ l ↔ x ∈ m) → l = m
  | [], [], _, _, _ => rfl
  | [], b :: m, _, _, h => by have := (h b).2 (by simp); simp at this
  | a :: l, [], _, _, h => by have := (h a).1 (by simp); simp at this
  | a :: l, b :: m, hl, hm, h => by
    rw [List.pairwise_cons] at hl hm
    have hab : a = b := by
      have h1 := (h a).1 (by simp)
      have h2 := (h b).2 (by simp)
      rcases List.mem_cons.1 h1 with e | h1
      · exact e
      · rcases List.mem_cons.1 h2 with e | h2
        · exact e.symm
        · have := hm.1 a h1
          have := hl.1 b h2
          omega
    subst hab
    congr 1
    refine asc_eq hl.2 hm.2 fun x => ?_
    have hx := h x
    simp only [List.mem_cons] at hx
    constructor
    · intro hm1
      have := hl.1 x hm1
      rcases hx.1 (.inr hm1) with e | h1
      · omega
      · exact h1
    · intro hm1
      have := hm.1 x hm1
      rcases hx.2 (.inr hm1) with e | h1
      · omega
      · exact h1

theorem doorsFrom_some : ∀ (l acc : List Int), acc.Pairwise (· < ·) → l.all doorB = true → ∃ d, doorsFrom acc l = some d ∧ d.Pairwise (· < ·) ∧ ∀ x, x ∈ d ↔ x ∈ acc ∨ x ∈ l
  | [], acc, h, _ => ⟨acc, rfl, h, by simp⟩
  | n :: r, acc, h, ha => by
    rw [List.all_cons, Bool.and_eq_true] at ha
    obtain ⟨d, e, h1, h2⟩ := doorsFrom_some r (addDoor acc n) (asc_addDoor h) ha.2
    refine ⟨d, by rw [doorsFrom, if_pos ha.1, e], h1, fun x => ?_⟩
    rw [h2 x, mem_addDoor, List.mem_cons, or_assoc]

theorem doorsFrom_none : ∀ (l acc : List Int), l.all doorB = false → doorsFrom acc l = none
  | [], acc, h => by simp at h
  | n :: r, acc, h => by
    rw [doorsFrom]
    rw [List.all_cons] at h
    split
    · rename_i h1
      rw [h1, Bool.true_and] at h
      exact doorsFrom_none r _ h
    · rfl

/-- The first n ticks of a day that are among the numbers. -/
def ticksOf (l : List Int) (n : Nat) : List Int := ((List.range n).map Int.ofNat).filter (fun x => l.contains x)

theorem ticksOf_succ (l : List Int) (n : Nat) : ticksOf l (n + 1) = ticksOf l n ++ if l.contains (n : Int) then [(n : Int)] else [] := by
  unfold ticksOf
  rw [List.range_succ, List.map_append, List.filter_append]
  congr 1
  simp only [List.map_cons, List.map_nil, List.filter_cons, List.filter_nil]
  rfl

theorem mem_ticksOf {l : List Int} {n : Nat} {x : Int} : x ∈ ticksOf l n ↔ x ∈ l ∧ 0 ≤ x ∧ x < n := by
  unfold ticksOf
  rw [List.mem_filter, List.mem_map, List.contains_iff_mem]
  constructor
  · rintro ⟨⟨a, ha, rfl⟩, h⟩
    have := List.mem_range.1 ha
    exact ⟨h, by simp, by simpa using this⟩
  · rintro ⟨h, h0, h1⟩
    exact ⟨⟨x.toNat, List.mem_range.2 (by omega), by simp; omega⟩, h⟩

theorem ticksOf_len (l : List Int) (n : Nat) : (ticksOf l n).length ≤ n := by
  unfold ticksOf
  have := List.length_filter_le (fun x => l.contains x) ((List.range n).map Int.ofNat)
  simpa using this

theorem asc_ticksOf (l : List Int) (n : Nat) : (ticksOf l n).Pairwise (· < ·) := by
  induction n with
  | zero => simp [ticksOf]
  | succ n ih =>
    rw [ticksOf_succ, List.pairwise_append]
    refine ⟨ih, by split <;> simp, fun a ha b hb => ?_⟩
    have := (mem_ticksOf.1 ha).2
    split at hb
    · simp at hb; omega
    · simp at hb

theorem all_door {l : List Int} : l.all doorB = true ↔ ∀ x ∈ l, 0 ≤ x ∧ x < 96 := by
  rw [List.all_eq_true]
  constructor
  · intro h x hx; exact doorB_true.1 (h x hx)
  · intro h x hx; exact doorB_true.2 (h x hx)

theorem doorsV_good {l : List Int} (h : l.all doorB = true) : doorsV l = ticksOf l 96 := by
  obtain ⟨d, e, h1, h2⟩ := doorsFrom_some l [] (by simp) h
  unfold doorsV
  rw [e, Option.getD_some]
  refine asc_eq h1 (asc_ticksOf _ _) fun x => ?_
  rw [h2, mem_ticksOf]
  have := all_door.1 h
  constructor
  · rintro (h3 | h3)
    · simp at h3
    · exact ⟨h3, (this x h3).1, (this x h3).2⟩
  · exact fun h3 => .inr h3.1

theorem doorsV_bad {l : List Int} (h : l.all doorB = false) : doorsV l = [] := by
  unfold doorsV
  rw [doorsFrom_none l [] h]; rfl
end

/- DyOwn: Slices of numbers that a call has made for itself: what slices.Insert and slices.BinarySearch answer of them. -/
section
set_option maxRecDepth 100000
open Go.RowKit

/-- A slice reads as these numbers. -/
structure IntsP (w : World) (a : Option Addr) (cap : Nat) (ls : List Int) : Prop where
  cap : ls.length ≤ cap
  cell : ls ≠ [] → ∃ b o, a = some ⟨b, o, none⟩ ∧ b < w.heap.size ∧ ∀ j x, ls[j]? = some x → w.cell? ⟨b, o + j, none⟩ = some (.int .i64 x)

theorem IntsP.below {w w' : World} {a cap ls} (h : IntsP w a cap ls) (hb : Below w.heap.size w w') : IntsP w' a cap ls := by
  refine ⟨h.cap, fun hne => ?_⟩
  obtain ⟨b, o, e, hlt, hc⟩ := h.cell hne
  exact ⟨b, o, e, Nat.lt_of_lt_of_le hlt hb.size, fun j x hx => (hb.cell (p := ⟨b, o + j, none⟩) hlt).trans (hc j x hx)⟩

theorem IntsP.nil (w : World) (a : Option Addr) (cap : Nat) : IntsP w a cap [] := ⟨by simp, fun h => absurd rfl h⟩

theorem dyBelow_drewN {B : Nat} {a w : World} (h : Below B a w) (q : Nat) : Below B a (w.drewN q) := ⟨h.os, h.tape, h.output, h.size, h.block⟩

/-- slices.BinarySearch of a slice of rising numbers. -/
theorem dySearch_any (a : Option Addr) (cap : Nat) (l : List Int) (x : Int) (w : World) (h : IntsP w a cap l) (hl : l.length ≤ 1000000) (hs : l.Pairwise (· < ·)) :
    Calls Tryz.prog 140 #[.slice a l.length cap, .int .i64 x] w fun e w' => e = .returned (.tuple #[.int .i64 (l.countP (fun y => decide (y < x)) : Nat), .bool (l.contains x)]) ∧ ∃ q, w' = w.drewN q := by
  by_cases hne : l = []
  · subst hne
    refine (Tryz.slices_BinarySearch_int_empty a cap x w).mono ?_
    rintro e w' ⟨rfl, rfl⟩
    exact ⟨rfl, 0, rfl⟩
  · obtain ⟨b, o, rfl, hlt, hc⟩ := h.cell hne
    have := Tryz.slices_BinarySearch_int b o l.length cap l x w (Nat.le_refl _) (by omega) (fun j hj => hc j _ (by rw [List.getElem?_eq_getElem hj, getD_get l hj])) (by rw [List.take_length]; exact asc_le hs)
    rw [List.take_length] at this
    exact this

abbrev iv (x : Int) : Value := .int .i64 x

/-- A slice that is a row of its call's own, from block base on. -/
def OwnI (w : World) (base : Nat) (v : Value) (ls : List Int) : Prop := w.ownsRow base 3 1 v ls.length (ls.map iv)

theorem OwnI.ints {w : World} {base : Nat} {v : Value} {ls : List Int} (h : OwnI w base v ls) : ∃ a cap, v = .slice a ls.length cap ∧ IntsP w a cap ls := by
  rcases h.2 with ⟨rfl, h0⟩ | ⟨g, cap, cur, rfl, h1, h2, h3, h4, h5, h6⟩
  · have := List.eq_nil_of_length_eq_zero h0
    subst this
    exact ⟨none, 0, rfl, IntsP.nil _ _ _⟩
  · refine ⟨_, cap, rfl, h3, fun _ => ⟨g, 0, rfl, ?_, fun j x hx => ?_⟩⟩
    · exact (Array.getElem?_eq_some_iff.1 h2).1
    · have hj : (cur.toList.take (ls.length * 1))[j]? = some (iv x) := by rw [h6, List.getElem?_map, hx]; rfl
      rw [List.getElem?_take] at hj
      split at hj
      · simp only [Array.getElem?_toList] at hj
        simp [World.cell?, h2, hj]
      · cases hj

theorem OwnI.below {w w' : World} {base : Nat} {v : Value} {ls : List Int} (h : OwnI w base v ls) (hb : Below w.heap.size w w') : OwnI w' base v ls := by
  refine ⟨h.1, ?_⟩
  rcases h.2 with h1 | ⟨g, cap, cur, e, h1, h2, h3⟩
  · exact .inl h1
  · exact .inr ⟨g, cap, cur, e, h1, (hb.block g (Array.getElem?_eq_some_iff.1 h2).1).trans h2, h3⟩

theorem OwnI.nil (w : World) (base : Nat) : OwnI w base (.slice none 0 0) [] := ⟨rfl, .inl ⟨rfl, rfl⟩⟩

/-- A row behind setCells. -/
theorem heap_setCells (g : Nat) (e : TypeId) (z : Nat × Nat) : ∀ (vs : List Value) (o : Nat) (w : World) (cur : Array Value), w.heap[g]? = some (.cells cur e z) → o + vs.length ≤ cur.size →
    ∃ cur', (w.setCells g o vs).heap[g]? = some (.cells cur' e z) ∧ cur'.toList = cur.toList.take o ++ vs ++ cur.toList.drop (o + vs.length)
  | [], o, w, cur, h, _ => ⟨cur, h, by simp⟩
  | v :: r, o, w, cur, h, hs => by
    have h1 : (w.setCell ⟨g, o, none⟩ v).heap[g]? = some (.cells (cur.set! o v) e z) := by
      simp [World.setCell, Array.getElem?_modify, h]
    simp only [List.length_cons] at hs
    obtain ⟨cur', e1, e2⟩ := heap_setCells g e z r (o + 1) _ _ h1 (by simp; omega)
    refine ⟨cur', e1, ?_⟩
    rw [e2]
    have ho : o < cur.toList.length := by simp; omega
    simp only [Array.set!_eq_setIfInBounds, Array.toList_setIfInBounds, List.length_cons]
    rw [List.take_add_one, List.take_set_of_le (Nat.le_refl _), List.getElem?_set_self ho, List.drop_set_of_lt (by omega)]
    simp [show o + 1 + r.length = o + (r.length + 1) by omega]

theorem below_setCells {B b : Nat} {a : World} (hb : B ≤ b) : ∀ (vs : List Value) (o : Nat) (w : World), Below B a w → Below B a (w.setCells b o vs)
  | [], _, _, h => h
  | v :: r, o, w, h => below_setCells hb r (o + 1) _ (h.setCell (by exact hb) v)

/-- A number put in at a place. -/
def putAt (l : List Int) (i : Nat) (x : Int) : List Int := l.take i ++ x :: l.drop i
theorem putAt_len {l : List Int} {i : Nat} (x : Int) (h : i ≤ l.length) : (putAt l i x).length = l.length + 1 := by simp [putAt]; omega

theorem oneCell_iv : ∀ (l : List Int) (v : Value), v ∈ l.map iv → v.oneCell' = true := by
  intro l v hv
  obtain ⟨x, _, rfl⟩ := List.mem_map.1 hv
  rfl

theorem take_front {X Y : List Value} {n : Nat} (h : X.length = n) : (X ++ Y).take n = X := by rw [List.take_append_of_le_length (by omega), ← h, List.take_length]
theorem drop_front {X Y : List Value} {n : Nat} (h : X.length = n) : (X ++ Y).drop n = Y := by rw [List.drop_append_of_le_length (by omega), ← h, List.drop_length]; rfl
theorem mid_take {A B C cs : List Value} {i : Nat} {x : Value} (hA : A.take i = cs.take i) (hi : i ≤ cs.length) : ((A.take i ++ [x] ++ B).take (i + 1) ++ cs.drop i ++ C).take (cs.length + 1) = cs.take i ++ x :: cs.drop i := by
  rw [hA, take_front (X := cs.take i ++ [x]) (by simp; omega), take_front (X := cs.take i ++ [x] ++ cs.drop i) (by simp; omega)]
  simp
theorem mid_shift {A C cs : List Value} {i : Nat} {x : Value} (hA : A.take (i + 1) = cs.take (i + 1)) (hi : i < cs.length) :
    ((A.take (i + 1) ++ cs.drop i ++ C).take i ++ [x] ++ (A.take (i + 1) ++ cs.drop i ++ C).drop (i + 1)).take (cs.length + 1) = cs.take i ++ x :: cs.drop i := by
  have e1 : (A.take (i + 1) ++ cs.drop i ++ C).take i = cs.take i := by
    rw [hA, List.append_assoc, List.take_append_of_le_length (by simp; omega), List.take_take]
    congr 1; omega
  have e2 : (A.take (i + 1) ++ cs.drop i ++ C).drop (i + 1) = cs.drop i ++ C := by
    rw [hA, List.append_assoc, drop_front (by simp; omega)]
  rw [e1, e2, ← List.append_assoc, take_front (by simp; omega)]
  simp

theorem putAt_map (l : List Int) (i : Nat) (x : Int) : (putAt l i x).map iv = (l.map iv).take i ++ iv x :: (l.map iv).drop i := by simp [putAt]
theorem putAt_end (l : List Int) (x : Int) : (putAt l l.length x).map iv = l.map iv ++ [iv x] := by simp [putAt]

def InsOwn (base : Nat) (W : World) (l : List Int) (e : Ending) (w' : World) : Prop := ∃ v', e = .returned v' ∧ OwnI w' base v' l ∧ Below base W w'

set_option maxHeartbeats 1000000 in
/-- slices.Insert of one number into a row of the call's own. -/
theorem insert_any (base : Nat) (a : Option Addr) (cap : Nat) (l : List Int) (i : Nat) (x : Int) (w : World) (h : OwnI w base (.slice a l.length cap) l) (hb : base ≤ w.heap.size) (hi : i ≤ l.length) (hl : l.length ≤ 1000000) :
    Calls Tryz.prog 141 #[.slice a l.length cap, .int .i64 i, .slice (some ⟨w.heap.size, 0, none⟩) 1 1] (w.alloc (.cells #[.int .i64 x] 3)) (InsOwn base (w.alloc (.cells #[.int .i64 x] 3)) (putAt l i x)) := by
  have hv : ∀ j v, [iv x][j]? = some v → (w.alloc (.cells #[.int .i64 x] 3)).cell? ⟨w.heap.size, 0 + j, none⟩ = some v := by
    intro j v hj
    match j, hj with
    | 0, hj => simp at hj; subst hj; simp
    | _ + 1, hj => simp at hj
  have hsz : (w.alloc (.cells #[.int .i64 x] 3)).heap.size = w.heap.size + 1 := by simp
  have hbw : Below w.heap.size w (w.alloc (.cells #[.int .i64 x] 3)) := (Below.refl _ _).alloc (Nat.le_refl _) _
  have h' := h.below hbw
  have hnew : (w.alloc (.cells #[.int .i64 x] 3)).heap[w.heap.size]? = some (.cells #[.int .i64 x] 3 (0, 0)) := heap_alloc_new w _
  generalize hW : w.alloc (.cells #[.int .i64 x] 3) = W at *
  have h1v : ∀ v ∈ [iv x], v.oneCell' = true := fun v hv => by simp at hv; subst hv; rfl
  have hml : l.length + 1 ≤ maxLen := by unfold maxLen; omega
  have hcl : (l.map iv).length = l.length := by simp
  -- what the four roads have in common: the row's cells
  rcases h'.2 with ⟨e0, h0⟩ | ⟨g, cap', cur, e0, h1, h2, h3, h4, h5, h6⟩
  · -- the nil slice
    injection e0 with ea _ ec
    subst ea ec
    have hln := List.eq_nil_of_length_eq_zero h0
    subst hln
    obtain rfl : i = 0 := by simpa using hi
    refine (Any2.slices_Insert_int_end_grow Tryz.lays21 none 0 0 w.heap.size 0 1 1 [] [iv x] W (by decide) (by decide) (by decide) (by decide) rfl rfl (fun _ => rfl) (fun a e => by cases e) hv h1v).mono ?_
    rintro e w' ⟨rfl, rfl⟩
    refine ⟨_, rfl, ⟨rfl, .inr ⟨_, _, _, rfl, (by show base ≤ W.heap.size; omega), heap_alloc_new _ _, grownCap_ge _ _ _ _, grownCap_le_maxLen _ _ _ _ hml, ?_, ?_⟩⟩, (Below.refl _ _).drew.alloc (by show base ≤ W.heap.size; omega) _⟩
    · have := grownCap_ge W (0 + 1) 0 (Tryz.lays21_ren.t 3)
      simp only [Nat.zero_add] at this
      simp [Builtin.zeroCells, Value.cells]
      omega
    · simp [putAt]
  · injection e0 with ea en ec
    subst ea ec
    have hg : g < w.heap.size := by
      rcases h.2 with ⟨e, _⟩ | ⟨g', c', cur', e, _, k2, _⟩
      · cases e
      · injection e with e1
        injection e1 with e1
        injection e1 with e1
        subst e1
        exact (Array.getElem?_eq_some_iff.1 k2).1
    have hcur : cur.size = cap := by omega
    have htake : cur.toList.take l.length = l.map iv := by simpa using h6
    have hcs : ∀ j v, (l.map iv)[j]? = some v → W.cell? ⟨g, 0 + j, none⟩ = some v := by
      intro j v hj
      rw [← htake, List.getElem?_take] at hj
      split at hj
      · simp only [Array.getElem?_toList] at hj
        simp [World.cell?, h2, hj]
      · cases hj
    have hsome : ∀ j, j < cap → (W.cell? ⟨g, 0 + j, none⟩).isSome = true := by
      intro j hj
      simp [World.cell?, h2]
      omega
    have hfz : ∀ j, W.frozen? ⟨g, 0 + j, none⟩ = false := by
      intro j
      simp [World.frozen?, h2]
    rcases Nat.lt_or_ge i l.length with hlt | hge
    · rcases Nat.lt_or_ge cap (l.length + 1) with hno | hroom
      · -- in the middle, no room
        refine (Any2.slices_Insert_int_grow Tryz.lays21 g 0 l.length cap i w.heap.size 0 1 1 (l.map iv) [iv x] W hlt (by decide) h3 hno (by omega) hcl rfl hcs hv (oneCell_iv l) h1v).mono ?_
        rintro e w' ⟨rfl, rfl⟩
        generalize hcap : grownCap W (l.length + 1) cap (Tryz.lays21_ren.t 3) = C
        have hC1 := grownCap_ge W (l.length + 1) cap (Tryz.lays21_ren.t 3)
        have hC2 := grownCap_le_maxLen W (l.length + 1) cap (Tryz.lays21_ren.t 3) hml
        rw [hcap] at hC1 hC2
        have hz : ∀ n, (Builtin.zeroCells (Value.int .i64 0).cells n).toList = List.replicate n (iv 0) := by
          intro n
          apply List.ext_getElem
          · simp [Builtin.zeroCells, Value.cells]
          · intro j k1 k2
            simp [Builtin.zeroCells, Value.cells, Nat.mod_one]
        obtain ⟨c1, k1, k2⟩ := heap_setCells W.heap.size 3 (0, 0) [iv x] i (W.alloc (.cells (((l.map iv).take i).toArray ++ Builtin.zeroCells (Value.int .i64 0).cells (l.length + 1 - i) ++ Builtin.zeroCells (Value.int .i64 0).cells (C - (l.length + 1))) 3)).drew _ (heap_alloc_new W _) (by
          simp [Builtin.zeroCells, Value.cells]; omega)
        have hc1s : c1.size = C := by
          rw [← Array.length_toList, k2]
          simp [hz]
          omega
        obtain ⟨c2, m1, m2⟩ := heap_setCells W.heap.size 3 (0, 0) ((l.map iv).drop i) (i + 1) ((W.alloc (.cells (((l.map iv).take i).toArray ++ Builtin.zeroCells (Value.int .i64 0).cells (l.length + 1 - i) ++ Builtin.zeroCells (Value.int .i64 0).cells (C - (l.length + 1))) 3)).drew.setCells W.heap.size i [iv x]).drew c1 k1 (by
          simp; omega)
        have hc2s : c2.size = C := by
          rw [← Array.length_toList, m2]
          simp
          omega
        refine ⟨_, rfl, ?_, ?_⟩
        · refine ⟨by simp, .inr ⟨W.heap.size, C, c2, by rw [putAt_len x hi], by omega, m1, by rw [putAt_len x hi]; omega, hC2, by omega, ?_⟩⟩
          rw [putAt_len x hi, m2, k2, putAt_map]
          have := mid_take (A := (((l.map iv).take i).toArray ++ Builtin.zeroCells (Value.int .i64 0).cells (l.length + 1 - i) ++ Builtin.zeroCells (Value.int .i64 0).cells (C - (l.length + 1))).toList) (x := iv x) (cs := l.map iv) (i := i) (B := ((((l.map iv).take i).toArray ++ Builtin.zeroCells (Value.int .i64 0).cells (l.length + 1 - i) ++ Builtin.zeroCells (Value.int .i64 0).cells (C - (l.length + 1))).toList).drop (i + 1)) (C := (c1.toList).drop (i + 1 + ((l.map iv).drop i).length)) (by
            simp only [Array.toList_append, List.append_assoc]
            rw [take_front (by simp; omega)]) (by simp; omega)
          rw [k2] at this
          simpa using this
        · exact below_setCells (by omega) _ _ _ (below_setCells (by omega) _ _ _ ((Below.refl _ _).alloc (by omega) _).drew).drew
      · -- in the middle, in place
        have hcm : cap ≤ 9223372036854775807 := by unfold maxLen at h4; omega
        refine (Any2.slices_Insert_int_shift Tryz.lays21 g 0 l.length cap i w.heap.size 0 1 1 (l.map iv) [iv x] W hlt (by decide) hroom hcm (by omega) hcl rfl hcs (fun j hj => hsome j (by omega)) (fun j _ => hfz j) hv (oneCell_iv l) h1v
          3 3 1 cap (by simp [World.shape?, hnew]) (by simp [World.shape?, h2, hcur]) (by omega) (by simp [World.frozen?, hnew]) (by simp [World.frozen?, hnew])).mono ?_
        rintro e w' ⟨rfl, rfl⟩
        obtain ⟨c1, k1, k2⟩ := heap_setCells g 3 (0, 0) ((l.map iv).drop i) (0 + (i + 1)) W.drew cur h2 (by simp; omega)
        have hc1s : c1.size = cap := by
          rw [← Array.length_toList, k2]
          simp
          omega
        obtain ⟨c2, m1, m2⟩ := heap_setCells g 3 (0, 0) [iv x] (0 + i) (W.drew.setCells g (0 + (i + 1)) ((l.map iv).drop i)) c1 k1 (by simp; omega)
        have hc2s : c2.size = cap := by
          rw [← Array.length_toList, m2]
          simp
          omega
        refine ⟨_, rfl, ?_, ?_⟩
        · refine ⟨by simp, .inr ⟨g, cap, c2, by rw [putAt_len x hi], h1, m1, by rw [putAt_len x hi]; omega, h4, by omega, ?_⟩⟩
          rw [putAt_len x hi, m2, k2, putAt_map]
          have := mid_shift (A := cur.toList) (C := cur.toList.drop (0 + (i + 1) + ((l.map iv).drop i).length)) (x := iv x) (cs := l.map iv) (i := i) (by
            rw [← htake, List.take_take]; congr 1; omega) (by simp; omega)
          simpa using this
        · exact below_setCells h1 _ _ _ (below_setCells h1 _ _ _ (Below.refl _ _).drew)
    · have hil : i = l.length := by omega
      subst hil
      rcases Nat.lt_or_ge cap (l.length + 1) with hno | hroom
      · -- at the end, no room
        refine (Any2.slices_Insert_int_end_grow Tryz.lays21 (some ⟨g, 0, none⟩) l.length cap w.heap.size 0 1 1 (l.map iv) [iv x] W (by decide) h3 hno (by omega) hcl rfl (fun e => by cases e) (fun a e j v hj => by injection e with e; subst e; rw [← hcs j v hj]; rw [Addr.add_lit]) hv h1v).mono ?_
        rintro e w' ⟨rfl, rfl⟩
        refine ⟨_, rfl, ⟨by simp, .inr ⟨W.heap.size, _, _, by rw [putAt_len x hi], by omega, heap_alloc_new W.drew _, ?_, grownCap_le_maxLen _ _ _ _ hml, ?_, ?_⟩⟩, (Below.refl _ _).drew.alloc (by show base ≤ W.heap.size; omega) _⟩
        · rw [putAt_len x hi]; exact grownCap_ge _ _ _ _
        · have := grownCap_ge W (l.length + 1) cap (Tryz.lays21_ren.t 3)
          simp [Builtin.zeroCells, Value.cells]
          omega
        · rw [putAt_len x hi, putAt_end, Array.toList_append, take_front (by simp)]
      · -- at the end, in place
        have hcm : cap ≤ 9223372036854775807 := by unfold maxLen at h4; omega
        refine (Any2.slices_Insert_int_end_room Tryz.lays21 g 0 l.length cap w.heap.size 0 1 1 [iv x] W (by decide) hroom hcm rfl (fun j hj => by have := hsome (l.length + j) (by omega); simpa [Nat.add_assoc] using this) (fun j _ => by have := hfz (l.length + j); simpa [Nat.add_assoc] using this) hv h1v).mono ?_
        rintro e w' ⟨rfl, rfl⟩
        obtain ⟨c1, k1, k2⟩ := heap_setCells g 3 (0, 0) [iv x] (0 + l.length) W cur h2 (by simp; omega)
        have hc1s : c1.size = cap := by
          rw [← Array.length_toList, k2]
          simp
          omega
        refine ⟨_, rfl, ?_, ?_⟩
        · refine ⟨by simp, .inr ⟨g, cap, c1, by rw [putAt_len x hi], h1, k1, by rw [putAt_len x hi]; omega, h4, by omega, ?_⟩⟩
          rw [putAt_len x hi, k2, putAt_end, Nat.zero_add, htake, take_front (by simp)]
        · exact below_setCells h1 _ _ _ (Below.refl _ _)
end

/- DyLeaf: What Right, Of, End and the inner functions of package day answer, and the document's Right, Fits, Closes and Next. -/
section
set_option maxRecDepth 100000
open Go.RowKit

theorem dyRight_any (n : Int) (w : World) : Calls Tryz.prog 81 #[.int .i64 n] w fun e w' => e = .returned (.bool (dyRightB n)) ∧ w = w' := by
  unfold dyRightB
  cases h1 : decide (0 ≤ n) <;> cases h2 : decide (n ≤ 1099511627776)
  all_goals
    go_enter Tryz.func81, Tryz.ntmps81
    go_wp2_with fail
    go_ret
    exact ⟨rfl, rfl⟩

theorem isDoor_any (n : Int) (w : World) : Calls Tryz.prog 139 #[.int .i64 n] w fun e w' => e = .returned (.bool (doorB n)) ∧ w = w' := by
  unfold doorB
  cases h1 : decide (0 ≤ n) <;> cases h2 : decide (n < 96)
  all_goals
    go_enter Tryz.func139, Tryz.ntmps139
    go_wp2_with fail
    go_ret
    exact ⟨rfl, rfl⟩

def dyPair (x y : Int) (w : World) (e : Ending) (w' : World) : Prop := e = .returned (.tuple #[.int .i64 x, .int .i64 y]) ∧ w = w'
def PairB (x y : Int) (w : World) (e : Ending) (w' : World) : Prop := e = .returned (.tuple #[.int .i64 x, .int .i64 y]) ∧ Below w.heap.size w w'

def ofD (t : Int) : Int := if dyRightB t then t / 96 else 0
def ofT (t : Int) : Int := if dyRightB t then t % 96 else 0

set_option maxHeartbeats 1000000 in
theorem of_any (t : Int) (w : World) : Calls Tryz.prog 174 #[.int .i64 t] w (dyPair (ofD t) (ofT t) w) := by
  cases h : dyRightB t with
  | false =>
    have e1 : ofD t = 0 := by simp [ofD, h]
    have e2 : ofT t = 0 := by simp [ofT, h]
    rw [e1, e2]
    have H := Lib.hid h
    clear h e1 e2
    go_enter Tryz.func174, Tryz.ntmps174
    go_wp2_with fail
    refine (dyRight_any _ _).mono ?_
    rintro e w' ⟨rfl, rfl⟩
    rw [H.out]
    go_wp2_with fail
    go_ret2
    exact ⟨rfl, rfl⟩
  | true =>
    have e1 : ofD t = t / 96 := by simp [ofD, h]
    have e2 : ofT t = t % 96 := by simp [ofT, h]
    rw [e1, e2]
    obtain ⟨t0, t1⟩ := rightB_true.1 h
    have H := Lib.hid h
    clear h e1 e2
    have q0 : 0 ≤ t / 96 := by omega
    have q1 : t / 96 ≤ 1099511627776 := by omega
    have r0 : 0 ≤ t % 96 := by omega
    have r1 : t % 96 < 96 := by omega
    go_enter Tryz.func174, Tryz.ntmps174
    go_wp2_with fail
    refine (dyRight_any _ _).mono ?_
    rintro e w' ⟨rfl, rfl⟩
    rw [H.out]
    go_wp2_with fail
    go_ret2
    exact ⟨rfl, rfl⟩

set_option maxHeartbeats 2000000 in
theorem areDoors_any (a : Option Addr) (cap : Nat) (l : List Int) (w : World) (h : IntsP w a cap l) (hm : l.length ≤ maxLen) :
    Calls Tryz.prog 149 #[.slice a l.length cap] w fun e w' => e = .returned (.bool (fitsB l)) ∧ Below w.heap.size w w' := by
  have H := Lib.hid h
  clear h
  unfold maxLen at hm
  go_enter Tryz.func149, Tryz.ntmps149
  go_wp2_with fail
  go_loopw [7] (fun i wr => ∃ (k : Nat) (t : Int), k ≤ l.length ∧ i = .int .i64 k ∧ Hid (fitsFrom (-1) l = fitsFrom t (l.drop k)) ∧ Hid (k = 0 → t = -1) ∧ Hid (∀ j, k = j + 1 → l[j]? = some t ∧ 0 ≤ t) ∧ Below w.heap.size w wr) (fun i _ => l.length - (intOf i).toNat)
  case atStart => exact ⟨0, -1, Nat.zero_le _, rfl, Lib.hid rfl, Lib.hid (fun _ => rfl), Lib.hid (fun j hj => by omega), Below.refl _ _⟩
  case round =>
    obtain ⟨k, t, hk, rfl, HS, HZ, HJ, hbw⟩ := hrel
    by_cases hlt : k < l.length
    · have hne : l ≠ [] := by intro e; subst e; simp at hlt
      obtain ⟨b1, o1, rfl, q1, r1⟩ := (H.out.below hbw).cell hne
      have g1 := r1 k _ (List.getElem?_eq_getElem hlt)
      have p1 := H.out.cap
      have HD := Lib.hid (List.drop_eq_getElem_cons hlt)
      have HG := Lib.hid (List.getElem?_eq_getElem hlt)
      generalize l[k] = x at *
      have R1 := Lib.hid r1
      clear r1 hne
      cases hx : doorB x with
      | false =>
        have E := Lib.hid (show fitsB l = false by
          unfold fitsB
          rw [HS.out, HD.out, fitsFrom]
          have ht : -1 ≤ t := by
            cases k with
            | zero => rw [HZ.out rfl]; decide
            | succ j => have := (HJ.out j rfl).2; omega
          have : (decide (t < x) && decide (x ≤ 95)) = false := by
            rw [← Bool.not_eq_true] at hx ⊢
            rw [doorB_true] at hx
            simp
            omega
          rw [this]; rfl)
        have HX := Lib.hid hx
        clear hx
        go_wp2_with fail
        refine (isDoor_any _ _).mono ?_
        rintro e w' ⟨rfl, rfl⟩
        rw [HX.out]
        go_wp2_with fail
        go_ret
        exact ⟨by rw [E.out]; rfl, hbw⟩
      | true =>
        obtain ⟨x0, x1⟩ := doorB_true.1 hx
        have HX := Lib.hid hx
        clear hx
        cases k with
        | zero =>
          rw [Nat.add_zero] at g1
          have HN := Lib.hid (show fitsFrom (-1) l = fitsFrom x (l.drop (0 + 1)) by
            rw [HS.out, HD.out, fitsFrom, HZ.out rfl, decide_eq_true (p := (-1 : Int) < x) (by omega), decide_eq_true (p := x ≤ 95) (by omega)]; rfl)
          go_wp2_with fail
          refine (isDoor_any _ _).mono ?_
          rintro e w' ⟨rfl, rfl⟩
          rw [HX.out]
          go_wp2_with fail
          go_roundw
          case rel => exact ⟨0 + 1, x, by omega, by go_num, HN, Lib.hid (fun h => by omega), Lib.hid (fun j hj => ⟨(show j = 0 by omega) ▸ HG.out, x0⟩), by first | exact hbw | exact hbw.drew⟩
          case measure => simp [intOf]; omega
        | succ j =>
          have g2 := R1.out j _ (HJ.out j rfl).1
          cases hy : decide (x ≤ t) with
          | true =>
            have E := Lib.hid (show fitsB l = false by
              unfold fitsB
              rw [HS.out, HD.out, fitsFrom, decide_eq_false (p := t < x) (by simp at hy; omega)]; rfl)
            go_wp2_with fail
            refine (isDoor_any _ _).mono ?_
            rintro e w' ⟨rfl, rfl⟩
            rw [HX.out]
            go_wp2_with fail
            go_ret
            exact ⟨by rw [E.out]; rfl, by first | exact hbw | exact hbw.drew⟩
          | false =>
            have HN := Lib.hid (show fitsFrom (-1) l = fitsFrom x (l.drop (j + 1 + 1)) by
              rw [HS.out, HD.out, fitsFrom, decide_eq_true (p := t < x) (by simp at hy; omega), decide_eq_true (p := x ≤ 95) (by omega)]; rfl)
            go_wp2_with fail
            refine (isDoor_any _ _).mono ?_
            rintro e w' ⟨rfl, rfl⟩
            rw [HX.out]
            go_wp2_with fail
            go_roundw
            case rel => exact ⟨j + 1 + 1, x, by omega, by go_num, HN, Lib.hid (fun h => by omega), Lib.hid (fun i hi => ⟨(show i = j + 1 by omega) ▸ HG.out, x0⟩), by first | exact hbw | exact hbw.drew⟩
            case measure => simp [intOf]; omega
    · have E := Lib.hid (show fitsB l = decide (0 < l.length) by
        unfold fitsB
        rw [HS.out, List.drop_eq_nil_of_le (by omega), fitsFrom]; rfl)
      go_wp2_with fail
      go_ret
      exact ⟨by rw [E.out]; simp, hbw⟩
end

/- DyNext: What Next and Passed of package day answer, and the document's Closes and Next. -/
section
set_option maxRecDepth 100000
open Go.RowKit

set_option maxHeartbeats 1000000 in
theorem closedBy_any (a : Option Addr) (cap : Nat) (l : List Int) (t : Int) (w : World) (h : IntsP w a cap l) (hf : FitsP l) (h0 : 0 ≤ t) (h1 : t < 96) :
    Calls Tryz.prog 175 #[.slice a l.length cap, .int .i64 t] w fun e w' => e = .returned (.int .i64 (closedN l t : Nat)) ∧ Below w.heap.size w w' := by
  have hl := hf.len
  have C := Lib.hid (dySearch_any a cap l (t + 1) w h (by omega) hf.asc)
  have hlt : closedN l t ≤ l.length := closedN_le l t
  change Hid (Calls Tryz.prog 140 #[.slice a l.length cap, .int .i64 (t + 1)] w fun e w' => e = .returned (.tuple #[.int .i64 (closedN l t : Nat), .bool (l.contains (t + 1))]) ∧ ∃ q, w' = w.drewN q) at C
  generalize l.contains (t + 1) = c at C
  generalize closedN l t = n at *
  clear h hf
  go_enter Tryz.func175, Tryz.ntmps175
  go_wp2_with fail
  refine C.out.mono ?_
  rintro e w' ⟨rfl, q, rfl⟩
  go_wp2_with fail
  go_ret
  exact ⟨rfl, dyBelow_drewN (Below.refl _ _) q⟩

set_option maxHeartbeats 2000000 in
theorem closings_any (a : Option Addr) (cap : Nat) (l : List Int) (t : Int) (w : World) (h : IntsP w a cap l) (hf : FitsP l) (ht : dyRightB t = true) :
    Calls Tryz.prog 150 #[.slice a l.length cap, .int .i64 t] w fun e w' => e = .returned (.int .i64 (closeN l t)) ∧ Below w.heap.size w w' := by
  obtain ⟨t0, t1⟩ := rightB_true.1 ht
  have hl := hf.len
  have C1 := Lib.hid (fun W => of_any t W)
  have ho : ofD t = t / 96 := by simp [ofD, ht]
  have ho2 : ofT t = t % 96 := by simp [ofT, ht]
  rw [ho, ho2] at C1
  have HI := Lib.hid h
  have C2 := Lib.hid (fun W (hw : IntsP W a cap l) => closedBy_any a cap l (t % 96) W hw hf (by omega) (by omega))
  have E : closeN l t = t / 96 * l.length + (closedN l (t % 96) : Nat) := rfl
  obtain ⟨b1, b2, b3, b4⟩ := closeN_bounds hf t0 t1
  rw [E] at b3 b4
  rw [E]
  have hw1 : IntKind.i64.wrap (t / 96 * l.length) = t / 96 * l.length := IntWalk.i64_in _ (by omega)
  have hc := closedN_le l (t % 96)
  generalize closedN l (t % 96) = n at *
  have hw2 : IntKind.i64.wrap (t / 96 * l.length + n) = t / 96 * l.length + n := IntWalk.i64_in _ (by omega)
  have q0 : 0 ≤ t / 96 := by omega
  have q1 : t / 96 ≤ 1099511627776 := by omega
  clear h hf ht ho ho2 E
  go_enter Tryz.func150, Tryz.ntmps150
  go_wp2_with fail
  refine (C1.out _).mono ?_
  rintro e w' ⟨rfl, rfl⟩
  go_wp2_with fail
  refine (C2.out _ HI.out).mono ?_
  rintro e w' ⟨rfl, b5⟩
  go_wp2_with fail
  go_ret
  exact ⟨rfl, b5⟩
end

/- DyPass: What Passed of package day answers, and the document's Closes and Next. -/
section
set_option maxRecDepth 100000
open Go.RowKit

theorem pass_bad {l : List Int} {t u : Int} (h : passOk l t u = false) : passV l t u = 0 ∧ passE l t u = 31 := by simp [passV, passE, h]

set_option maxHeartbeats 2000000 in
theorem passed_any (a : Option Addr) (cap : Nat) (l : List Int) (t u : Int) (w : World) (h : IntsP w a cap l) (hm : l.length ≤ maxLen) :
    Calls Tryz.prog 121 #[.slice a l.length cap, .int .i64 t, .int .i64 u] w (PairB (passV l t u) (passE l t u) w) := by
  have C0 := Lib.hid (areDoors_any a cap l w h hm)
  have HI := Lib.hid h
  clear h hm
  cases hF : fitsB l with
  | false =>
    have E := pass_bad (show passOk l t u = false by simp [passOk, hF])
    rw [E.1, E.2]
    rw [hF] at C0
    clear hF E
    go_enter Tryz.func121, Tryz.ntmps121
    go_wp2_with fail
    refine C0.out.mono ?_
    rintro e w' ⟨rfl, b1⟩
    go_wp2_with fail
    go_ret2
    exact ⟨rfl, b1⟩
  | true =>
    have hf := fitsB_iff.1 hF
    rw [hF] at C0
    cases hT : dyRightB t with
    | false =>
      have E := pass_bad (show passOk l t u = false by simp [passOk, hT])
      rw [E.1, E.2]
      have HT := Lib.hid hT
      clear hF hT hf E
      go_enter Tryz.func121, Tryz.ntmps121
      go_wp2_with fail
      refine C0.out.mono ?_
      rintro e w' ⟨rfl, b1⟩
      go_wp2_with fail
      refine (dyRight_any _ _).mono ?_
      rintro e w' ⟨rfl, rfl⟩
      rw [HT.out]
      go_wp2_with fail
      go_ret2
      exact ⟨rfl, b1⟩
    | true =>
      cases hU : dyRightB u with
      | false =>
        have E := pass_bad (show passOk l t u = false by simp [passOk, hU])
        rw [E.1, E.2]
        have HT := Lib.hid hT
        have HU := Lib.hid hU
        clear hF hT hU hf E
        go_enter Tryz.func121, Tryz.ntmps121
        go_wp2_with fail
        refine C0.out.mono ?_
        rintro e w' ⟨rfl, b1⟩
        go_wp2_with fail
        refine (dyRight_any _ _).mono ?_
        rintro e w' ⟨rfl, rfl⟩
        rw [HT.out]
        go_wp2_with fail
        refine (dyRight_any _ _).mono ?_
        rintro e w' ⟨rfl, rfl⟩
        rw [HU.out]
        go_wp2_with fail
        go_ret2
        exact ⟨rfl, b1⟩
      | true =>
        cases hO : decide (u < t) with
        | true =>
          have E := pass_bad (show passOk l t u = false by simp at hO; simp [passOk]; omega)
          rw [E.1, E.2]
          have HT := Lib.hid hT
          have HU := Lib.hid hU
          clear hF hT hU hf E
          go_enter Tryz.func121, Tryz.ntmps121
          go_wp2_with fail
          refine C0.out.mono ?_
          rintro e w' ⟨rfl, b1⟩
          go_wp2_with fail
          refine (dyRight_any _ _).mono ?_
          rintro e w' ⟨rfl, rfl⟩
          rw [HT.out]
          go_wp2_with fail
          refine (dyRight_any _ _).mono ?_
          rintro e w' ⟨rfl, rfl⟩
          rw [HU.out]
          go_wp2_with fail
          go_ret2
          exact ⟨rfl, b1⟩
        | false =>
          have hO' : t ≤ u := by simpa using hO
          have hok : passOk l t u = true := by simp [passOk, hF, hT, hU, hO']
          have E1 : passV l t u = closeN l u - closeN l t := by simp [passV, hok]
          have E2 : passE l t u = 0 := by simp [passE, hok]
          rw [E1, E2]
          obtain ⟨t0, t1⟩ := rightB_true.1 hT
          obtain ⟨u0, u1⟩ := rightB_true.1 hU
          obtain ⟨-, -, b3, b4⟩ := closeN_bounds hf t0 t1
          obtain ⟨-, -, b5, b6⟩ := closeN_bounds hf u0 u1
          have C1 := Lib.hid (fun W (hw : IntsP W a cap l) => closings_any a cap l u W hw hf hU)
          have C2 := Lib.hid (fun W (hw : IntsP W a cap l) => closings_any a cap l t W hw hf hT)
          have HT := Lib.hid hT
          have HU := Lib.hid hU
          clear hF hT hU hf E1 E2 hok hO'
          generalize closeN l u = cu at *
          generalize closeN l t = ct at *
          go_enter Tryz.func121, Tryz.ntmps121
          go_wp2_with fail
          refine C0.out.mono ?_
          rintro e w1 ⟨rfl, b1⟩
          go_wp2_with fail
          refine (dyRight_any _ _).mono ?_
          rintro e w' ⟨rfl, rfl⟩
          rw [HT.out]
          go_wp2_with fail
          refine (dyRight_any _ _).mono ?_
          rintro e w' ⟨rfl, rfl⟩
          rw [HU.out]
          go_wp2_with fail
          refine (C1.out _ (HI.out.below b1)).mono ?_
          rintro e w2 ⟨rfl, b2⟩
          have b7 := b1.trans (b2.mono b1.size)
          go_wp2_with fail
          refine (C2.out _ (HI.out.below b7)).mono ?_
          rintro e w3 ⟨rfl, b8⟩
          have b9 := b7.trans (b8.mono b7.size)
          go_wp2_with fail
          go_ret2
          exact ⟨rfl, b9⟩
end

/- DyDoors: What Doors of package day answers. -/
section
set_option maxRecDepth 100000
open Go.RowKit

/-- Doors and an error's number, the doors in memory of the call's own. -/
def Doored (l : List Int) (w : World) (e : Ending) (w' : World) : Prop := ∃ a cap, e = .returned (.tuple #[.slice a (doorsV l).length cap, .int .i64 (doorsE l)]) ∧ OwnI w' w.heap.size (.slice a (doorsV l).length cap) (doorsV l) ∧ Below w.heap.size w w'

theorem addDoor_in {acc : List Int} {x : Int} (h : acc.contains x = false) : addDoor acc x = putAt acc (acc.countP (fun y => decide (y < x))) x := by
  unfold addDoor
  rw [h]; rfl
theorem addDoor_there {acc : List Int} {x : Int} (h : acc.contains x = true) : addDoor acc x = acc := by
  unfold addDoor
  rw [h]; rfl

set_option maxHeartbeats 2000000 in
theorem doors_any (a : Option Addr) (cap : Nat) (l : List Int) (w : World) (h : IntsP w a cap l) (hm : l.length ≤ maxLen) :
    Calls Tryz.prog 97 #[.slice a l.length cap] w (Doored l w) := by
  have H := Lib.hid h
  clear h
  unfold maxLen at hm
  go_enter Tryz.func97, Tryz.ntmps97
  go_wp2_with fail
  go_loopw [4, 11] (fun s i wr => ∃ (k : Nat) (acc : List Int), k ≤ l.length ∧ i = .int .i64 k ∧ Hid (OwnI wr w.heap.size s acc) ∧ Hid (doorsFrom [] l = doorsFrom acc (l.drop k)) ∧ Hid (acc.Pairwise (· < ·)) ∧ Hid (∀ y ∈ acc, 0 ≤ y ∧ y ≤ 95) ∧ Below w.heap.size w wr) (fun _ i _ => l.length - (intOf i).toNat)
  case atStart => exact ⟨0, [], Nat.zero_le _, rfl, Lib.hid (OwnI.nil _ _), Lib.hid rfl, Lib.hid (by simp), Lib.hid (by simp), Below.refl _ _⟩
  case round =>
    obtain ⟨k, acc, hk, rfl, HO, HS, HA, HR, hbw⟩ := hrel
    by_cases hlt : k < l.length
    · have hne : l ≠ [] := by intro e; subst e; simp at hlt
      obtain ⟨b1, o1, rfl, q1, r1⟩ := (H.out.below hbw).cell hne
      have g1 := r1 k _ (List.getElem?_eq_getElem hlt)
      have p1 := H.out.cap
      have HD := Lib.hid (List.drop_eq_getElem_cons hlt)
      generalize l[k] = x at *
      clear r1 hne
      cases hx : doorB x with
      | false =>
        have E := Lib.hid (show doorsV l = [] by
          unfold doorsV
          rw [HS.out, HD.out, doorsFrom, hx]; rfl)
        have E2 := Lib.hid (show doorsE l = 31 by unfold doorsE; rw [E.out]; rfl)
        have HX := Lib.hid hx
        clear hx
        go_wp2_with fail
        refine (isDoor_any _ _).mono ?_
        rintro e w' ⟨rfl, rfl⟩
        rw [HX.out]
        go_wp2_with fail
        go_ret2
        exact ⟨none, 0, by rw [E.out, E2.out]; rfl, by rw [E.out]; exact OwnI.nil _ _, hbw⟩
      | true =>
        have HX := Lib.hid hx
        obtain ⟨a2, c2, e2, i2⟩ := HO.out.ints
        subst e2
        have hfew := few_doors HA.out HR.out
        have C1 := Lib.hid (dySearch_any a2 c2 acc x _ i2 (by omega) HA.out)
        have HA2 := Lib.hid (asc_addDoor (x := x) HA.out)
        have HR2 := Lib.hid (rng_addDoor HR.out hx)
        have HN := Lib.hid (show doorsFrom [] l = doorsFrom (addDoor acc x) (l.drop (k + 1)) by
          rw [HS.out, HD.out, doorsFrom, hx]; rfl)
        have hn : acc.countP (fun y => decide (y < x)) ≤ acc.length := List.countP_le_length
        clear hx i2
        cases ht : acc.contains x with
        | true =>
          rw [addDoor_there ht] at HA2 HR2 HN
          rw [ht] at C1
          clear ht
          generalize acc.countP (fun y => decide (y < x)) = n at *
          go_wp2_with fail
          refine (isDoor_any _ _).mono ?_
          rintro e w' ⟨rfl, rfl⟩
          rw [HX.out]
          go_wp2_with fail
          refine C1.out.mono ?_
          rintro e w1 ⟨rfl, q, rfl⟩
          go_wp2_with fail
          go_roundw
          case rel => exact ⟨k + 1, acc, by omega, by go_num, Lib.hid (HO.out.below (dyBelow_drewN (Below.refl _ _) q)), HN, HA2, HR2, dyBelow_drewN hbw q⟩
          case measure => simp [intOf]; omega
        | false =>
          rw [addDoor_in ht] at HA2 HR2 HN
          rw [ht] at C1
          clear ht
          generalize acc.countP (fun y => decide (y < x)) = n at *
          have C2 := Lib.hid (fun q => insert_any w.heap.size a2 c2 acc n x _ (HO.out.below (dyBelow_drewN (Below.refl _ wr) q)) hbw.size hn (by omega))
          go_wp2_with fail
          refine (isDoor_any _ _).mono ?_
          rintro e w' ⟨rfl, rfl⟩
          rw [HX.out]
          go_wp2_with fail
          refine C1.out.mono ?_
          rintro e w1 ⟨rfl, q, rfl⟩
          go_wp2_with fail
          refine (C2.out q).mono ?_
          rintro e w2 ⟨v', rfl, o2, b2⟩
          go_wp2_with fail
          go_roundw
          case rel => exact ⟨k + 1, _, by omega, by go_num, Lib.hid o2, HN, HA2, HR2, ((dyBelow_drewN hbw q).alloc hbw.size _).trans b2⟩
          case measure => simp [intOf]; omega
    · have E := Lib.hid (show doorsV l = acc by
        unfold doorsV
        rw [HS.out, List.drop_eq_nil_of_le (by omega), doorsFrom]; rfl)
      obtain ⟨a2, c2, e2, i2⟩ := HO.out.ints
      subst e2
      have hfew := few_doors HA.out HR.out
      clear i2
      cases he : acc.isEmpty with
      | true =>
        have he' : acc = [] := List.isEmpty_iff.1 he
        subst he'
        have E2 := Lib.hid (show doorsE l = 31 by unfold doorsE; rw [E.out]; rfl)
        go_wp2_with fail
        go_ret2
        exact ⟨none, 0, by rw [E.out, E2.out]; rfl, by rw [E.out]; exact OwnI.nil _ _, hbw⟩
      | false =>
        have E2 := Lib.hid (show doorsE l = 0 by unfold doorsE; rw [E.out, he]; rfl)
        have hpos : ¬ ((acc.length : Int) = 0) := by
          have : acc ≠ [] := by intro e; subst e; simp at he
          have := List.length_pos_iff.2 this
          omega
        clear he
        go_wp2_with fail
        go_ret2
        exact ⟨a2, c2, by rw [E.out, E2.out]; rfl, by rw [E.out]; exact HO.out, hbw⟩

theorem OwnI.setRow {w : World} {base : Nat} {v : Value} {ls : List Int} (h : OwnI w base v ls) {k : Nat} (hk : k < base) (cs : Array Value) : OwnI (w.setRow k cs) base v ls := by
  refine ⟨h.1, ?_⟩
  rcases h.2 with h1 | ⟨g, cap, cur, e, h1, h2, h3⟩
  · exact .inl h1
  · exact .inr ⟨g, cap, cur, e, h1, (setRow_other _ _ g _ (by omega)).trans h2, h3⟩
theorem OwnI.at {w : World} {base : Nat} {a : Option Addr} {cap : Nat} {ls : List Int} (h : OwnI w base (.slice a ls.length cap) ls) : IntsP w a cap ls := by
  obtain ⟨a2, c2, e, i⟩ := h.ints
  injection e with e1 _ e2
  subst e1 e2
  exact i
end

/- DyRefDoors: What the document's Doors answers. -/
section
set_option maxRecDepth 100000
open Go.RowKit

theorem OwnI.block {w : World} {base : Nat} {v : Value} {ls : List Int} (h : OwnI w base v ls) : ∀ k, v.ownBlock = some k → base ≤ k := by
  intro k hk
  rcases h.2 with ⟨rfl, _⟩ | ⟨g, cap, cur, rfl, h1, _⟩
  · simp [Value.ownBlock] at hk
  · simp [Value.ownBlock] at hk
    omega
end

end Go.Proofs.YtfmpibmhhfmajaaGreatDoor
