/- Plain facts on lines, as lists: which can be, each thing once, without some pieces: no program is walked here. -/
import Derived.Test.YtpmgafmbmjokhaaDoorLbCmp
namespace Go.Proofs.YtpmgafmbmjokhaaDoor

/-- A line: what it is called, how many pieces, how heavy one is. -/
structure Ln where
  sku : ByteArray
  qty : Int
  wt : Int

def kcmp (a b : ByteArray) : Int := cmpL a.data.toList b.data.toList

theorem kcmp_three (a b : ByteArray) : kcmp a b = -1 ∨ kcmp a b = 0 ∨ kcmp a b = 1 := cmpL_three _ _
theorem kcmp_swap (a b : ByteArray) : kcmp b a = - kcmp a b := cmpL_swap _ _
theorem kcmp_zero (a b : ByteArray) : kcmp a b = 0 ↔ a = b := by
  unfold kcmp
  rw [cmpL_zero]
  constructor
  · intro h
    cases a; cases b
    simp only at h
    rw [Array.toList_inj] at h
    rw [h]
  · rintro rfl; rfl
theorem kcmp_self (a : ByteArray) : kcmp a a = 0 := (kcmp_zero a a).2 rfl
theorem kcmp_trans {a b c : ByteArray} (h1 : kcmp a b < 0) (h2 : kcmp b c < 0) : kcmp a c < 0 := by
  have h := cmpL_trans _ _ _ (Int.le_of_lt h1) (Int.le_of_lt h2)
  rcases Int.lt_or_eq_of_le h with h | h
  · exact h
  · have := (kcmp_zero a c).1 h
    subst this
    have := kcmp_swap a b
    omega

def lineB (x : Ln) : Bool := rightB x.sku.data.toList && decide (1 ≤ x.qty ∧ x.qty ≤ 1000 ∧ 0 ≤ x.wt ∧ x.wt ≤ 100000)
theorem lineB_of {x : Ln} (h : lineB x = true) : rightB x.sku.data.toList = true ∧ 1 ≤ x.qty ∧ x.qty ≤ 1000 ∧ 0 ≤ x.wt ∧ x.wt ≤ 100000 := by simpa [lineB] using h
theorem lineB_mk {x : Ln} (h0 : rightB x.sku.data.toList = true) (h : 1 ≤ x.qty ∧ x.qty ≤ 1000 ∧ 0 ≤ x.wt ∧ x.wt ≤ 100000) : lineB x = true := by simp [lineB, h0, h]

def klt (a b : Ln) : Prop := kcmp a.sku b.sku < 0
theorem klt_irr {a : Ln} (h : klt a a) : False := by unfold klt at h; rw [kcmp_self] at h; omega
theorem klt_asym {a b : Ln} (h1 : klt a b) (h2 : klt b a) : False := klt_irr (a := a) (kcmp_trans h1 h2)
abbrev sortedK (l : List Ln) : Prop := l.Pairwise klt

/-- Stands x behind the line p? -/
def behindB (p : Option Ln) (x : Ln) : Bool := match p with | none => true | some y => decide (kcmp y.sku x.sku < 0)
/-- The lines of l behind the line p. -/
def goodFrom (p : Option Ln) : List Ln → Bool
  | [] => true
  | x :: r => lineB x && behindB p x && goodFrom (some x) r
def rightLB (l : List Ln) : Bool := decide (1 ≤ l.length ∧ l.length ≤ 8) && goodFrom none l

theorem goodFrom_some : ∀ (l : List Ln) (p : Ln), goodFrom (some p) l = true ↔ (∀ x ∈ l, lineB x = true) ∧ sortedK (p :: l)
  | [], p => by simp [goodFrom, sortedK]
  | x :: r, p => by
    have ih := goodFrom_some r x
    simp only [goodFrom, behindB, Bool.and_eq_true, decide_eq_true_eq, ih]
    constructor
    · rintro ⟨⟨h1, h2⟩, h3, h4⟩
      refine ⟨?_, ?_⟩
      · intro y hy
        rcases List.mem_cons.1 hy with rfl | hy
        · exact h1
        · exact h3 y hy
      · rw [sortedK, List.pairwise_cons]
        refine ⟨?_, h4⟩
        intro y hy
        rcases List.mem_cons.1 hy with rfl | hy
        · exact h2
        · exact kcmp_trans h2 ((List.pairwise_cons.1 h4).1 y hy)
    · rintro ⟨h1, h2⟩
      obtain ⟨h3, h4⟩ := List.pairwise_cons.1 h2
      exact ⟨⟨h1 x (by simp), h3 x (by simp)⟩, fun y hy => h1 y (by simp [hy]), h4⟩

theorem goodFrom_none (l : List Ln) : goodFrom none l = true ↔ (∀ x ∈ l, lineB x = true) ∧ sortedK l := by
  cases l with
  | nil => simp [goodFrom, sortedK]
  | cons x r =>
    simp only [goodFrom, behindB, Bool.and_true, Bool.and_eq_true, goodFrom_some]
    constructor
    · rintro ⟨h1, h3, h4⟩
      refine ⟨?_, h4⟩
      intro y hy
      rcases List.mem_cons.1 hy with rfl | hy
      · exact h1
      · exact h3 y hy
    · rintro ⟨h1, h2⟩
      exact ⟨h1 x (by simp), fun y hy => h1 y (by simp [hy]), h2⟩

theorem rightLB_iff (l : List Ln) : rightLB l = true ↔ (1 ≤ l.length ∧ l.length ≤ 8) ∧ (∀ x ∈ l, lineB x = true) ∧ sortedK l := by
  simp only [rightLB, Bool.and_eq_true, decide_eq_true_eq, goodFrom_none]

/-- The line ahead of a place. -/
def prevAt (l : List Ln) (k : Nat) : Option Ln := if k = 0 then none else l[k - 1]?
theorem goodFrom_step (l : List Ln) (k : Nat) (h : k < l.length) : goodFrom (prevAt l k) (l.drop k) = (lineB l[k] && behindB (prevAt l k) l[k] && goodFrom (prevAt l (k + 1)) (l.drop (k + 1))) := by
  rw [List.drop_eq_getElem_cons h, goodFrom]
  have : prevAt l (k + 1) = some l[k] := by simp [prevAt, h]
  rw [this]

end Go.Proofs.YtpmgafmbmjokhaaDoor
