/- Plain facts on texts that are labels with a blank between two. No program is named here. -/
import Derived.Test.YtobicfkbpoimnaaDoorPlain2
import Derived.Lib.Bytealg
import Derived.Lib.Join
namespace Go.Proofs.YtobicfkbpoimnaaDoor

/-- What stands ahead of the first blank; behind it; whether there is one. -/
def cf (l : List UInt8) : List UInt8 := l.takeWhile (· != 32)
def cr (l : List UInt8) : List UInt8 := (l.dropWhile (· != 32)).drop 1
def cm (l : List UInt8) : Bool := l.contains 32

theorem cut_cases (l : List UInt8) : (cm l = false ∧ Lib.indexByte l 32 = -1 ∧ cf l = l ∧ cr l = []) ∨
    ∃ i : Nat, cm l = true ∧ Lib.indexByte l 32 = i ∧ i + 1 ≤ l.length ∧ cf l = l.take i ∧ cr l = l.drop (i + 1) := by
  induction l with
  | nil => exact Or.inl ⟨rfl, rfl, rfl, rfl⟩
  | cons b r ih =>
    by_cases hb : b = 32
    · subst hb
      exact Or.inr ⟨0, by simp [cm], by simp [Lib.indexByte], by simp, by simp [cf], by simp [cr]⟩
    · have h1 : (b == 32) = false := by simpa using hb
      have h2 : cm (b :: r) = cm r := by
        unfold cm
        simp only [List.contains_cons]
        rw [show ((32 : UInt8) == b) = false by simpa using fun e => hb e.symm]
        simp
      have h3 : cf (b :: r) = b :: cf r := by simp [cf, List.takeWhile_cons, hb]
      have h4 : cr (b :: r) = cr r := by simp [cr, List.dropWhile_cons, hb]
      rw [h2, h3, h4]
      rcases ih with ⟨a1, a2, a3, a4⟩ | ⟨i, a1, a2, a3, a4, a5⟩
      · refine Or.inl ⟨a1, ?_, by rw [a3], a4⟩
        simp [Lib.indexByte, h1, a2]
      · refine Or.inr ⟨i + 1, a1, ?_, by simp; omega, by simp [a4], by simp [a5]⟩
        have : ((Lib.indexByte r 32) == -1) = false := by rw [a2]; simp
        simp only [Lib.indexByte, h1, this]
        rw [a2]
        simp

/-- A text cut at its blanks. -/
def words : List UInt8 → List (List UInt8)
  | [] => [[]]
  | c :: r => if c = 32 then [] :: words r else (c :: (words r).headD []) :: (words r).tail

theorem words_ne (l : List UInt8) : words l ≠ [] := by
  cases l with
  | nil => simp [words]
  | cons c r => simp only [words]; split <;> simp

theorem words_cut (l : List UInt8) : words l = if cm l then cf l :: words (cr l) else [l] := by
  induction l with
  | nil => rfl
  | cons b r ih =>
    by_cases hb : b = 32
    · subst hb
      simp [words, cm, cf, cr]
    · have h2 : cm (b :: r) = cm r := by
        unfold cm
        simp only [List.contains_cons]
        rw [show ((32 : UInt8) == b) = false by simpa using fun e => hb e.symm]
        simp
      have h3 : cf (b :: r) = b :: cf r := by simp [cf, List.takeWhile_cons, hb]
      have h4 : cr (b :: r) = cr r := by simp [cr, List.dropWhile_cons, hb]
      rw [h2, h3, h4]
      simp only [words, hb, if_false]
      rw [ih]
      split <;> simp

theorem words_len (l : List UInt8) : (words l).length ≤ l.length + 1 := by
  induction l with
  | nil => simp [words]
  | cons c r ih =>
    simp only [words]
    split
    · simp; omega
    · simp; omega

/-- The labels of a text; none: there are none such. -/
def splitO (l : List UInt8) : Option (List (List UInt8)) := if l = [] then some [] else if (words l).all rightB then some (words l) else none
def splitW (l : List UInt8) : List (List UInt8) := (splitO l).getD []
def splitE (l : List UInt8) : Int := if (splitO l).isSome then 0 else 11

theorem split_empty : splitW [] = [] ∧ splitE [] = 0 := ⟨rfl, rfl⟩
theorem split_bad {l : List UInt8} {x} (h : l ≠ []) (hx : x ∈ words l) (hr : rightB x = false) : splitW l = [] ∧ splitE l = 11 := by
  have : (words l).all rightB = false := by
    rw [List.all_eq_false]
    exact ⟨x, hx, by simp [hr]⟩
  simp [splitW, splitE, splitO, h, this]
theorem split_good {l : List UInt8} (h : l ≠ []) (hr : ∀ x ∈ words l, rightB x = true) : splitW l = words l ∧ splitE l = 0 := by
  have : (words l).all rightB = true := List.all_eq_true.2 hr
  simp [splitW, splitE, splitO, h, this]

theorem cut_len (l : List UInt8) : (cf l).length ≤ l.length ∧ (cr l).length ≤ l.length ∧ (cm l = true → (cr l).length < l.length) := by
  rcases cut_cases l with ⟨h1, _, h3, h4⟩ | ⟨i, _, _, h3, h4, h5⟩
  · rw [h3, h4, h1]; simp
  · rw [h4, h5]; simp; omega

theorem words_cut2 (l : List UInt8) : words l = cf l :: (if cm l then words (cr l) else []) := by
  rw [words_cut l]
  rcases cut_cases l with ⟨h1, _, h3, h4⟩ | ⟨i, h1, _⟩
  · rw [h1, h3]; rfl
  · rw [h1]; rfl

end Go.Proofs.YtobicfkbpoimnaaDoor
