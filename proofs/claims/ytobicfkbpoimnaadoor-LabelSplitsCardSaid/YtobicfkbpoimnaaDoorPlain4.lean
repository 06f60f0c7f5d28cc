/- Plain facts on joined labels and on labels that are cut: no program is named here. -/
import Derived.Test.YtobicfkbpoimnaaDoorPlain3
namespace Go.Proofs.YtobicfkbpoimnaaDoor

def no32 (l : List UInt8) : Prop := ∀ c ∈ l, c ≠ 32

theorem chunk_no32 {x : List UInt8} (h : isChunk x = true) : no32 x := by
  match x, h with
  | [c], h =>
    have h : one c = true := h
    intro d hd
    simp at hd
    subst hd
    intro e
    subst e
    simp [one, let1] at h
  | [c, d], h =>
    have h : two c d = true := h
    simp [two] at h
    intro e he
    simp at he
    intro e32
    subst e32
    rcases he with he | he
    · subst he; simp at h
    · subst he; simp at h
  | [], h => simp [isChunk] at h
  | _ :: _ :: _ :: _, h => simp [isChunk] at h

theorem right_no32 {l : List UInt8} (h : rightB l = true) : no32 l := by
  unfold rightB at h
  cases e : labOf l with
  | none => rw [e] at h; simp at h
  | some cs =>
    obtain ⟨h1, _⟩ := labOf_some.1 e
    obtain ⟨h4, h5⟩ := chunks_some h1
    rw [← h4]
    intro c hc
    obtain ⟨x, hx, hcx⟩ := List.mem_flatten.1 hc
    exact chunk_no32 (h5 x hx) c hcx

theorem words_app {x : List UInt8} (h : no32 x) (y : List UInt8) : words (x ++ 32 :: y) = x :: words y := by
  induction x with
  | nil => simp [words]
  | cons c r ih =>
    have hc : c ≠ 32 := h c (by simp)
    have := ih (fun d hd => h d (by simp [hd]))
    simp [words, hc, this]

theorem words_one {x : List UInt8} (h : no32 x) : words x = [x] := by
  induction x with
  | nil => rfl
  | cons c r ih =>
    have hc : c ≠ 32 := h c (by simp)
    have := ih (fun d hd => h d (by simp [hd]))
    simp [words, hc, this]

theorem join_two (x y : List UInt8) (r : List (List UInt8)) : Lib.join (x :: y :: r) [32] = x ++ 32 :: Lib.join (y :: r) [32] := by
  rw [Lib.join_cons, Lib.join_cons]
  simp [Lib.joinTail]

theorem words_join : ∀ {ls : List (List UInt8)}, ls ≠ [] → (∀ x ∈ ls, no32 x) → words (Lib.join ls [32]) = ls
  | [], h, _ => absurd rfl h
  | [x], _, h => by rw [Lib.join_one, words_one (h x (by simp))]
  | x :: y :: r, _, h => by
    rw [join_two, words_app (h x (by simp)), words_join (by simp) (fun z hz => h z (by simp only [List.mem_cons] at hz ⊢; exact Or.inr hz))]

theorem right_ne {l : List UInt8} (h : rightB l = true) : l ≠ [] := by
  intro e; subst e; exact absurd h (by decide)

theorem join_ne {ls : List (List UInt8)} (h : ls ≠ []) (hr : ∀ x ∈ ls, rightB x = true) : Lib.join ls [32] ≠ [] := by
  cases ls with
  | nil => exact absurd rfl h
  | cons x r =>
    rw [Lib.join_cons]
    have := right_ne (hr x (by simp))
    simp [this]

/-- Labels as a text, and back. -/
theorem split_join {ls : List (List UInt8)} (hr : ∀ x ∈ ls, rightB x = true) : splitW (Lib.join ls [32]) = ls ∧ splitE (Lib.join ls [32]) = 0 := by
  by_cases h : ls = []
  · subst h; exact split_empty
  · have hw := words_join h (fun x hx => right_no32 (hr x hx))
    have := split_good (join_ne h hr) (by rw [hw]; exact hr)
    rw [hw] at this
    exact this

theorem signs_len {l : List UInt8} (h : rightB l = true) : 1 ≤ signsI l ∧ signsI l ≤ l.length ∧ (l.length : Int) ≤ 2 * signsI l ∧ signsI l ≤ 16 := by
  unfold rightB at h
  cases e : labOf l with
  | none => rw [e] at h; simp at h
  | some cs =>
    obtain ⟨h1, h2, h3, _⟩ := labOf_some.1 e
    obtain ⟨h4, h5⟩ := chunks_some h1
    have := flatten_len h5
    have h6 : 0 < cs.length := List.length_pos_iff.2 h2
    rw [h4] at this
    simp only [signsI, e]
    omega

end Go.Proofs.YtobicfkbpoimnaaDoor
