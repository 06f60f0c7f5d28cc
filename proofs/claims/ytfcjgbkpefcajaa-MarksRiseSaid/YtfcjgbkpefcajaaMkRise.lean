/- What is put for a round at the first place of a side, in plain words. -/
import Derived.Test.YtfcjgbkpefcajaaMkPut
import Derived.Test.YtfcjgbkpefcajaaMkTop
namespace Go.Proofs.Ytfcjgbkpefcajaa

theorem sideL_get? (s : List (List Nat)) (sd j : Nat) : (sideL s sd)[j]? = if j < s.length / 2 then s[sd * (s.length / 2) + j]? else none := by
  unfold sideL
  rw [List.getElem?_take]
  split
  · rw [List.getElem?_drop]
  · rfl

theorem side_set_same {s : List (List Nat)} (hl : s.length = 9) {sd : Nat} (h : sd ≤ 1) (c : List Nat) : sideL (s.set (sd * 4) c) sd = c :: (sideL s sd).drop 1 := by
  apply List.ext_getElem?
  intro j
  rw [sideL_get?, List.length_set, hl]
  cases j with
  | zero =>
    rw [if_pos (by decide), show sd * (9 / 2) + 0 = sd * 4 from rfl, List.getElem?_set_self (by omega)]
    rfl
  | succ j =>
    rw [List.getElem?_cons_succ, List.getElem?_drop, sideL_get?, hl, Nat.add_comm 1 j]
    split
    · rw [List.getElem?_set_ne (by omega)]
    · rfl
theorem side_set_other {s : List (List Nat)} (hl : s.length = 9) {sd : Nat} (h : sd ≤ 1) (c : List Nat) : sideL (s.set (sd * 4) c) (1 - sd) = sideL s (1 - sd) := by
  apply List.ext_getElem?
  intro j
  rw [sideL_get?, sideL_get?, List.length_set, hl]
  split
  · rw [List.getElem?_set_ne (by rcases Nat.le_one_iff_eq_zero_or_eq_one.1 h with rfl | rfl <;> omega)]
  · rfl

theorem read_marked {r : Nat} (hr : isRoundB r = true) {l : List Nat} (hl : l.length ≤ 48) (t : List (List Nat)) : readS (markedC (markN r 0) l :: t) = (r, innerC (markedC (markN r 0) l) :: runS r 1 t) := by
  have hrm : r ≤ 1099511627776 ∧ 1 ≤ r := by simp [isRoundB] at hr; omega
  obtain ⟨h1, h2⟩ := numC_marked (markN_lt hrm.1 (by omega : 0 ≤ 100000)) hl
  have hd : markN r 0 / 65536 = r := by unfold markN; omega
  have hb : bearsC (markedC (markN r 0) l) (markN r 0) = true := by simp [bearsC, h1, h2]
  have hf : firstR (markedC (markN r 0) l :: t) = r := by
    show (if isRoundB (numC (markedC (markN r 0) l) 0 / 65536) && bearsC (markedC (markN r 0) l) (markN (numC (markedC (markN r 0) l) 0 / 65536) 0) then numC (markedC (markN r 0) l) 0 / 65536 else 0) = r
    rw [h1, hd, hr, hb]
    rfl
  unfold readS
  rw [hf, if_neg (by omega)]
  have hrun : runS r 0 (markedC (markN r 0) l :: t) = if bearsC (markedC (markN r 0) l) (markN r 0) then innerC (markedC (markN r 0) l) :: runS r 1 t else [] := rfl
  rw [hrun, hb]
  rfl

theorem top_set (s : List (List Nat)) (c : List Nat) : ∀ i, topL (s.set i c) ≤ max (topL s) (max (numC c 0 / 65536) (numC c 56 / 65536)) := by
  unfold topL
  induction s with
  | nil => intro i; simp [topM]
  | cons d t ih =>
    intro i
    cases i with
    | zero =>
      simp only [List.set_cons_zero, topM, max_div]
      omega
    | succ i =>
      have := ih i
      simp only [List.set_cons_succ, topM, max_div] at this ⊢
      omega

/-- A plate of nine cells with power, of which nobody counts. -/
structure Nine (P : Pl) (k top : Nat) : Prop where
  good : P.Good
  size : P.sure.length = 9
  left : P.left = -1
  off : P.off = false
  few : P.loose.length ≤ k
  top : topL P.last ≤ top

theorem nine_new : Nine (Pl.new 9) 0 0 := ⟨Pl.Good.new (by omega), by simp [Pl.new], rfl, rfl, by simp [Pl.new], by decide +kernel⟩

theorem Nine.len {P : Pl} {k top : Nat} (h : Nine P k top) : P.last.length = 9 := h.good.size.trans h.size

theorem Nine.put {P : Pl} {k top : Nat} (h : Nine P k top) {sd r : Nat} (hsd : sd ≤ 1) (hr : isRoundB r = true) {l : List Nat} (hl : l.length ≤ 48) (hb : Bytes l) (hk : k < 100000) :
    (P.mput (sd : Int) r 0 l).1 = 0 ∧ (P.mput (sd : Int) r 0 l).2.last = P.last.set (sd * 4) (markedC (markN r 0) l) ∧ Nine (P.mput (sd : Int) r 0 l).2 (k + 1) (max top r) := by
  have hok : okPut P.sure.length (sd : Int) r 0 l.length = true := by
    unfold okPut
    rw [hr, h.size, show isSideB (sd : Int) = true by simp [isSideB]; omega]
    simp
    exact hl
  have hm : P.mput (sd : Int) r 0 l = P.put ((sd * 4 : Nat) : Int) (markedC (markN r 0) l) := by
    unfold Pl.mput
    rw [hok, h.size]
    rfl
  have hh : P.has ((sd * 4 : Nat) : Int) = true := by
    unfold Pl.has
    rw [h.size]
    simp
    omega
  have hs : P.spend = (0, P) := by
    obtain ⟨sure, last, loose, left, off⟩ := P
    have h1 := h.left
    have h2 := h.off
    simp only at h1 h2
    subst h1 h2
    rfl
  have hp : P.put ((sd * 4 : Nat) : Int) (markedC (markN r 0) l) = (0, { P with last := P.last.set (sd * 4) (markedC (markN r 0) l), loose := P.loose ++ [(sd * 4, markedC (markN r 0) l)] }) := by
    unfold Pl.put
    rw [hh, hs]
    rfl
  have hg := h.good.put (i := ((sd * 4 : Nat) : Int)) (markedC_is (markN r 0) hl hb) (by have := h.few; omega)
  rw [hm]
  rw [hp] at hg ⊢
  refine ⟨rfl, rfl, hg, h.size, h.left, h.off, ?_, ?_⟩
  · have := h.few
    simp
    exact this
  · have hrm : r ≤ 1099511627776 := by simp [isRoundB] at hr; omega
    obtain ⟨h1, h2⟩ := numC_marked (markN_lt hrm (by omega : 0 ≤ 100000)) hl
    have := top_set P.last (markedC (markN r 0) l) (sd * 4)
    rw [h1, h2] at this
    have hd : markN r 0 / 65536 = r := by unfold markN; omega
    rw [hd] at this
    have := h.top
    show topL (P.last.set (sd * 4) (markedC (markN r 0) l)) ≤ _
    omega

/-- What is told of both sides behind it. -/
theorem Nine.reads {P : Pl} {k top : Nat} (h : Nine P k top) {sd r : Nat} (hsd : sd ≤ 1) (hr : isRoundB r = true) {l : List Nat} (hl : l.length ≤ 48) (hb : Bytes l) (hk : k < 100000) :
    (∃ t, readL (P.mput (sd : Int) r 0 l).2.last (sd : Int) = (r, (l ++ List.replicate (48 - l.length) 0) :: t)) ∧ readL (P.mput (sd : Int) r 0 l).2.last ((1 - sd : Nat) : Int) = readL P.last ((1 - sd : Nat) : Int) := by
  obtain ⟨_, e, _⟩ := h.put hsd hr hl hb hk
  have hside : ∀ s : Nat, s ≤ 1 → isSideB (s : Int) = true := fun s hs => by simp [isSideB]; omega
  have hrd : ∀ (x : List (List Nat)) (s : Nat), s ≤ 1 → readL x (s : Int) = readS (sideL x s) := fun x s hs => by
    unfold readL
    rw [hside s hs]
    rfl
  constructor
  · rw [hrd _ _ hsd, e, side_set_same h.len hsd, read_marked hr hl, innerC_marked _ hl]
    exact ⟨_, rfl⟩
  · rw [hrd _ _ (by omega), hrd _ _ (by omega), e, side_set_other h.len hsd]

end Go.Proofs.Ytfcjgbkpefcajaa
