/- Plates on which nobody counts, and what Fail leaves of them. -/
import Derived.Test.YtnnikgchffkalaaPlain
namespace Go.Proofs.Ytnnikgchffkalaa

/-- It has power, nobody counts, and what was written last is what is loose, laid over what is sure. -/
structure Calm (P : Pl) : Prop where
  left : P.left = -1
  off : P.off = false
  last : P.last = layAll P.sure P.loose

theorem Calm.spend {P : Pl} (h : Calm P) : P.spend = (0, P) := by
  have h1 := h.left
  have h2 := h.off
  cases P
  simp only at h1 h2
  subst h1 h2
  simp [Pl.spend]

theorem Calm.has {P : Pl} (h : Calm P) {i : Int} {c : List Nat} (hi : P.has i = true) : P.put i c = (0, { P with last := P.last.set i.toNat c, loose := P.loose ++ [(i.toNat, c)] }) := by
  simp [Pl.put, hi, h.spend]
theorem Pl.none {P : Pl} {i : Int} {c : List Nat} (hi : P.has i = false) : P.put i c = (71, P) := by simp [Pl.put, hi]

theorem Calm.put {P : Pl} (h : Calm P) (i : Int) (c : List Nat) : Calm (P.put i c).2 ∧ (P.put i c).2.sure = P.sure ∧ (P.put i c).2.loose.length ≤ P.loose.length + 1 := by
  cases hi : P.has i with
  | true =>
    rw [h.has hi]
    exact ⟨⟨h.left, h.off, by simp only [h.last, layAll_append, layAll]⟩, rfl, by simp⟩
  | false =>
    rw [Pl.none hi]
    exact ⟨h, rfl, Nat.le_succ _⟩

theorem Calm.flush {P : Pl} (h : Calm P) : P.flush = (0, { P with sure := P.last, loose := [] }) := by
  simp [Pl.flush, h.spend, h.last]

theorem calm_new (n : Nat) : Calm (Pl.new n) := ⟨rfl, rfl, rfl⟩

/-- Where nothing was put, nothing turns. -/
theorem failL_other (keep : List Nat) (torn at_ : Int) (i : Nat) (l : List (Nat × List Nat)) : ∀ (k : Nat) (s : List (List Nat)), (∀ x ∈ l, x.1 ≠ i) → (failL keep torn at_ k l s).getD i [] = s.getD i [] := by
  induction l with
  | nil => intro k s _; rfl
  | cons x r ih =>
    intro k s h
    have h1 := h x (by simp)
    refine (ih _ _ (fun y hy => h y (by simp [hy]))).trans ?_
    rw [List.getD_eq_getElem?_getD, List.getD_eq_getElem?_getD, List.getElem?_set_ne h1]
    rw [List.getD_eq_getElem?_getD]

/-- Where all is kept, all is. -/
theorem failL_all (keep : List Nat) (torn at_ : Int) (l : List (Nat × List Nat)) : ∀ (k : Nat) (s : List (List Nat)), (∀ j, j < l.length → keptN keep torn at_ (k + j) = 64) → Cells s → Puts s.length l → failL keep torn at_ k l s = layAll s l := by
  induction l with
  | nil => intro k s _ _ _; rfl
  | cons x r ih =>
    intro k s h hs hp
    have h1 := hp x (by simp)
    have h0 := h 0 (by simp)
    rw [Nat.add_zero] at h0
    obtain ⟨i, c⟩ := x
    unfold failL layAll
    rw [h0, tear_all h1.2 (getD_cell hs h1.1)]
    refine ih (k + 1) _ (fun j hj => ?_) (hs.set h1.2) (fun y hy => ?_)
    · have := h (j + 1) (by simp; omega)
      rwa [show k + 1 + j = k + (j + 1) by omega]
    · rw [List.length_set]
      exact hp y (by simp [hy])

def onesL : List Nat := List.replicate 20 255

theorem ones_kept {k : Nat} (hk : k < 160) : keptN onesL (-1) 0 k = 64 := by
  have hb : bitOf onesL k = true := by
    unfold bitOf onesL
    rw [List.getElem?_replicate, if_pos (by omega)]
    have : k % 8 < 8 := Nat.mod_lt _ (by omega)
    generalize k % 8 = r at *
    simp only [beq_iff_eq]
    rcases r with _ | _ | _ | _ | _ | _ | _ | _ | r
    all_goals first | rfl | omega
  unfold keptN
  rw [if_neg (by omega), if_pos hb]

theorem fail_ones {P : Pl} (h : Calm P) (hg : P.Good) (hl : P.loose.length ≤ 160) : P.fail onesL (-1) 0 = { P with sure := P.last, loose := [] } := by
  have e := failL_all onesL (-1) 0 P.loose 0 P.sure (fun j hj => ones_kept (by omega)) hg.cs hg.lo
  unfold Pl.fail
  rw [e, ← h.last]
  have h1 := h.left
  have h2 := h.off
  cases P
  simp only at h1 h2
  subst h1 h2
  rfl

/-- The first k of these, the others of those. -/
def mixL (a b : List (List Nat)) (k : Nat) : List (List Nat) := a.take k ++ b.drop k

theorem mixL_zero (a b : List (List Nat)) : mixL a b 0 = b := by simp [mixL]
theorem mixL_all {a b : List (List Nat)} (h : a.length = b.length) : mixL a b a.length = a := by
  unfold mixL
  rw [List.take_of_length_le (Nat.le_refl _), List.drop_eq_nil_of_le (by omega), List.append_nil]
theorem mixL_len {a b : List (List Nat)} (h : a.length = b.length) {k : Nat} (hk : k ≤ a.length) : (mixL a b k).length = a.length := by
  unfold mixL
  rw [List.length_append, List.length_take, List.length_drop]
  omega
theorem mixL_set {a b : List (List Nat)} (h : a.length = b.length) {k : Nat} (hk : k < a.length) : (mixL a b k).set k (a.getD k []) = mixL a b (k + 1) := by
  have h1 : (a.take k).length = k := by rw [List.length_take]; omega
  unfold mixL
  have e : a.take (k + 1) = a.take k ++ [a[k]] := by rw [List.take_add_one, List.getElem?_eq_getElem hk]; rfl
  rw [List.set_append_right _ _ (by omega), h1, Nat.sub_self, List.drop_eq_getElem_cons (by omega), List.set_cons_zero, List.getD_eq_getElem?_getD, List.getElem?_eq_getElem hk, e, List.append_assoc]
  rfl
theorem mixL_cells {a b : List (List Nat)} (ha : Cells a) (hb : Cells b) (k : Nat) : Cells (mixL a b k) := by
  intro c hc
  rcases List.mem_append.1 hc with h | h
  · exact ha c (List.mem_of_mem_take h)
  · exact hb c (List.mem_of_mem_drop h)

end Go.Proofs.Ytnnikgchffkalaa
