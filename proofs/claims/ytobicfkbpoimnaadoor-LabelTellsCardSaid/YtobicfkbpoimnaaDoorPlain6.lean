/- Plain facts on digits that are counted up one by one, as the document's own words do. No program is named here. -/
import Derived.Test.YtobicfkbpoimnaaDoorPlain5
namespace Go.Proofs.YtobicfkbpoimnaaDoor

theorem td_in (l : List UInt8) : ∀ p k, k < td l p → isDg (l.getD (p - 1 - k) 0) = true
  | 0, k, h => by simp [td] at h
  | p + 1, k, h => by
    by_cases hd : isDg (l.getD p 0) = true
    · have e : td l (p + 1) = td l p + 1 := by simp only [td, hd, if_true]
      rw [e] at h
      cases k with
      | zero => simpa using hd
      | succ k =>
        have := td_in l p k (by omega)
        rw [show p + 1 - 1 - (k + 1) = p - 1 - k from by omega]
        exact this
    · have e : td l (p + 1) = 0 := by simp only [td, hd, if_false, Bool.false_eq_true]
      omega

theorem td_out (l : List UInt8) : ∀ p, td l p < p → isDg (l.getD (p - 1 - td l p) 0) = false
  | 0, h => by omega
  | p + 1, h => by
    by_cases hd : isDg (l.getD p 0) = true
    · have e : td l (p + 1) = td l p + 1 := by simp only [td, hd, if_true]
      rw [e] at h ⊢
      have := td_out l p (by omega)
      rw [show p + 1 - 1 - (td l p + 1) = p - 1 - td l p from by omega]
      exact this
    · have e : td l (p + 1) = 0 := by simp only [td, hd, if_false, Bool.false_eq_true]
      rw [e]
      simpa using hd

/-- The digits counted up from the right: the new ones, and what is carried. -/
def rt : List UInt8 → List UInt8 × Nat
  | [] => ([], 1)
  | c :: d => (UInt8.ofNat (48 + (c.toNat - 48 + (rt d).2) % 10) :: (rt d).1, (c.toNat - 48 + (rt d).2) / 10)

theorem rt_carry {d : List UInt8} (hd : ∀ c ∈ d, isDg c = true) : (rt d).2 ≤ 1 := by
  induction d with
  | nil => simp [rt]
  | cons c r ih =>
    have h1 := ih (fun x hx => hd x (by simp [hx]))
    have h2 := hd c (by simp)
    unfold isDg at h2
    simp at h2
    simp only [rt]
    omega

theorem rt_len (d : List UInt8) : (rt d).1.length = d.length := by
  induction d with
  | nil => rfl
  | cons c r ih => simp [rt, ih]

theorem rt_nines (n : Nat) : rt (List.replicate n 57) = (List.replicate n 48, 1) := by
  induction n with
  | zero => rfl
  | succ n ih =>
    have e1 : UInt8.ofNat (48 + (UInt8.toNat 57 - 48 + 1) % 10) = 48 := by decide
    have e2 : (UInt8.toNat 57 - 48 + 1) / 10 = 1 := by decide
    rw [List.replicate_succ, rt, ih, List.replicate_succ]
    simp only [e1, e2]

theorem u8_same {c : UInt8} (h : isDg c = true) : UInt8.ofNat (48 + (c.toNat - 48) % 10) = c := by
  unfold isDg at h
  simp at h
  apply UInt8.toNat_inj.1
  rw [UInt8.toNat_ofNat']
  omega

theorem rt_keep {k : List UInt8} (hk : ∀ c ∈ k, isDg c = true) {x t : List UInt8} (h : rt x = (t, 0)) : rt (k ++ x) = (k ++ t, 0) := by
  induction k with
  | nil => exact h
  | cons c r ih =>
    have := ih (fun y hy => hk y (by simp [hy]))
    have h2 := hk c (by simp)
    rw [List.cons_append, rt, this]
    simp only [Nat.add_zero, u8_same h2, List.cons_append]
    unfold isDg at h2
    simp at h2
    rw [show (c.toNat - 48) / 10 = 0 from by omega]

theorem rt_more {d : List UInt8} (hd : ∀ c ∈ d, isDg c = true) (hne : d ≠ []) : (if (rt d).2 = 1 then 49 :: (rt d).1 else (rt d).1) = oneMoreL d := by
  obtain ⟨n, e, hn⟩ := keptL_suffix d
  have hz : noughts d = List.replicate n 48 := by unfold noughts; rw [repeat_eq, hn]
  unfold oneMoreL
  rw [if_neg hne, hz]
  split
  · split
    · rename_i h1 h2
      rw [h2, List.nil_append] at e
      rw [e, rt_nines]
    · rename_i h1 h2
      exfalso
      have hl := kept_last_dg hd h2
      have hs := last_split h2
      generalize (keptL d).getLastD 0 = c at *
      have hk : ∀ x ∈ (keptL d).dropLast, isDg x = true := fun x hx => keptL_mem hd x (List.dropLast_subset _ hx)
      generalize (keptL d).dropLast = k at *
      rw [hs, List.append_assoc] at e
      have h3 : rt ([c] ++ List.replicate n 57) = (UInt8.ofNat (48 + (c.toNat - 48 + 1) % 10) :: List.replicate n 48, 0) := by
        rw [List.singleton_append, rt, rt_nines]
        simp only [Prod.mk.injEq, true_and]
        omega
      rw [e, rt_keep hk h3] at h1
      simp at h1
  · split
    · rename_i h1 h2
      rw [h2, List.nil_append] at e
      rw [e, rt_nines] at h1
      exact absurd rfl h1
    · rename_i h1 h2
      have hl := kept_last_dg hd h2
      have hs := last_split h2
      generalize (keptL d).getLastD 0 = c at *
      have hk : ∀ x ∈ (keptL d).dropLast, isDg x = true := fun x hx => keptL_mem hd x (List.dropLast_subset _ hx)
      generalize (keptL d).dropLast = k at *
      rw [hs, List.append_assoc] at e
      have h3 : rt ([c] ++ List.replicate n 57) = (UInt8.ofNat (48 + (c.toNat - 48 + 1) % 10) :: List.replicate n 48, 0) := by
        rw [List.singleton_append, rt, rt_nines]
        simp only [Prod.mk.injEq, true_and]
        omega
      rw [e, rt_keep hk h3]
      have h4 : 48 + (c.toNat - 48 + 1) % 10 = c.toNat.succ := by omega
      rw [h4]

theorem rt_drop (l : List UInt8) (j : Nat) (h : j < l.length) : rt (l.drop j) = (UInt8.ofNat (48 + ((l.getD j 0).toNat - 48 + (rt (l.drop (j + 1))).2) % 10) :: (rt (l.drop (j + 1))).1, ((l.getD j 0).toNat - 48 + (rt (l.drop (j + 1))).2) / 10) := by
  rw [drop_cons l j h, rt]

/-- The ten digits as a text, cut at one of them. -/
theorem ten_cut : ∀ q : Fin 10, (⟨#[48, 49, 50, 51, 52, 53, 54, 55, 56, 57]⟩ : ByteArray).extract q.val (q.val + 1) = ⟨#[UInt8.ofNat (48 + q.val)]⟩ := by decide +kernel

end Go.Proofs.YtobicfkbpoimnaaDoor
