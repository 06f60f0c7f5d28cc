/- Plain facts on bytes: numbers' bytes, in one way alone. -/
namespace Go.Proofs.Ytciijkognhdddaa

/-- Bytes: numbers below 256. -/
def Bytes (l : List Nat) : Prop := ∀ b ∈ l, b < 256

/-- A number's bytes. -/
def numL (n : Nat) : List Nat := if n < 128 then [n] else (n % 128 + 128) :: numL (n / 128)
termination_by n
decreasing_by omega

theorem numL_small {n : Nat} (h : n < 128) : numL n = [n] := by rw [numL, if_pos h]
theorem numL_great {n : Nat} (h : 128 ≤ n) : numL n = (n % 128 + 128) :: numL (n / 128) := by rw [numL, if_neg (by omega)]

theorem numL_pos (n : Nat) : 0 < (numL n).length := by
  rw [numL]
  split <;> simp

theorem numL_bytes (n : Nat) : Bytes (numL n) := by
  induction n using Nat.strongRecOn with
  | ind n ih =>
    by_cases h : n < 128
    · rw [numL_small h]; intro b hb; simp at hb; omega
    · rw [numL_great (by omega)]
      intro b hb
      rcases List.mem_cons.1 hb with rfl | hb
      · omega
      · exact ih _ (by omega) b hb

theorem pow7 (i : Nat) : 2 ^ (7 * i + 7) = 128 * 2 ^ (7 * i) := by rw [Nat.pow_add]; omega
theorem pow7s (i : Nat) : 2 ^ (7 * (i + 1)) = 128 * 2 ^ (7 * i) := by rw [Nat.mul_add, Nat.mul_one, pow7]
theorem pow7_pos (i : Nat) : 0 < 2 ^ (7 * i) := Nat.pos_of_ne_zero (by simp)

theorem numL_len (n k : Nat) (h : n < 2 ^ (7 * k)) (hk : 0 < k) : (numL n).length ≤ k := by
  induction n using Nat.strongRecOn generalizing k with
  | ind n ih =>
    by_cases hn : n < 128
    · rw [numL_small hn]; exact hk
    · rw [numL_great (by omega), List.length_cons]
      match k, hk, h with
      | 1, _, h => simp at h; omega
      | k + 2, _, h =>
        rw [pow7s] at h
        have := ih (n / 128) (by omega) (k + 1) (by omega) (by omega)
        omega

theorem numL_ten {n : Nat} (h : n < 18446744073709551616) : (numL n).length ≤ 10 := numL_len n 10 (by simp; omega) (by decide)

/-- The number at the beginning of bytes, of which i were taken in already: the number, how many bytes it has, the error's number. -/
def numAt (most : Nat) : Nat → Nat → List Nat → Nat × Nat × Nat
  | _, _, [] => (0, 0, 61)
  | i, n, x :: l =>
    if (most - n) / 2 ^ (7 * i) < x % 128 then (0, 0, 62)
    else if x < 128 then (if x = 0 ∧ 0 < i then (0, 0, 62) else (n + x % 128 * 2 ^ (7 * i), i + 1, 0))
    else if (most - (n + x % 128 * 2 ^ (7 * i))) / 2 ^ (7 * i + 7) = 0 then (0, 0, 62)
    else numAt most (i + 1) (n + x % 128 * 2 ^ (7 * i)) l

theorem numAt_cons (most i n x : Nat) (l : List Nat) : numAt most i n (x :: l) =
    if (most - n) / 2 ^ (7 * i) < x % 128 then (0, 0, 62)
    else if x < 128 then (if x = 0 ∧ 0 < i then (0, 0, 62) else (n + x % 128 * 2 ^ (7 * i), i + 1, 0))
    else if (most - (n + x % 128 * 2 ^ (7 * i))) / 2 ^ (7 * i + 7) = 0 then (0, 0, 62)
    else numAt most (i + 1) (n + x % 128 * 2 ^ (7 * i)) l := rfl

/-- What was written is read. -/
theorem numAt_numL (most : Nat) (r : List Nat) (m : Nat) : ∀ (i acc : Nat), acc + m * 2 ^ (7 * i) ≤ most → (0 < i → 0 < m) →
    numAt most i acc (numL m ++ r) = (acc + m * 2 ^ (7 * i), i + (numL m).length, 0) := by
  induction m using Nat.strongRecOn with
  | ind m ih =>
    intro i acc h hi
    have hp := pow7_pos i
    by_cases hm : m < 128
    · rw [numL_small hm]
      have e : m % 128 = m := Nat.mod_eq_of_lt hm
      rw [List.singleton_append, numAt_cons, e, if_neg, if_pos hm, if_neg]
      · rfl
      · rintro ⟨rfl, h0⟩; exact absurd (hi h0) (by decide)
      · rw [Nat.not_lt, Nat.le_div_iff_mul_le hp]; omega
    · have e : (m % 128 + 128) % 128 = m % 128 := by omega
      have hs : m * 2 ^ (7 * i) = m % 128 * 2 ^ (7 * i) + m / 128 * (128 * 2 ^ (7 * i)) := by
        rw [← Nat.mul_assoc, ← Nat.add_mul]
        congr 1
        omega
      have h1 : 1 * (128 * 2 ^ (7 * i)) ≤ m / 128 * (128 * 2 ^ (7 * i)) := Nat.mul_le_mul_right _ (by omega)
      rw [numL_great (by omega), List.cons_append, numAt_cons, e, if_neg, if_neg (by omega), if_neg, ih (m / 128) (by omega) (i + 1) (acc + m % 128 * 2 ^ (7 * i))]
      · rw [pow7s, List.length_cons]
        simp only [Prod.mk.injEq, and_true]
        omega
      · rw [pow7s]; omega
      · intro _; omega
      · rw [pow7]
        intro h0
        rw [Nat.div_eq_zero_iff_lt (by omega)] at h0
        omega
      · rw [Nat.not_lt, Nat.le_div_iff_mul_le hp]; omega

/-- What is read is as it would be written. -/
theorem numAt_alone (most : Nat) (l : List Nat) : ∀ (i acc v s : Nat), Bytes l → acc ≤ most → numAt most i acc l = (v, s, 0) →
    ∃ m r, l = numL m ++ r ∧ v = acc + m * 2 ^ (7 * i) ∧ s = i + (numL m).length ∧ v ≤ most ∧ (0 < i → 0 < m) := by
  induction l with
  | nil => intro i acc v s _ _ h; simp [numAt] at h
  | cons x l ih =>
    intro i acc v s hb ha h
    have hp := pow7_pos i
    have hx : x < 256 := hb x (by simp)
    rw [numAt_cons] at h
    split at h
    · simp at h
    · rename_i h1
      rw [Nat.not_lt, Nat.le_div_iff_mul_le hp] at h1
      split at h
      · rename_i h2
        have e : x % 128 = x := Nat.mod_eq_of_lt h2
        split at h
        · simp at h
        · rename_i h3
          rw [e] at h h1
          simp only [Prod.mk.injEq, and_true] at h
          refine ⟨x, l, by rw [numL_small h2]; rfl, h.1.symm, by rw [numL_small h2]; exact h.2.symm, by omega, fun hi => ?_⟩
          rcases Nat.eq_zero_or_pos x with h0 | h0
          · exact absurd ⟨h0, hi⟩ h3
          · exact h0
      · rename_i h2
        split at h
        · simp at h
        · obtain ⟨m, r, e1, e2, e3, e4, e5⟩ := ih (i + 1) _ v s (fun b hb' => hb b (by simp [hb'])) (by omega) h
          have hm := e5 (by omega)
          have hg : 128 ≤ x % 128 + 128 * m := by omega
          refine ⟨x % 128 + 128 * m, r, ?_, ?_, ?_, e4, fun _ => by omega⟩
          · rw [numL_great hg, show (x % 128 + 128 * m) % 128 = x % 128 by omega, show (x % 128 + 128 * m) / 128 = m by omega, e1, List.cons_append]
            congr 1
            omega
          · rw [e2, pow7s, Nat.add_mul, Nat.add_assoc, Nat.mul_comm 128 m, Nat.mul_assoc]
          · rw [e3, numL_great hg, show (x % 128 + 128 * m) / 128 = m by omega, List.length_cons]
            omega

theorem numAt_errs (most : Nat) (l : List Nat) : ∀ (i acc : Nat), numAt most i acc l = (0, 0, 61) ∨ numAt most i acc l = (0, 0, 62) ∨ ∃ v s, numAt most i acc l = (v, s, 0) ∧ i < s ∧ s ≤ i + l.length := by
  induction l with
  | nil => intro i acc; exact .inl rfl
  | cons x l ih =>
    intro i acc
    rw [numAt_cons, List.length_cons]
    split
    · exact .inr (.inl rfl)
    · split
      · split
        · exact .inr (.inl rfl)
        · exact .inr (.inr ⟨_, _, rfl, by omega, by omega⟩)
      · split
        · exact .inr (.inl rfl)
        · rcases ih (i + 1) (acc + x % 128 * 2 ^ (7 * i)) with h | h | ⟨v, s, h, h1, h2⟩
          · exact .inl h
          · exact .inr (.inl h)
          · exact .inr (.inr ⟨v, s, h, by omega, by omega⟩)

/-- Of two numbers' bytes neither begins the other's, but they are the same. -/
theorem numL_begins {a b : Nat} {r : List Nat} (h : numL b = numL a ++ r) : a = b := by
  have e1 := numAt_numL (a + b) [] b 0 0 (by simp) (by simp)
  have e2 := numAt_numL (a + b) r a 0 0 (by simp) (by simp)
  rw [List.append_nil, h, e2] at e1
  simpa using congrArg Prod.fst e1

theorem bytes_app {a b : List Nat} (ha : Bytes a) (hb : Bytes b) : Bytes (a ++ b) := fun x hx => by
  rcases List.mem_append.1 hx with h | h
  · exact ha x h
  · exact hb x h

end Go.Proofs.Ytciijkognhdddaa
