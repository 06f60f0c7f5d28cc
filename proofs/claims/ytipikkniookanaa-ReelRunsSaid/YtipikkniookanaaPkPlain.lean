/- Numbers, frames and their check as lists of bytes: nothing of the program. -/
import Derived.Test.YtipikkniookanaaPlain
namespace Go.Proofs.Ytipikkniookanaa
set_option maxRecDepth 100000

/-- One halving. -/
def half (n : Nat) : Nat := if n % 2 = 1 then (n / 2) ^^^ 2197175160 else n / 2

/-- So many halvings. -/
def halv : Nat → Nat → Nat
  | 0, n => n
  | k + 1, n => halv k (half n)

theorem half_lt {n : Nat} (h : n < 4294967296) : half n < 4294967296 := by
  unfold half
  split
  · exact Nat.xor_lt_two_pow (n := 32) (by omega) (by decide)
  · omega

theorem xor_half (a b : Nat) : (a ^^^ b) / 2 = a / 2 ^^^ b / 2 := by
  apply Nat.eq_of_testBit_eq
  intro i
  rw [Nat.testBit_xor, ← Nat.testBit_succ, ← Nat.testBit_succ, ← Nat.testBit_succ, Nat.testBit_xor]

theorem odd_bit (a : Nat) : decide (a % 2 = 1) = a.testBit 0 := by simp [Nat.testBit_zero]

theorem half_eq (n : Nat) : half n = (n / 2) ^^^ (if n.testBit 0 = true then 2197175160 else 0) := by
  unfold half
  rw [← odd_bit]
  by_cases h : n % 2 = 1 <;> simp [h]

theorem half_xor (a b : Nat) : half (a ^^^ b) = half a ^^^ half b := by
  rw [half_eq, half_eq, half_eq, xor_half, Nat.testBit_xor]
  generalize a / 2 = x
  generalize b / 2 = y
  cases a.testBit 0 <;> cases b.testBit 0
  · simp
  · simp [Nat.xor_assoc]
  · simp only [Bool.bne_false, if_true]
    simp
    rw [Nat.xor_assoc, Nat.xor_assoc, Nat.xor_comm y]
  · simp
    rw [Nat.xor_assoc, ← Nat.xor_assoc 2197175160, Nat.xor_comm 2197175160 y, Nat.xor_assoc y, Nat.xor_self, Nat.xor_zero]

theorem half_zero : half 0 = 0 := by decide

theorem xor_eq_zero {a b : Nat} (h : a ^^^ b = 0) : a = b := by
  have : (a ^^^ b) ^^^ b = b := by rw [h, Nat.zero_xor]
  rwa [Nat.xor_assoc, Nat.xor_self, Nat.xor_zero] at this

theorem half_eq_zero {n : Nat} (h : n < 4294967296) (e : half n = 0) : n = 0 := by
  unfold half at e
  split at e
  · have := xor_eq_zero e
    omega
  · omega

theorem half_inj {a b : Nat} (ha : a < 4294967296) (hb : b < 4294967296) (e : half a = half b) : a = b := by
  apply xor_eq_zero
  apply half_eq_zero (Nat.xor_lt_two_pow (n := 32) ha hb)
  rw [half_xor, e, Nat.xor_self]

theorem halv_lt (k : Nat) {n : Nat} (h : n < 4294967296) : halv k n < 4294967296 := by
  induction k generalizing n with
  | zero => exact h
  | succ k ih => exact ih (half_lt h)

theorem halv_xor (k : Nat) (a b : Nat) : halv k (a ^^^ b) = halv k a ^^^ halv k b := by
  induction k generalizing a b with
  | zero => rfl
  | succ k ih => simp only [halv, half_xor, ih]

theorem halv_nought (k : Nat) : halv k 0 = 0 := by
  induction k with
  | zero => rfl
  | succ k ih => simp only [halv, half_zero, ih]

theorem halv_inj (k : Nat) {a b : Nat} (ha : a < 4294967296) (hb : b < 4294967296) (e : halv k a = halv k b) : a = b := by
  induction k generalizing a b with
  | zero => exact e
  | succ k ih => exact half_inj ha hb (ih (half_lt ha) (half_lt hb) e)

theorem halv_add (j k n : Nat) : halv (j + k) n = halv j (halv k n) := by
  induction k generalizing n with
  | zero => rfl
  | succ k ih => rw [Nat.add_succ]; simp only [halv]; exact ih _

theorem halv_succ (k n : Nat) : halv (k + 1) n = half (halv k n) := by
  rw [Nat.add_comm, halv_add]
  rfl

/-- A number gone on over bytes. -/
def goOn (n : Nat) : List Nat → Nat
  | [] => n
  | b :: l => goOn (halv 8 (n ^^^ b)) l

theorem goOn_cons (n b : Nat) (l : List Nat) : goOn n (b :: l) = goOn (halv 8 (n ^^^ b)) l := rfl

/-- The number of bytes. -/
def crc (l : List Nat) : Nat := 4294967295 ^^^ goOn 4294967295 l

theorem goOn_append (n : Nat) (l m : List Nat) : goOn n (l ++ m) = goOn (goOn n l) m := by
  induction l generalizing n with
  | nil => rfl
  | cons b l ih => exact ih _

theorem xor_lt32 {a b : Nat} (ha : a < 4294967296) (hb : b < 4294967296) : a ^^^ b < 4294967296 := Nat.xor_lt_two_pow (n := 32) ha hb

theorem goOn_lt {n : Nat} (h : n < 4294967296) {l : List Nat} (hl : Bytes l) : goOn n l < 4294967296 := by
  induction l generalizing n with
  | nil => exact h
  | cons b l ih =>
    have hb : b < 256 := hl b (by simp)
    exact ih (halv_lt 8 (xor_lt32 h (by omega))) (fun x hx => hl x (by simp [hx]))

theorem crc_lt {l : List Nat} (hl : Bytes l) : crc l < 4294967296 := xor_lt32 (by decide) (goOn_lt (by decide) hl)

theorem turned_sub {n : Nat} (h : n < 4294967296) : 4294967295 ^^^ n = 4294967295 - n := by
  have e1 : (BitVec.allOnes 32 ^^^ BitVec.ofNat 32 n).toNat = 4294967295 ^^^ n := by
    rw [BitVec.toNat_xor, BitVec.toNat_ofNat, Nat.mod_eq_of_lt (by omega)]
    rfl
  rw [← e1, BitVec.allOnes_xor, BitVec.toNat_not, BitVec.toNat_ofNat, Nat.mod_eq_of_lt (by omega)]

/-- A number's bytes. -/
def numL (n : Nat) : List Nat := if n < 128 then [n] else (n % 128 + 128) :: numL (n / 128)
termination_by n
decreasing_by omega

theorem numL_small {n : Nat} (h : n < 128) : numL n = [n] := by rw [numL, if_pos h]
theorem numL_great {n : Nat} (h : 128 ≤ n) : numL n = (n % 128 + 128) :: numL (n / 128) := by rw [numL, if_neg (by omega)]

theorem numL_pos (n : Nat) : 0 < (numL n).length := by
  rw [numL]
  split <;> simp

theorem numL_bytes (n : Nat) : Bytes (numL n) := by
  induction n using Nat.strongRecOn with
  | ind n ih =>
    by_cases h : n < 128
    · rw [numL_small h]; intro b hb; simp at hb; omega
    · rw [numL_great (by omega)]
      intro b hb
      rcases List.mem_cons.1 hb with rfl | hb
      · omega
      · exact ih _ (by omega) b hb

theorem pow7 (i : Nat) : 2 ^ (7 * i + 7) = 128 * 2 ^ (7 * i) := by rw [Nat.pow_add]; omega
theorem pow7s (i : Nat) : 2 ^ (7 * (i + 1)) = 128 * 2 ^ (7 * i) := by rw [Nat.mul_add, Nat.mul_one, pow7]
theorem pow7_pos (i : Nat) : 0 < 2 ^ (7 * i) := Nat.pos_of_ne_zero (by simp)

theorem numL_len (n k : Nat) (h : n < 2 ^ (7 * k)) (hk : 0 < k) : (numL n).length ≤ k := by
  induction n using Nat.strongRecOn generalizing k with
  | ind n ih =>
    by_cases hn : n < 128
    · rw [numL_small hn]; exact hk
    · rw [numL_great (by omega), List.length_cons]
      match k, hk, h with
      | 1, _, h => simp at h; omega
      | k + 2, _, h =>
        rw [pow7s] at h
        have := ih (n / 128) (by omega) (k + 1) (by omega) (by omega)
        omega

theorem numL_ten {n : Nat} (h : n < 18446744073709551616) : (numL n).length ≤ 10 := numL_len n 10 (by simp; omega) (by decide)

/-- The number at the beginning of bytes, of which i were taken in already: the number, how many bytes it has, the error's number. -/
def numAt (most : Nat) : Nat → Nat → List Nat → Nat × Nat × Nat
  | _, _, [] => (0, 0, 61)
  | i, n, x :: l =>
    if (most - n) / 2 ^ (7 * i) < x % 128 then (0, 0, 62)
    else if x < 128 then (if x = 0 ∧ 0 < i then (0, 0, 62) else (n + x % 128 * 2 ^ (7 * i), i + 1, 0))
    else if (most - (n + x % 128 * 2 ^ (7 * i))) / 2 ^ (7 * i + 7) = 0 then (0, 0, 62)
    else numAt most (i + 1) (n + x % 128 * 2 ^ (7 * i)) l

theorem numAt_cons (most i n x : Nat) (l : List Nat) : numAt most i n (x :: l) =
    if (most - n) / 2 ^ (7 * i) < x % 128 then (0, 0, 62)
    else if x < 128 then (if x = 0 ∧ 0 < i then (0, 0, 62) else (n + x % 128 * 2 ^ (7 * i), i + 1, 0))
    else if (most - (n + x % 128 * 2 ^ (7 * i))) / 2 ^ (7 * i + 7) = 0 then (0, 0, 62)
    else numAt most (i + 1) (n + x % 128 * 2 ^ (7 * i)) l := rfl

/-- What was written is read. -/
theorem numAt_numL (most : Nat) (r : List Nat) (m : Nat) : ∀ (i acc : Nat), acc + m * 2 ^ (7 * i) ≤ most → (0 < i → 0 < m) →
    numAt most i acc (numL m ++ r) = (acc + m * 2 ^ (7 * i), i + (numL m).length, 0) := by
  induction m using Nat.strongRecOn with
  | ind m ih =>
    intro i acc h hi
    have hp := pow7_pos i
    by_cases hm : m < 128
    · rw [numL_small hm]
      have e : m % 128 = m := Nat.mod_eq_of_lt hm
      rw [List.singleton_append, numAt_cons, e, if_neg, if_pos hm, if_neg]
      · rfl
      · rintro ⟨rfl, h0⟩; exact absurd (hi h0) (by decide)
      · rw [Nat.not_lt, Nat.le_div_iff_mul_le hp]; omega
    · have e : (m % 128 + 128) % 128 = m % 128 := by omega
      have hs : m * 2 ^ (7 * i) = m % 128 * 2 ^ (7 * i) + m / 128 * (128 * 2 ^ (7 * i)) := by
        rw [← Nat.mul_assoc, ← Nat.add_mul]
        congr 1
        omega
      have h1 : 1 * (128 * 2 ^ (7 * i)) ≤ m / 128 * (128 * 2 ^ (7 * i)) := Nat.mul_le_mul_right _ (by omega)
      rw [numL_great (by omega), List.cons_append, numAt_cons, e, if_neg, if_neg (by omega), if_neg, ih (m / 128) (by omega) (i + 1) (acc + m % 128 * 2 ^ (7 * i))]
      · rw [pow7s, List.length_cons]
        simp only [Prod.mk.injEq, and_true]
        omega
      · rw [pow7s]; omega
      · intro _; omega
      · rw [pow7]
        intro h0
        rw [Nat.div_eq_zero_iff_lt (by omega)] at h0
        omega
      · rw [Nat.not_lt, Nat.le_div_iff_mul_le hp]; omega

/-- What is read is as it would be written. -/
theorem numAt_alone (most : Nat) (l : List Nat) : ∀ (i acc v s : Nat), Bytes l → acc ≤ most → numAt most i acc l = (v, s, 0) →
    ∃ m r, l = numL m ++ r ∧ v = acc + m * 2 ^ (7 * i) ∧ s = i + (numL m).length ∧ v ≤ most ∧ (0 < i → 0 < m) := by
  induction l with
  | nil => intro i acc v s _ _ h; simp [numAt] at h
  | cons x l ih =>
    intro i acc v s hb ha h
    have hp := pow7_pos i
    have hx : x < 256 := hb x (by simp)
    rw [numAt_cons] at h
    split at h
    · simp at h
    · rename_i h1
      rw [Nat.not_lt, Nat.le_div_iff_mul_le hp] at h1
      split at h
      · rename_i h2
        have e : x % 128 = x := Nat.mod_eq_of_lt h2
        split at h
        · simp at h
        · rename_i h3
          rw [e] at h h1
          simp only [Prod.mk.injEq, and_true] at h
          refine ⟨x, l, by rw [numL_small h2]; rfl, h.1.symm, by rw [numL_small h2]; exact h.2.symm, by omega, fun hi => ?_⟩
          rcases Nat.eq_zero_or_pos x with h0 | h0
          · exact absurd ⟨h0, hi⟩ h3
          · exact h0
      · rename_i h2
        split at h
        · simp at h
        · obtain ⟨m, r, e1, e2, e3, e4, e5⟩ := ih (i + 1) _ v s (fun b hb' => hb b (by simp [hb'])) (by omega) h
          have hm := e5 (by omega)
          have hg : 128 ≤ x % 128 + 128 * m := by omega
          refine ⟨x % 128 + 128 * m, r, ?_, ?_, ?_, e4, fun _ => by omega⟩
          · rw [numL_great hg, show (x % 128 + 128 * m) % 128 = x % 128 by omega, show (x % 128 + 128 * m) / 128 = m by omega, e1, List.cons_append]
            congr 1
            omega
          · rw [e2, pow7s, Nat.add_mul, Nat.add_assoc, Nat.mul_comm 128 m, Nat.mul_assoc]
          · rw [e3, numL_great hg, show (x % 128 + 128 * m) / 128 = m by omega, List.length_cons]
            omega

theorem numAt_errs (most : Nat) (l : List Nat) : ∀ (i acc : Nat), numAt most i acc l = (0, 0, 61) ∨ numAt most i acc l = (0, 0, 62) ∨ ∃ v s, numAt most i acc l = (v, s, 0) ∧ i < s ∧ s ≤ i + l.length := by
  induction l with
  | nil => intro i acc; exact .inl rfl
  | cons x l ih =>
    intro i acc
    rw [numAt_cons, List.length_cons]
    split
    · exact .inr (.inl rfl)
    · split
      · split
        · exact .inr (.inl rfl)
        · exact .inr (.inr ⟨_, _, rfl, by omega, by omega⟩)
      · split
        · exact .inr (.inl rfl)
        · rcases ih (i + 1) (acc + x % 128 * 2 ^ (7 * i)) with h | h | ⟨v, s, h, h1, h2⟩
          · exact .inl h
          · exact .inr (.inl h)
          · exact .inr (.inr ⟨v, s, h, by omega, by omega⟩)

/-- Of two numbers' bytes neither begins the other's, but they are the same. -/
theorem numL_begins {a b : Nat} {r : List Nat} (h : numL b = numL a ++ r) : a = b := by
  have e1 := numAt_numL (a + b) [] b 0 0 (by simp) (by simp)
  have e2 := numAt_numL (a + b) r a 0 0 (by simp) (by simp)
  rw [List.append_nil, h, e2] at e1
  simpa using congrArg Prod.fst e1

/-- A number in four bytes. -/
def four (n : Nat) : List Nat := [n % 256, n / 256 % 256, n / 65536 % 256, n / 16777216 % 256]

theorem four_bytes (n : Nat) : Bytes (four n) := by
  intro b hb
  simp [four] at hb
  omega
theorem four_len (n : Nat) : (four n).length = 4 := rfl

/-- Alike, as far as both go. -/
def agreeL (a b : List Nat) : Bool := a.take (min a.length b.length) == b.take (min a.length b.length)

theorem agree_self (a r : List Nat) : agreeL (a ++ r) a = true := by
  unfold agreeL
  rw [List.length_append, Nat.min_eq_right (by omega), List.take_left]
  simp
theorem agree_begin (a r : List Nat) : agreeL a (a ++ r) = true := by
  unfold agreeL
  rw [List.length_append, Nat.min_eq_left (by omega), List.take_left]
  simp
theorem agree_whole {a b : List Nat} (h : agreeL a b = true) (hl : b.length ≤ a.length) : a.take b.length = b := by
  unfold agreeL at h
  rw [Nat.min_eq_right hl, List.take_length] at h
  simpa using h

/-- What a frame begins with. -/
def headL (k : Nat) (body : List Nat) : List Nat := 167 :: 1 :: k :: numL body.length
/-- A frame's bytes. -/
def frameL (k : Nat) (body : List Nat) : List Nat := headL k body ++ (body ++ four (crc (headL k body ++ body)))

theorem headL_len (k : Nat) (body : List Nat) : (headL k body).length = 3 + (numL body.length).length := by simp [headL]; omega
theorem frameL_len (k : Nat) (body : List Nat) : (frameL k body).length = 3 + (numL body.length).length + body.length + 4 := by
  simp only [frameL, List.length_append, headL_len, four_len]
  omega

theorem headL_bytes {k : Nat} {body : List Nat} (hk : k < 256) : Bytes (headL k body) := by
  intro b hb
  simp only [headL, List.mem_cons] at hb
  rcases hb with rfl | rfl | rfl | hb
  · decide
  · decide
  · exact hk
  · exact numL_bytes _ b hb

theorem bytes_app {a b : List Nat} (ha : Bytes a) (hb : Bytes b) : Bytes (a ++ b) := fun x hx => by
  rcases List.mem_append.1 hx with h | h
  · exact ha x h
  · exact hb x h
theorem frameL_bytes {k : Nat} {body : List Nat} (hk : k < 256) (hb : Bytes body) : Bytes (frameL k body) := bytes_app (headL_bytes hk) (bytes_app hb (four_bytes _))

/-- The frame at the beginning of bytes: its kind, its body, how many bytes it has, the error's number. -/
def openL (b : List Nat) : Nat × List Nat × Nat × Nat :=
  if agreeL b [167, 1] = false then (0, [], 0, 62)
  else if b.length < 3 then (0, [], 0, 61)
  else if (numAt 65536 0 0 (b.drop 3)).2.2 ≠ 0 then (0, [], 0, (numAt 65536 0 0 (b.drop 3)).2.2)
  else if b.length < 3 + (numAt 65536 0 0 (b.drop 3)).2.1 + (numAt 65536 0 0 (b.drop 3)).1 then (0, [], 0, 61)
  else if agreeL (b.drop (3 + (numAt 65536 0 0 (b.drop 3)).2.1 + (numAt 65536 0 0 (b.drop 3)).1)) (four (crc (b.take (3 + (numAt 65536 0 0 (b.drop 3)).2.1 + (numAt 65536 0 0 (b.drop 3)).1)))) = false then (0, [], 0, 62)
  else if b.length < 3 + (numAt 65536 0 0 (b.drop 3)).2.1 + (numAt 65536 0 0 (b.drop 3)).1 + 4 then (0, [], 0, 61)
  else (b.getD 2 0, (b.drop (3 + (numAt 65536 0 0 (b.drop 3)).2.1)).take (numAt 65536 0 0 (b.drop 3)).1, 3 + (numAt 65536 0 0 (b.drop 3)).2.1 + (numAt 65536 0 0 (b.drop 3)).1 + 4, 0)

theorem agree_head (k : Nat) (l : List Nat) : agreeL (167 :: 1 :: k :: l) [167, 1] = true := agree_self [167, 1] (k :: l)

/-- A head, a body and some bytes of what must follow. -/
theorem open_begun (k : Nat) (body t : List Nat) (hl : body.length ≤ 65536) :
    openL (headL k body ++ (body ++ t)) = if agreeL t (four (crc (headL k body ++ body))) = false then (0, [], 0, 62) else if t.length < 4 then (0, [], 0, 61) else (k, body, (frameL k body).length, 0) := by
  have e0 : (headL k body ++ (body ++ t)).drop 3 = numL body.length ++ (body ++ t) := rfl
  have e1 : numAt 65536 0 0 ((headL k body ++ (body ++ t)).drop 3) = (body.length, (numL body.length).length, 0) := by
    rw [e0, numAt_numL 65536 (body ++ t) body.length 0 0 (by simpa using hl) (by simp)]
    simp
  have hd : (headL k body ++ (body ++ t)).drop (3 + (numL body.length).length) = body ++ t := by rw [← headL_len k body, List.drop_left]
  have hd2 : (headL k body ++ (body ++ t)).drop (3 + (numL body.length).length + body.length) = t := by rw [← List.drop_drop, hd, List.drop_left]
  have ht : (headL k body ++ (body ++ t)).take (3 + (numL body.length).length + body.length) = headL k body ++ body := by
    rw [← headL_len k body, ← List.length_append, ← List.append_assoc, List.take_left]
  have hlen : (headL k body ++ (body ++ t)).length = 3 + (numL body.length).length + body.length + t.length := by simp only [List.length_append, headL_len]; omega
  have ha : agreeL (headL k body ++ (body ++ t)) [167, 1] = true := agree_head k _
  have hg : (headL k body ++ (body ++ t)).getD 2 0 = k := rfl
  unfold openL
  rw [e1]
  simp only [hd, hd2, ht, hlen, ha, hg, frameL_len]
  rw [if_neg (by simp), if_neg (by omega), if_neg (by simp), if_neg (by omega)]
  split
  · rfl
  · by_cases h4 : t.length < 4
    · rw [if_pos (by omega), if_pos h4]
    · rw [if_neg (by omega), if_neg h4, List.take_left]

/-- What was written opens, whatever stands behind it. -/
theorem open_frame (k : Nat) (body r : List Nat) (hl : body.length ≤ 65536) : openL (frameL k body ++ r) = (k, body, (frameL k body).length, 0) := by
  have := open_begun k body (four (crc (headL k body ++ body)) ++ r) hl
  rw [agree_self, if_neg (by simp), if_neg (by simp [four_len])] at this
  rw [← this, frameL, List.append_assoc, List.append_assoc]

/-- Without its last byte it is too short. -/
theorem open_short (k : Nat) (body : List Nat) (hl : body.length ≤ 65536) : openL ((frameL k body).take ((frameL k body).length - 1)) = (0, [], 0, 61) := by
  have e : (frameL k body).take ((frameL k body).length - 1) = headL k body ++ (body ++ (four (crc (headL k body ++ body))).take 3) := by
    rw [frameL, ← List.append_assoc, ← List.append_assoc, List.length_append, four_len, List.take_append, List.take_of_length_le (by omega)]
    congr 1
    rw [show (headL k body ++ body).length + 4 - 1 - (headL k body ++ body).length = 3 by omega]
  rw [e, open_begun k body _ hl]
  have : agreeL ((four (crc (headL k body ++ body))).take 3) (four (crc (headL k body ++ body))) = true := agree_begin _ [_]
  rw [this, if_neg (by simp), if_pos (by simp [four])]

/-- What opens is what would be written. -/
theorem open_alone {b : List Nat} (hb : Bytes b) {k n : Nat} {body : List Nat} (h : openL b = (k, body, n, 0)) : frameL k body = b.take n ∧ body.length ≤ 65536 ∧ n ≤ b.length ∧ k < 256 := by
  unfold openL at h
  split at h
  · simp at h
  rename_i h1
  split at h
  · simp at h
  rename_i h2
  split at h
  · rename_i h3
    simp only [Prod.mk.injEq] at h
    exact absurd h.2.2.2 h3
  rename_i h3
  have h3 : (numAt 65536 0 0 (b.drop 3)).2.2 = 0 := Decidable.not_not.1 h3
  generalize hN : numAt 65536 0 0 (b.drop 3) = N at *
  obtain ⟨v, s, e⟩ := N
  simp only at h h3
  subst h3
  split at h
  · simp at h
  rename_i h4
  split at h
  · simp at h
  rename_i h5
  split at h
  · simp at h
  rename_i h6
  simp only [Prod.mk.injEq, and_true] at h
  obtain ⟨rfl, rfl, rfl⟩ := h
  obtain ⟨m, r, e1, e2, e3, e4, _⟩ := numAt_alone 65536 (b.drop 3) 0 0 v s (fun x hx => hb x (List.mem_of_mem_drop hx)) (by decide) hN
  simp only [Nat.mul_zero, Nat.pow_zero, Nat.mul_one, Nat.zero_add] at e2 e3
  subst e2
  have hlen : ((b.drop (3 + s)).take v).length = v := by rw [List.length_take, List.length_drop]; omega
  have hA : b.take 2 = [167, 1] := agree_whole (a := b) (b := [167, 1]) (by simpa using h1) (by simp; omega)
  have h3b : b.take 3 = [167, 1, b.getD 2 0] := by
    rw [List.take_succ_eq_append_getElem (show 2 < b.length by omega), hA, List.getD_eq_getElem?_getD, List.getElem?_eq_getElem (show 2 < b.length by omega)]
    rfl
  have hH : headL (b.getD 2 0) ((b.drop (3 + s)).take v) = b.take (3 + s) := by
    rw [headL, hlen, List.take_add, h3b, e1, e3, List.take_left]
    rfl
  have hHB : headL (b.getD 2 0) ((b.drop (3 + s)).take v) ++ (b.drop (3 + s)).take v = b.take (3 + s + v) := by
    rw [hH, List.take_add (i := 3 + s) (j := v)]
  have h5' : agreeL (b.drop (3 + s + v)) (four (crc (b.take (3 + s + v)))) = true := by simpa using h5
  have hF := agree_whole h5' (by rw [four_len, List.length_drop]; omega)
  rw [four_len] at hF
  refine ⟨?_, by omega, by omega, ?_⟩
  · rw [frameL, ← List.append_assoc, hHB, List.take_add (i := 3 + s + v) (j := 4), hF]
  · rw [List.getD_eq_getElem?_getD, List.getElem?_eq_getElem (show 2 < b.length by omega)]
    exact hb _ (List.getElem_mem _)

/-- What does not open: nothing. -/
theorem open_none {b : List Nat} (h : (openL b).2.2.2 ≠ 0) : (openL b).1 = 0 ∧ (openL b).2.1 = [] ∧ (openL b).2.2.1 = 0 := by
  unfold openL at h ⊢
  repeat' split
  all_goals first | exact ⟨rfl, rfl, rfl⟩ | skip
  simp_all

end Go.Proofs.Ytipikkniookanaa
