/- Plain words on halvings of numbers below 2 to the power of 32, and on the number of bytes that they make (nothing of the program here). -/
namespace Go.Proofs.Ytfdeeanoohopfaa

/-- One halving. -/
def half (n : Nat) : Nat := if n % 2 = 1 then (n / 2) ^^^ 2197175160 else n / 2

/-- So many halvings. -/
def halv : Nat → Nat → Nat
  | 0, n => n
  | k + 1, n => halv k (half n)

theorem half_lt {n : Nat} (h : n < 4294967296) : half n < 4294967296 := by
  unfold half
  split
  · exact Nat.xor_lt_two_pow (n := 32) (by omega) (by decide)
  · omega

theorem xor_half (a b : Nat) : (a ^^^ b) / 2 = a / 2 ^^^ b / 2 := by
  apply Nat.eq_of_testBit_eq
  intro i
  rw [Nat.testBit_xor, ← Nat.testBit_succ, ← Nat.testBit_succ, ← Nat.testBit_succ, Nat.testBit_xor]

theorem odd_bit (a : Nat) : decide (a % 2 = 1) = a.testBit 0 := by simp [Nat.testBit_zero]

theorem half_eq (n : Nat) : half n = (n / 2) ^^^ (if n.testBit 0 = true then 2197175160 else 0) := by
  unfold half
  rw [← odd_bit]
  by_cases h : n % 2 = 1 <;> simp [h]

theorem half_xor (a b : Nat) : half (a ^^^ b) = half a ^^^ half b := by
  rw [half_eq, half_eq, half_eq, xor_half, Nat.testBit_xor]
  generalize a / 2 = x
  generalize b / 2 = y
  cases a.testBit 0 <;> cases b.testBit 0
  · simp
  · simp [Nat.xor_assoc]
  · simp only [Bool.bne_false, if_true]
    simp
    rw [Nat.xor_assoc, Nat.xor_assoc, Nat.xor_comm y]
  · simp
    rw [Nat.xor_assoc, ← Nat.xor_assoc 2197175160, Nat.xor_comm 2197175160 y, Nat.xor_assoc y, Nat.xor_self, Nat.xor_zero]

theorem half_zero : half 0 = 0 := by decide

theorem xor_eq_zero {a b : Nat} (h : a ^^^ b = 0) : a = b := by
  have : (a ^^^ b) ^^^ b = b := by rw [h, Nat.zero_xor]
  rwa [Nat.xor_assoc, Nat.xor_self, Nat.xor_zero] at this

theorem half_eq_zero {n : Nat} (h : n < 4294967296) (e : half n = 0) : n = 0 := by
  unfold half at e
  split at e
  · have := xor_eq_zero e
    omega
  · omega

theorem half_inj {a b : Nat} (ha : a < 4294967296) (hb : b < 4294967296) (e : half a = half b) : a = b := by
  apply xor_eq_zero
  apply half_eq_zero (Nat.xor_lt_two_pow (n := 32) ha hb)
  rw [half_xor, e, Nat.xor_self]

theorem halv_lt (k : Nat) {n : Nat} (h : n < 4294967296) : halv k n < 4294967296 := by
  induction k generalizing n with
  | zero => exact h
  | succ k ih => exact ih (half_lt h)

theorem halv_xor (k : Nat) (a b : Nat) : halv k (a ^^^ b) = halv k a ^^^ halv k b := by
  induction k generalizing a b with
  | zero => rfl
  | succ k ih => simp only [halv, half_xor, ih]

theorem halv_nought (k : Nat) : halv k 0 = 0 := by
  induction k with
  | zero => rfl
  | succ k ih => simp only [halv, half_zero, ih]

theorem halv_inj (k : Nat) {a b : Nat} (ha : a < 4294967296) (hb : b < 4294967296) (e : halv k a = halv k b) : a = b := by
  induction k generalizing a b with
  | zero => exact e
  | succ k ih => exact half_inj ha hb (ih (half_lt ha) (half_lt hb) e)

theorem halv_add (j k n : Nat) : halv (j + k) n = halv j (halv k n) := by
  induction k generalizing n with
  | zero => rfl
  | succ k ih => rw [Nat.add_succ]; simp only [halv]; exact ih _

theorem halv_succ (k n : Nat) : halv (k + 1) n = half (halv k n) := by
  rw [Nat.add_comm, halv_add]
  rfl

/-- A number gone on over bytes. -/
def goOn (n : Nat) : List Nat → Nat
  | [] => n
  | b :: l => goOn (halv 8 (n ^^^ b)) l

theorem goOn_cons (n b : Nat) (l : List Nat) : goOn n (b :: l) = goOn (halv 8 (n ^^^ b)) l := rfl

/-- The number of bytes. -/
def crc (l : List Nat) : Nat := 4294967295 ^^^ goOn 4294967295 l

/-- Each one is a byte. -/
def Bytes (l : List Nat) : Prop := ∀ b ∈ l, b < 256

theorem goOn_append (n : Nat) (l m : List Nat) : goOn n (l ++ m) = goOn (goOn n l) m := by
  induction l generalizing n with
  | nil => rfl
  | cons b l ih => exact ih _

theorem xor_lt32 {a b : Nat} (ha : a < 4294967296) (hb : b < 4294967296) : a ^^^ b < 4294967296 := Nat.xor_lt_two_pow (n := 32) ha hb

theorem goOn_lt {n : Nat} (h : n < 4294967296) {l : List Nat} (hl : Bytes l) : goOn n l < 4294967296 := by
  induction l generalizing n with
  | nil => exact h
  | cons b l ih =>
    have hb : b < 256 := hl b (by simp)
    exact ih (halv_lt 8 (xor_lt32 h (by omega))) (fun x hx => hl x (by simp [hx]))

theorem crc_lt {l : List Nat} (hl : Bytes l) : crc l < 4294967296 := xor_lt32 (by decide) (goOn_lt (by decide) hl)

theorem turned_sub {n : Nat} (h : n < 4294967296) : 4294967295 ^^^ n = 4294967295 - n := by
  have e1 : (BitVec.allOnes 32 ^^^ BitVec.ofNat 32 n).toNat = 4294967295 ^^^ n := by
    rw [BitVec.toNat_xor, BitVec.toNat_ofNat, Nat.mod_eq_of_lt (by omega)]
    rfl
  rw [← e1, BitVec.allOnes_xor, BitVec.toNat_not, BitVec.toNat_ofNat, Nat.mod_eq_of_lt (by omega)]

end Go.Proofs.Ytfdeeanoohopfaa
