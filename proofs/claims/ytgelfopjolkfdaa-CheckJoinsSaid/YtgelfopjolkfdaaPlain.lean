/- Plain words on halvings of numbers below 2 to the power of 32, and on the number of bytes that they make (nothing of the program here). -/
namespace Go.Proofs.Ytgelfopjolkfdaa

/-- One halving. -/
def half (n : Nat) : Nat := if n % 2 = 1 then (n / 2) ^^^ 2197175160 else n / 2

/-- So many halvings. -/
def halv : Nat → Nat → Nat
  | 0, n => n
  | k + 1, n => halv k (half n)

theorem half_lt {n : Nat} (h : n < 4294967296) : half n < 4294967296 := by
  unfold half
  split
  · exact Nat.xor_lt_two_pow (n := 32) (by omega) (by decide)
  · omega

theorem xor_half (a b : Nat) : (a ^^^ b) / 2 = a / 2 ^^^ b / 2 := by
  apply Nat.eq_of_testBit_eq
  intro i
  rw [Nat.testBit_xor, ← Nat.testBit_succ, ← Nat.testBit_succ, ← Nat.testBit_succ, Nat.testBit_xor]

theorem odd_bit (a : Nat) : decide (a % 2 = 1) = a.testBit 0 := by simp [Nat.testBit_zero]

theorem half_eq (n : Nat) : half n = (n / 2) ^^^ (if n.testBit 0 = true then 2197175160 else 0) := by
  unfold half
  rw [← odd_bit]
  by_cases h : n % 2 = 1 <;> simp [h]

theorem half_xor (a b : Nat) : half (a ^^^ b) = half a ^^^ half b := by
  rw [half_eq, half_eq, half_eq, xor_half, Nat.testBit_xor]
  generalize a / 2 = x
  generalize b / 2 = y
  cases a.testBit 0 <;> cases b.testBit 0
  · simp
  · simp [Nat.xor_assoc]
  · simp only [Bool.bne_false, if_true]
    simp
    rw [Nat.xor_assoc, Nat.xor_assoc, Nat.xor_comm y]
  · simp
    rw [Nat.xor_assoc, ← Nat.xor_assoc 2197175160, Nat.xor_comm 2197175160 y, Nat.xor_assoc y, Nat.xor_self, Nat.xor_zero]

theorem half_zero : half 0 = 0 := by decide

theorem xor_eq_zero {a b : Nat} (h : a ^^^ b = 0) : a = b := by
  have : (a ^^^ b) ^^^ b = b := by rw [h, Nat.zero_xor]
  rwa [Nat.xor_assoc, Nat.xor_self, Nat.xor_zero] at this

theorem half_eq_zero {n : Nat} (h : n < 4294967296) (e : half n = 0) : n = 0 := by
  unfold half at e
  split at e
  · have := xor_eq_zero e
    omega
  · omega

theorem half_inj {a b : Nat} (ha : a < 4294967296) (hb : b < 4294967296) (e : half a = half b) : a = b := by
  apply xor_eq_zero
  apply half_eq_zero (Nat.xor_lt_two_pow (n := 32) ha hb)
  rw [half_xor, e, Nat.xor_self]

theorem halv_lt (k : Nat) {n : Nat} (h : n < 4294967296) : halv k n < 4294967296 := by
  induction k generalizing n with
  | zero => exact h
  | succ k ih => exact ih (half_lt h)

theorem halv_xor (k : Nat) (a b : Nat) : halv k (a ^^^ b) = halv k a ^^^ halv k b := by
  induction k generalizing a b with
  | zero => rfl
  | succ k ih => simp only [halv, half_xor, ih]

theorem halv_nought (k : Nat) : halv k 0 = 0 := by
  induction k with
  | zero => rfl
  | succ k ih => simp only [halv, half_zero, ih]

theorem halv_inj (k : Nat) {a b : Nat} (ha : a < 4294967296) (hb : b < 4294967296) (e : halv k a = halv k b) : a = b := by
  induction k generalizing a b with
  | zero => exact e
  | succ k ih => exact half_inj ha hb (ih (half_lt ha) (half_lt hb) e)

theorem halv_add (j k n : Nat) : halv (j + k) n = halv j (halv k n) := by
  induction k generalizing n with
  | zero => rfl
  | succ k ih => rw [Nat.add_succ]; simp only [halv]; exact ih _

theorem halv_succ (k n : Nat) : halv (k + 1) n = half (halv k n) := by
  rw [Nat.add_comm, halv_add]
  rfl

/-- A number gone on over bytes. -/
def goOn (n : Nat) : List Nat → Nat
  | [] => n
  | b :: l => goOn (halv 8 (n ^^^ b)) l

theorem goOn_cons (n b : Nat) (l : List Nat) : goOn n (b :: l) = goOn (halv 8 (n ^^^ b)) l := rfl

/-- The number of bytes. -/
def crc (l : List Nat) : Nat := 4294967295 ^^^ goOn 4294967295 l

/-- Each one is a byte. -/
def Bytes (l : List Nat) : Prop := ∀ b ∈ l, b < 256

theorem goOn_append (n : Nat) (l m : List Nat) : goOn n (l ++ m) = goOn (goOn n l) m := by
  induction l generalizing n with
  | nil => rfl
  | cons b l ih => exact ih _

theorem xor_lt32 {a b : Nat} (ha : a < 4294967296) (hb : b < 4294967296) : a ^^^ b < 4294967296 := Nat.xor_lt_two_pow (n := 32) ha hb

theorem goOn_lt {n : Nat} (h : n < 4294967296) {l : List Nat} (hl : Bytes l) : goOn n l < 4294967296 := by
  induction l generalizing n with
  | nil => exact h
  | cons b l ih =>
    have hb : b < 256 := hl b (by simp)
    exact ih (halv_lt 8 (xor_lt32 h (by omega))) (fun x hx => hl x (by simp [hx]))

theorem crc_lt {l : List Nat} (hl : Bytes l) : crc l < 4294967296 := xor_lt32 (by decide) (goOn_lt (by decide) hl)

theorem goOn_xor (x y : Nat) (l : List Nat) : goOn (x ^^^ y) l = goOn x l ^^^ halv (8 * l.length) y := by
  induction l generalizing x y with
  | nil => rfl
  | cons b l ih =>
    simp only [goOn_cons]
    have e : x ^^^ y ^^^ b = (x ^^^ b) ^^^ y := by rw [Nat.xor_assoc, Nat.xor_comm y, ← Nat.xor_assoc]
    rw [e, halv_xor, ih, ← halv_add, List.length_cons, show 8 * (l.length + 1) = 8 * l.length + 8 by omega]

theorem goOn_nought (n k : Nat) : goOn n (List.replicate k 0) = halv (8 * k) n := by
  induction k generalizing n with
  | zero => rfl
  | succ k ih =>
    rw [List.replicate_succ]
    show goOn (halv 8 (n ^^^ 0)) (List.replicate k 0) = _
    rw [ih, Nat.xor_zero, ← halv_add, show 8 * (k + 1) = 8 * k + 8 by omega]

/-- Joined. -/
def join (a b n : Nat) : Nat := b ^^^ halv (8 * n) a

/-- Of so many noughts. -/
def noughts (n : Nat) : Nat := 4294967295 ^^^ halv (8 * n) 4294967295

theorem noughts_crc (n : Nat) : noughts n = crc (List.replicate n 0) := by unfold noughts crc; rw [goOn_nought]

theorem turn_turn (a b : Nat) : a ^^^ (a ^^^ b) = b := by rw [← Nat.xor_assoc, Nat.xor_self, Nat.zero_xor]

theorem join_crc (a b : List Nat) : join (crc a) (crc b) b.length = crc (a ++ b) := by
  unfold join
  have e : crc (a ++ b) = 4294967295 ^^^ goOn (4294967295 ^^^ crc a) b := by
    unfold crc
    rw [goOn_append, turn_turn]
  rw [e, goOn_xor, ← Nat.xor_assoc]
  rfl

theorem join_join (x y z n m : Nat) : join (join x y n) z m = join x (join y z m) (n + m) := by
  unfold join
  rw [halv_xor, ← halv_add, Nat.xor_assoc, ← Nat.mul_add, Nat.add_comm m n]

theorem join_noughts (n m : Nat) : join (noughts n) (noughts m) m = noughts (n + m) := by
  have := join_crc (List.replicate n 0) (List.replicate m 0)
  rw [← noughts_crc, ← noughts_crc, List.length_replicate, List.replicate_append_replicate, ← noughts_crc] at this
  exact this

theorem join_nothing (b n : Nat) : join 0 b n = b := by unfold join; rw [halv_nought, Nat.xor_zero]
theorem crc_nil : crc [] = 0 := by decide
theorem noughts_zero : noughts 0 = 0 := by decide

theorem join_b (a b n : Nat) : join a b n = join a 0 n ^^^ b := by unfold join; rw [Nat.zero_xor, Nat.xor_comm]

theorem goOn_inj {l : List Nat} {a b : Nat} (ha : a < 4294967296) (hb : b < 4294967296) (e : goOn a l = goOn b l) : a = b := by
  have h : goOn (a ^^^ b ^^^ b) l = goOn b l ^^^ halv (8 * l.length) (a ^^^ b) := by rw [Nat.xor_comm, goOn_xor]
  rw [Nat.xor_assoc, Nat.xor_self, Nat.xor_zero, e] at h
  have h0 : halv (8 * l.length) (a ^^^ b) = 0 := by
    have := congrArg (goOn b l ^^^ ·) h
    simp only [turn_turn, Nat.xor_self] at this
    exact this.symm
  apply xor_eq_zero
  exact halv_inj _ (xor_lt32 ha hb) (by decide) (h0.trans (halv_nought _).symm)

theorem crc_inj {l m : List Nat} (e : crc l = crc m) : goOn 4294967295 l = goOn 4294967295 m := by
  have := congrArg (4294967295 ^^^ ·) e
  simpa only [crc, turn_turn] using this

/-- One byte turned makes another number. -/
theorem crc_turned (l r : List Nat) (x y : Nat) (hl : Bytes l) (hx : x < 256) (hy : y < 256) (h : x ≠ y) : crc (l ++ x :: r) ≠ crc (l ++ y :: r) := by
  intro e
  have e := crc_inj e
  rw [goOn_append, goOn_append] at e
  simp only [goOn_cons] at e
  have hs : goOn 4294967295 l < 4294967296 := goOn_lt (by decide) hl
  have e1 := goOn_inj (halv_lt 8 (xor_lt32 hs (by omega))) (halv_lt 8 (xor_lt32 hs (by omega))) e
  have e2 := halv_inj 8 (xor_lt32 hs (by omega)) (xor_lt32 hs (by omega)) e1
  have e3 := congrArg (goOn 4294967295 l ^^^ ·) e2
  simp only [turn_turn] at e3
  exact h e3

theorem no_fix : ∀ d : Fin 256, d.1 ≠ 0 → halv 8 d.1 ≠ d.1 := by decide +kernel

/-- Two neighbours that change places make another number. -/
theorem crc_swapped (l r : List Nat) (x y : Nat) (hl : Bytes l) (hx : x < 256) (hy : y < 256) (h : x ≠ y) : crc (l ++ x :: y :: r) ≠ crc (l ++ y :: x :: r) := by
  intro e
  have e := crc_inj e
  rw [goOn_append, goOn_append] at e
  simp only [goOn_cons] at e
  have hs : goOn 4294967295 l < 4294967296 := goOn_lt (by decide) hl
  generalize goOn 4294967295 l = s at *
  have b1 : ∀ x y : Nat, x < 256 → y < 256 → halv 8 (s ^^^ x) ^^^ y < 4294967296 := fun x y hx hy => xor_lt32 (halv_lt 8 (xor_lt32 hs (by omega))) (by omega)
  have e1 := goOn_inj (halv_lt 8 (b1 _ _ hx hy)) (halv_lt 8 (b1 _ _ hy hx)) e
  have e2 := halv_inj 8 (b1 _ _ hx hy) (b1 _ _ hy hx) e1
  rw [halv_xor, halv_xor, Nat.xor_assoc, Nat.xor_assoc] at e2
  have e3 := congrArg (halv 8 s ^^^ ·) e2
  simp only [turn_turn] at e3
  have e4 : halv 8 (x ^^^ y) = x ^^^ y := by
    rw [halv_xor]
    have : halv 8 x ^^^ y ^^^ (halv 8 y ^^^ y) = halv 8 y ^^^ x ^^^ (halv 8 y ^^^ y) := by rw [e3]
    rw [show halv 8 x ^^^ y ^^^ (halv 8 y ^^^ y) = halv 8 x ^^^ halv 8 y by rw [Nat.xor_assoc, Nat.xor_comm (halv 8 y) y, turn_turn],
      show halv 8 y ^^^ x ^^^ (halv 8 y ^^^ y) = x ^^^ y by rw [Nat.xor_assoc, ← Nat.xor_assoc x, Nat.xor_comm x, Nat.xor_assoc, turn_turn]] at this
    exact this
  have hd : x ^^^ y < 256 := Nat.xor_lt_two_pow (n := 8) hx hy
  exact no_fix ⟨_, hd⟩ (fun h0 => h (xor_eq_zero h0)) e4

/-- What each bit comes to. -/
def strL (m : Nat) : List Nat := (List.range 32).map fun i => halv m (2 ^ i)

theorem strL_len (m : Nat) : (strL m).length = 32 := by simp [strL]
theorem strL_get (m : Nat) {i : Nat} (h : i < 32) : (strL m)[i]? = some (halv m (2 ^ i)) := by simp [strL, h]

theorem low_bits (n k : Nat) : n % 2 ^ (k + 1) = n % 2 ^ k ^^^ (if n / 2 ^ k % 2 = 1 then 2 ^ k else 0) := by
  apply Nat.eq_of_testBit_eq
  intro i
  have hb : decide (n / 2 ^ k % 2 = 1) = n.testBit k := by rw [Nat.testBit_eq_decide_div_mod_eq]
  rw [Nat.testBit_xor, Nat.testBit_mod_two_pow, Nat.testBit_mod_two_pow]
  by_cases h : n / 2 ^ k % 2 = 1
  · rw [if_pos h, Nat.testBit_two_pow]
    rw [decide_eq_true h] at hb
    by_cases hi : k = i
    · subst hi; simp [← hb]
    · by_cases h2 : i < k
      · simp [hi, h2, show i < k + 1 by omega]
      · simp [hi, h2, show ¬ i < k + 1 by omega]
  · rw [if_neg h, Nat.zero_testBit]
    rw [decide_eq_false h] at hb
    by_cases hi : k = i
    · subst hi; simp [← hb]
    · by_cases h2 : i < k
      · simp [h2, show i < k + 1 by omega]
      · simp [h2, show ¬ i < k + 1 by omega]

/-- One more bit of a number taken in. -/
theorem over_step (m n k : Nat) : halv m (n % 2 ^ (k + 1)) = halv m (n % 2 ^ k) ^^^ (if n / 2 ^ k % 2 = 1 then halv m (2 ^ k) else 0) := by
  rw [low_bits, halv_xor]
  split
  · rfl
  · rw [halv_nought]

theorem turned_sub {n : Nat} (h : n < 4294967296) : 4294967295 ^^^ n = 4294967295 - n := by
  have e1 : (BitVec.allOnes 32 ^^^ BitVec.ofNat 32 n).toNat = 4294967295 ^^^ n := by
    rw [BitVec.toNat_xor, BitVec.toNat_ofNat, Nat.mod_eq_of_lt (by omega)]
    rfl
  rw [← e1, BitVec.allOnes_xor, BitVec.toNat_not, BitVec.toNat_ofNat, Nat.mod_eq_of_lt (by omega)]

end Go.Proofs.Ytgelfopjolkfdaa
