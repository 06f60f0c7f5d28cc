/- Numbers in cells, marks, sides and what is read of them, in plain words: nothing of the program. -/
import Derived.Test.YtipikkniookanaaPlain
namespace Go.Proofs.Ytipikkniookanaa

/-- A number out of its bytes, the lowest first. -/
def numLE : List Nat → Nat
  | [] => 0
  | b :: r => b + 256 * numLE r

/-- So many bytes of a number, the lowest first. -/
def leL : Nat → Nat → List Nat
  | 0, _ => []
  | k + 1, n => n % 256 :: leL k (n / 256)

theorem leL_len (k n : Nat) : (leL k n).length = k := by
  induction k generalizing n with
  | zero => rfl
  | succ k ih => simp [leL, ih]
theorem leL_bytes (k n : Nat) : Bytes (leL k n) := by
  induction k generalizing n with
  | zero => intro b hb; simp [leL] at hb
  | succ k ih =>
    intro b hb
    simp [leL] at hb
    rcases hb with rfl | hb
    · omega
    · exact ih _ b hb
theorem numLE_leL (k n : Nat) (h : n < 256 ^ k) : numLE (leL k n) = n := by
  induction k generalizing n with
  | zero => simp at h; subst h; rfl
  | succ k ih =>
    rw [Nat.pow_succ] at h
    simp only [leL, numLE]
    rw [ih (n / 256) (by omega)]
    omega
theorem numLE_lt {l : List Nat} (h : Bytes l) : numLE l < 256 ^ l.length := by
  induction l with
  | nil => simp [numLE]
  | cons b r ih =>
    have h1 := h b (by simp)
    have h2 := ih (fun x hx => h x (by simp [hx]))
    simp only [numLE, List.length_cons, Nat.pow_succ]
    omega
theorem numLE_snoc (l : List Nat) (x : Nat) : numLE (l ++ [x]) = numLE l + x * 256 ^ l.length := by
  induction l with
  | nil => simp [numLE]
  | cons b r ih =>
    simp only [List.cons_append, numLE, ih, List.length_cons, Nat.pow_succ, Nat.mul_add]
    rw [Nat.add_assoc, Nat.mul_left_comm 256 x, Nat.mul_comm 256 (256 ^ r.length)]
theorem leL_get (k n i : Nat) (hi : i < k) : (leL k n)[i]? = some (n / 256 ^ i % 256) := by
  induction k generalizing n i with
  | zero => omega
  | succ k ih =>
    cases i with
    | zero => simp [leL]
    | succ i =>
      simp only [leL, List.getElem?_cons_succ]
      rw [ih (n / 256) i (by omega), Nat.div_div_eq_div_mul, Nat.pow_succ, Nat.mul_comm 256]

/-- The number at a place of a cell. -/
def numC (c : List Nat) (o : Nat) : Nat := numLE ((c.drop o).take 8)

theorem numC_lt {c : List Nat} (h : IsCell c) (o : Nat) : numC c o < 18446744073709551616 := by
  have h1 := numLE_lt (l := (c.drop o).take 8) (fun b hb => h.byte b (List.mem_of_mem_drop (List.mem_of_mem_take hb)))
  have h2 : 256 ^ ((c.drop o).take 8).length ≤ 256 ^ 8 := Nat.pow_le_pow_right (by decide) (by rw [List.length_take]; omega)
  exact Nat.lt_of_lt_of_le h1 h2

/-- The mark of a round and a place. -/
def markN (r k : Nat) : Nat := r * 65536 + k + 1

/-- A cell with a mark. -/
def markedC (m : Nat) (l : List Nat) : List Nat := leL 8 m ++ (l ++ List.replicate (48 - l.length) 0) ++ leL 8 m
/-- What is between a cell's marks. -/
def innerC (c : List Nat) : List Nat := (c.drop 8).take 48

theorem markedC_is (m : Nat) {l : List Nat} (hl : l.length ≤ 48) (hb : Bytes l) : IsCell (markedC m l) := by
  refine ⟨?_, fun b h => ?_⟩
  · simp [markedC, leL_len]; omega
  · simp only [markedC, List.mem_append] at h
    rcases h with (h | h | h) | h
    · exact leL_bytes _ _ b h
    · exact hb b h
    · rw [(List.mem_replicate.1 h).2]; decide
    · exact leL_bytes _ _ b h
theorem numC_marked {m : Nat} (hm : m < 18446744073709551616) {l : List Nat} (hl : l.length ≤ 48) : numC (markedC m l) 0 = m ∧ numC (markedC m l) 56 = m := by
  have h8 := leL_len 8 m
  have e : numLE (leL 8 m) = m := numLE_leL 8 m hm
  unfold numC markedC
  constructor
  · rw [List.drop_zero, List.append_assoc, List.take_append_of_le_length (by omega), List.take_of_length_le (by omega), e]
  · have hlen : (leL 8 m ++ (l ++ List.replicate (48 - l.length) 0)).length = 56 := by simp [h8]; omega
    rw [List.drop_append_of_le_length (by omega), List.drop_eq_nil_of_le (by omega), List.nil_append, List.take_of_length_le (by omega), e]
theorem innerC_marked (m : Nat) {l : List Nat} (hl : l.length ≤ 48) : innerC (markedC m l) = l ++ List.replicate (48 - l.length) 0 := by
  have h8 := leL_len 8 m
  have hlen : (l ++ List.replicate (48 - l.length) 0).length = 48 := by simp; omega
  unfold innerC markedC
  rw [List.append_assoc, List.drop_append_of_le_length (by omega), List.drop_eq_nil_of_le (by omega), List.nil_append, List.take_append_of_le_length (by omega), List.take_of_length_le (by omega)]
theorem innerC_len {c : List Nat} (h : IsCell c) : (innerC c).length = 48 := by simp [innerC, h.len]
theorem innerC_bytes {c : List Nat} (h : IsCell c) : Bytes (innerC c) := fun b hb => h.byte b (List.mem_of_mem_drop (List.mem_of_mem_take hb))

/-- A cell bears this mark. -/
def bearsC (c : List Nat) (m : Nat) : Bool := numC c 0 == m && numC c 56 == m
def isRoundB (r : Nat) : Bool := decide (1 ≤ r) && decide (r ≤ 1099511627776)
def isSideB (s : Int) : Bool := decide (0 ≤ s) && decide (s < 2)

/-- What stands in these cells for a round, from the place k on. -/
def runS (r : Nat) : Nat → List (List Nat) → List (List Nat)
  | _, [] => []
  | k, c :: t => if bearsC c (markN r k) then innerC c :: runS r (k + 1) t else []
/-- The round that the first of them bears, or 0. -/
def firstR : List (List Nat) → Nat
  | [] => 0
  | c :: _ => if isRoundB (numC c 0 / 65536) && bearsC c (markN (numC c 0 / 65536) 0) then numC c 0 / 65536 else 0
/-- A round, and what stands in these cells for it. -/
def readS (s : List (List Nat)) : Nat × List (List Nat) := if firstR s = 0 then (0, []) else (firstR s, runS (firstR s) 0 s)
/-- One of the two sides. -/
def sideL (s : List (List Nat)) (side : Nat) : List (List Nat) := (s.drop (side * (s.length / 2))).take (s.length / 2)
def readL (s : List (List Nat)) (side : Int) : Nat × List (List Nat) := if isSideB side then readS (sideL s side.toNat) else (0, [])

/-- The greatest number of all. -/
def topM : List (List Nat) → Nat
  | [] => 0
  | c :: t => max (max (numC c 0) (numC c 56)) (topM t)
def topL (s : List (List Nat)) : Nat := topM s / 65536

theorem topM_lt {s : List (List Nat)} (h : Cells s) : topM s < 18446744073709551616 := by
  induction s with
  | nil => simp [topM]
  | cons c t ih =>
    have h0 := numC_lt (h c (by simp)) 0
    have h1 := numC_lt (h c (by simp)) 56
    have h2 := ih (fun d hd => h d (by simp [hd]))
    simp only [topM]
    omega
theorem topM_drop {s : List (List Nat)} {k : Nat} (h : k < s.length) : topM (s.drop k) = max (max (numC s[k] 0) (numC s[k] 56)) (topM (s.drop (k + 1))) := by
  rw [List.drop_eq_getElem_cons h]
  rfl
theorem max_div (a b : Nat) : max a b / 65536 = max (a / 65536) (b / 65536) := by omega

theorem sideL_len (s : List (List Nat)) {side : Nat} (h : side ≤ 1) : (sideL s side).length = s.length / 2 := by
  unfold sideL
  rw [List.length_take, List.length_drop]
  rcases Nat.le_one_iff_eq_zero_or_eq_one.1 h with rfl | rfl <;> omega
theorem sideL_get (s : List (List Nat)) {side k : Nat} (h : side ≤ 1) (hk : k < s.length / 2) : (sideL s side)[k]'(by rw [sideL_len s h]; exact hk) = s[side * (s.length / 2) + k]'(by rcases Nat.le_one_iff_eq_zero_or_eq_one.1 h with rfl | rfl <;> omega) := by
  unfold sideL
  rw [List.getElem_take, List.getElem_drop]
theorem sideL_cells {s : List (List Nat)} (h : Cells s) (side : Nat) : Cells (sideL s side) := fun c hc => h c (List.mem_of_mem_drop (List.mem_of_mem_take hc))

theorem runS_drop (r : Nat) {s : List (List Nat)} {k : Nat} (h : k < s.length) : runS r k (s.drop k) = if bearsC s[k] (markN r k) then innerC s[k] :: runS r (k + 1) (s.drop (k + 1)) else [] := by
  rw [List.drop_eq_getElem_cons h]
  rfl
theorem runS_len (r : Nat) (s : List (List Nat)) : ∀ k, (runS r k s).length ≤ s.length := by
  induction s with
  | nil => intro k; simp [runS]
  | cons c t ih =>
    intro k
    unfold runS
    split
    · have := ih (k + 1); simp; omega
    · simp
theorem runS_each (r : Nat) (s : List (List Nat)) (h : Cells s) : ∀ k, ∀ l ∈ runS r k s, l.length = 48 ∧ Bytes l := by
  induction s with
  | nil => intro k l hl; simp [runS] at hl
  | cons c t ih =>
    intro k l hl
    unfold runS at hl
    split at hl
    · rcases List.mem_cons.1 hl with rfl | hl
      · exact ⟨innerC_len (h c (by simp)), innerC_bytes (h c (by simp))⟩
      · exact ih (fun d hd => h d (by simp [hd])) (k + 1) l hl
    · simp at hl

theorem firstR_lt (s : List (List Nat)) : firstR s ≤ 1099511627776 := by
  cases s with
  | nil => simp [firstR]
  | cons c t =>
    show (if isRoundB (numC c 0 / 65536) && bearsC c (markN (numC c 0 / 65536) 0) then numC c 0 / 65536 else 0) ≤ _
    split
    · rename_i h
      simp [isRoundB] at h
      omega
    · omega
theorem readS_lt (s : List (List Nat)) : (readS s).1 ≤ 1099511627776 := by
  unfold readS
  split
  · simp
  · exact firstR_lt s
theorem readS_each {s : List (List Nat)} (h : Cells s) : ∀ l ∈ (readS s).2, l.length = 48 ∧ Bytes l := by
  unfold readS
  split
  · intro l hl; simp at hl
  · exact runS_each _ s h 0
theorem readL_each {s : List (List Nat)} (h : Cells s) (side : Int) : ∀ l ∈ (readL s side).2, l.length = 48 ∧ Bytes l := by
  unfold readL
  split
  · exact readS_each (sideL_cells h _)
  · intro l hl; simp at hl
theorem readL_lt (s : List (List Nat)) (side : Int) : (readL s side).1 ≤ 1099511627776 := by
  unfold readL
  split
  · exact readS_lt _
  · simp
theorem readL_len (s : List (List Nat)) (side : Int) : (readL s side).2.length ≤ s.length := by
  unfold readL
  split
  · unfold readS
    split
    · simp
    · refine Nat.le_trans (runS_len _ _ 0) ?_
      unfold sideL
      rw [List.length_take, List.length_drop]
      omega
  · simp

/-- A cell's mark, or 0. -/
def markC (c : List Nat) : Nat := if numC c 0 = numC c 56 then numC c 0 else 0

theorem markC_bears (c : List Nat) (r k : Nat) : (markC c = markN r k) ↔ bearsC c (markN r k) = true := by
  unfold markC bearsC markN
  simp only [Bool.and_eq_true, beq_iff_eq]
  split <;> omega
theorem markC_marked {m : Nat} (hm : m < 18446744073709551616) {l : List Nat} (hl : l.length ≤ 48) : markC (markedC m l) = m := by
  obtain ⟨h1, h2⟩ := numC_marked hm hl
  simp [markC, h1, h2]

/-- What the document's Read goes by. -/
theorem readS_ref (s : List (List Nat)) : readS s = match s with
    | [] => (0, [])
    | c :: _ => if isRoundB (markC c / 65536) then (if runS (markC c / 65536) 0 s = [] then (0, []) else (markC c / 65536, runS (markC c / 65536) 0 s)) else (0, []) := by
  cases s with
  | nil => simp [readS, firstR]
  | cons c t =>
    have hrun : ∀ r, runS r 0 (c :: t) = if bearsC c (markN r 0) then innerC c :: runS r 1 t else [] := fun r => rfl
    by_cases h0 : numC c 0 = numC c 56
    · have hm : markC c = numC c 0 := by simp [markC, h0]
      simp only [readS, firstR, hm]
      by_cases hr : isRoundB (numC c 0 / 65536) = true
      · have hpos : numC c 0 / 65536 ≠ 0 := by simp [isRoundB] at hr; omega
        by_cases hb : bearsC c (markN (numC c 0 / 65536) 0) = true
        · simp only [hr, hb, Bool.and_self, if_true, hpos, if_false, hrun, reduceCtorEq]
        · have hb' : bearsC c (markN (numC c 0 / 65536) 0) = false := by simpa using hb
          simp only [hr, hb', Bool.and_false, if_true, hrun, Bool.false_eq_true, if_false]
      · have hr' : isRoundB (numC c 0 / 65536) = false := by simpa using hr
        simp only [hr', Bool.false_and, if_true, Bool.false_eq_true, if_false]
    · have hm : markC c = 0 := by simp [markC, h0]
      have hb : ∀ m, bearsC c m = false := fun m => by
        simp only [bearsC, Bool.and_eq_false_iff, beq_eq_false_iff_ne]
        omega
      simp [readS, firstR, hm, hb, isRoundB]

end Go.Proofs.Ytipikkniookanaa
