/- Cells, plates and what is done to them, in plain words: nothing of the program. -/
namespace Go.Proofs.Ytipikkniookanaa

def Bytes (l : List Nat) : Prop := ∀ b ∈ l, b < 256

/-- A cell: 64 bytes. -/
structure IsCell (c : List Nat) : Prop where
  len : c.length = 64
  byte : Bytes c

/-- Noughts. -/
def zeroC : List Nat := List.replicate 64 0
/-- One byte, and noughts behind it. -/
def oneC (v : Nat) : List Nat := v :: List.replicate 63 0
/-- The cells that the laws write: all bytes alike, but for the first one. -/
def cellV (v : Nat) : List Nat := ((v + 1) % 256) :: List.replicate 63 v

theorem zeroC_len : zeroC.length = 64 := by simp [zeroC]
theorem zeroC_is : IsCell zeroC := ⟨by simp [zeroC], fun b hb => by simp [zeroC] at hb; omega⟩
theorem oneC_is {v : Nat} (h : v < 256) : IsCell (oneC v) := ⟨by simp [oneC], fun b hb => by simp [oneC] at hb; omega⟩
theorem cellV_is {v : Nat} (h : v < 256) : IsCell (cellV v) := ⟨by simp [cellV], fun b hb => by simp [cellV] at hb; omega⟩

/-- The first n bytes of one, and what the other one has behind them. -/
def tear (n : Nat) (c s : List Nat) : List Nat := c.take n ++ s.drop n

theorem tear_is {n : Nat} {c s : List Nat} (hc : IsCell c) (hs : IsCell s) : IsCell (tear n c s) := by
  refine ⟨?_, fun b hb => ?_⟩
  · unfold tear
    rw [List.length_append, List.length_take, List.length_drop, hc.len, hs.len]
    omega
  · unfold tear at hb
    rcases List.mem_append.1 hb with h | h
    · exact hc.byte b (List.mem_of_mem_take h)
    · exact hs.byte b (List.mem_of_mem_drop h)

theorem tear_zero (c s : List Nat) : tear 0 c s = s := by simp [tear]
theorem tear_all {c s : List Nat} (hc : IsCell c) (hs : IsCell s) : tear 64 c s = c := by
  unfold tear
  rw [List.take_of_length_le (by rw [hc.len]; omega), List.drop_eq_nil_of_le (by rw [hs.len]; omega), List.append_nil]

/-- One byte more. -/
theorem tear_succ {c s : List Nat} (hc : IsCell c) (hs : IsCell s) {n : Nat} (hn : n < 64) {x : Nat} (hx : c[n]? = some x) : (tear n c s).set n x = tear (n + 1) c s := by
  have h1 : (c.take n).length = n := by rw [List.length_take, hc.len]; omega
  unfold tear
  rw [List.set_append_right _ _ (by omega), h1, Nat.sub_self, List.take_add_one, hx]
  rw [List.drop_eq_getElem_cons (by rw [hs.len]; exact hn), List.set_cons_zero]
  simp

theorem tear_get {c s : List Nat} (hc : IsCell c) {n j : Nat} (hn : n ≤ 64) : (tear n c s)[j]? = if j < n then c[j]? else s[j]? := by
  have h1 : (c.take n).length = n := by rw [List.length_take, hc.len]; omega
  unfold tear
  split
  · rename_i h
    rw [List.getElem?_append_left (by omega), List.getElem?_take, if_pos h]
  · rename_i h
    rw [List.getElem?_append_right (by omega), h1, List.getElem?_drop]
    congr 1
    omega

/-- The bit k of these bytes. -/
def bitOf (keep : List Nat) (k : Nat) : Bool :=
  match keep[k / 8]? with
  | some b => b / 2 ^ (k % 8) % 2 == 1
  | none => false

/-- A number between 0 and m. -/
def clampN (n : Int) (m : Nat) : Nat := (max 0 (min n (m : Int))).toNat

theorem clampN_le (n : Int) (m : Nat) : clampN n m ≤ m := by unfold clampN; omega

/-- How many bytes of the k-th one are kept. -/
def keptN (keep : List Nat) (torn at_ : Int) (k : Nat) : Nat := if (k : Int) = torn then clampN at_ 64 else if bitOf keep k then 64 else 0

theorem keptN_le (keep : List Nat) (torn at_ : Int) (k : Nat) : keptN keep torn at_ k ≤ 64 := by
  unfold keptN
  have := clampN_le at_ 64
  split
  · exact this
  · split <;> omega

/-- All of them, one behind the other. -/
def layAll : List (List Nat) → List (Nat × List Nat) → List (List Nat)
  | s, [] => s
  | s, (i, c) :: r => layAll (s.set i c) r

theorem layAll_append (s : List (List Nat)) (l m : List (Nat × List Nat)) : layAll s (l ++ m) = layAll (layAll s l) m := by
  induction l generalizing s with
  | nil => rfl
  | cons x r ih => exact ih _
theorem layAll_len (s : List (List Nat)) (l : List (Nat × List Nat)) : (layAll s l).length = s.length := by
  induction l generalizing s with
  | nil => rfl
  | cons x r ih => exact (ih _).trans (List.length_set)

/-- What the power leaves. -/
def failL (keep : List Nat) (torn at_ : Int) : Nat → List (Nat × List Nat) → List (List Nat) → List (List Nat)
  | _, [], s => s
  | k, (i, c) :: r, s => failL keep torn at_ (k + 1) r (s.set i (tear (keptN keep torn at_ k) c (s.getD i [])))

theorem failL_len (keep : List Nat) (torn at_ : Int) (l : List (Nat × List Nat)) : ∀ (k : Nat) (s : List (List Nat)), (failL keep torn at_ k l s).length = s.length := by
  induction l with
  | nil => intro k s; rfl
  | cons x r ih => intro k s; exact (ih _ _).trans (List.length_set)

def Cells (s : List (List Nat)) : Prop := ∀ c ∈ s, IsCell c
/-- Puts within n cells. -/
def Puts (n : Nat) (l : List (Nat × List Nat)) : Prop := ∀ x ∈ l, x.1 < n ∧ IsCell x.2

theorem Cells.set {s : List (List Nat)} (h : Cells s) {i : Nat} {c : List Nat} (hc : IsCell c) : Cells (s.set i c) := by
  intro d hd
  rcases List.mem_or_eq_of_mem_set hd with h1 | rfl
  · exact h d h1
  · exact hc
theorem Cells.get {s : List (List Nat)} (h : Cells s) {i : Nat} (hi : i < s.length) : IsCell s[i] := h _ (List.getElem_mem hi)
theorem Cells.zero (n : Nat) : Cells (List.replicate n zeroC) := by
  intro c hc
  rw [(List.mem_replicate.1 hc).2]
  exact zeroC_is
theorem cells_layAll {n : Nat} (l : List (Nat × List Nat)) : ∀ (s : List (List Nat)), Cells s → Puts n l → Cells (layAll s l) := by
  induction l with
  | nil => intro s h _; exact h
  | cons x r ih => intro s h hp; exact ih _ (h.set (hp x (by simp)).2) (fun y hy => hp y (by simp [hy]))
theorem getD_cell {s : List (List Nat)} (h : Cells s) {i : Nat} (hi : i < s.length) : IsCell (s.getD i []) := by
  rw [List.getD_eq_getElem?_getD, List.getElem?_eq_getElem hi]
  exact h.get hi
theorem cells_failL (keep : List Nat) (torn at_ : Int) (l : List (Nat × List Nat)) : ∀ (k : Nat) (s : List (List Nat)), Cells s → Puts s.length l → Cells (failL keep torn at_ k l s) := by
  induction l with
  | nil => intro k s h _; exact h
  | cons x r ih =>
    intro k s h hp
    have h1 := hp x (by simp)
    refine ih _ _ (h.set (tear_is h1.2 (getD_cell h h1.1))) (fun y hy => ?_)
    rw [List.length_set]
    exact hp y (by simp [hy])

/-- A plate. -/
structure Pl where
  sure : List (List Nat)
  last : List (List Nat)
  loose : List (Nat × List Nat)
  left : Int
  off : Bool

structure Pl.Good (P : Pl) : Prop where
  size : P.last.length = P.sure.length
  most : P.sure.length ≤ 4096
  cs : Cells P.sure
  cl : Cells P.last
  lo : Puts P.sure.length P.loose
  few : P.loose.length ≤ 100000
  low : -1 ≤ P.left
  high : P.left ≤ 9223372036854775807

/-- One write of those that are left. -/
def Pl.spend (P : Pl) : Int × Pl := if P.off || P.left == 0 then (72, { P with off := true }) else (0, { P with left := if 0 < P.left then P.left - 1 else P.left })

def Pl.has (P : Pl) (i : Int) : Bool := decide (0 ≤ i) && decide (i < (P.sure.length : Int))

def Pl.put (P : Pl) (i : Int) (c : List Nat) : Int × Pl :=
  if P.has i then (if P.spend.1 == 0 then (0, { P.spend.2 with last := P.last.set i.toNat c, loose := P.loose ++ [(i.toNat, c)] }) else (72, P.spend.2)) else (71, P)

def Pl.flush (P : Pl) : Int × Pl := if P.spend.1 == 0 then (0, { P.spend.2 with sure := layAll P.sure P.loose, loose := [] }) else (72, P.spend.2)

def Pl.limit (P : Pl) (n : Int) : Pl := { P with left := if n < -1 then -1 else n }

def Pl.fail (P : Pl) (keep : List Nat) (torn at_ : Int) : Pl :=
  { sure := failL keep torn at_ 0 P.loose P.sure, last := failL keep torn at_ 0 P.loose P.sure, loose := [], left := -1, off := false }

def Pl.get (P : Pl) (i : Int) : List Nat := if P.has i then P.last.getD i.toNat [] else zeroC
def Pl.getE (P : Pl) (i : Int) : Int := if P.has i then 0 else 71

def Pl.new (n : Nat) : Pl := { sure := List.replicate n zeroC, last := List.replicate n zeroC, loose := [], left := -1, off := false }

theorem Pl.spend_cases (P : Pl) : (P.spend.1 = 0 ∧ P.off = false ∧ P.left ≠ 0 ∧ P.spend.2 = { P with left := if 0 < P.left then P.left - 1 else P.left }) ∨ (P.spend.1 = 72 ∧ P.spend.2 = { P with off := true }) := by
  unfold Pl.spend
  cases h : P.off <;> cases h2 : (P.left == 0) <;> simp_all

theorem Pl.Good.spend {P : Pl} (h : P.Good) : P.spend.2.Good := by
  rcases P.spend_cases with ⟨_, _, h0, e⟩ | ⟨_, e⟩
  · rw [e]
    have := h.low
    have := h.high
    refine ⟨h.size, h.most, h.cs, h.cl, h.lo, h.few, ?_, ?_⟩
    · show -1 ≤ (if 0 < P.left then P.left - 1 else P.left)
      split <;> omega
    · show (if 0 < P.left then P.left - 1 else P.left) ≤ _
      split <;> omega
  · rw [e]
    exact ⟨h.size, h.most, h.cs, h.cl, h.lo, h.few, h.low, h.high⟩

theorem Pl.Good.put {P : Pl} (h : P.Good) {i : Int} {c : List Nat} (hc : IsCell c) (hl : P.loose.length < 100000) : (P.put i c).2.Good := by
  unfold Pl.put
  cases hh : P.has i with
  | false => exact h
  | true =>
    have hs := h.spend
    simp only [Pl.has, Bool.and_eq_true, decide_eq_true_eq] at hh
    rcases P.spend_cases with ⟨e1, _, _, e⟩ | ⟨e1, e⟩
    · rw [e1, e]
      rw [e] at hs
      refine ⟨by simp [h.size], h.most, h.cs, h.cl.set hc, fun x hx => ?_, ?_, hs.low, hs.high⟩
      · simp at hx
        rcases hx with hx | rfl
        · exact h.lo x hx
        · exact ⟨by simp; omega, hc⟩
      · simp; omega
    · rw [e1]
      exact hs

theorem Pl.Good.flush {P : Pl} (h : P.Good) : P.flush.2.Good := by
  unfold Pl.flush
  have hs := h.spend
  rcases P.spend_cases with ⟨e1, _, _, e⟩ | ⟨e1, e⟩
  · rw [e1, e]
    rw [e] at hs
    exact ⟨by simp [layAll_len, h.size], by simp [layAll_len, h.most], cells_layAll _ _ h.cs h.lo, h.cl, fun x hx => by simp at hx, by simp, hs.low, hs.high⟩
  · rw [e1]
    exact hs

theorem Pl.Good.limit {P : Pl} (h : P.Good) {n : Int} (hn : n ≤ 9223372036854775807) : (P.limit n).Good := by
  refine ⟨h.size, h.most, h.cs, h.cl, h.lo, h.few, ?_, ?_⟩
  · show -1 ≤ (if n < -1 then -1 else n)
    split <;> omega
  · show (if n < -1 then -1 else n) ≤ _
    split <;> omega

theorem Pl.Good.fail {P : Pl} (h : P.Good) (keep : List Nat) (torn at_ : Int) : (P.fail keep torn at_).Good := by
  have hc := cells_failL keep torn at_ P.loose 0 P.sure h.cs h.lo
  refine ⟨rfl, ?_, hc, hc, fun x hx => by simp [Pl.fail] at hx, by simp [Pl.fail], by simp [Pl.fail], by simp [Pl.fail]⟩
  show (failL keep torn at_ 0 P.loose P.sure).length ≤ 4096
  rw [failL_len]
  exact h.most

theorem Pl.Good.new {n : Nat} (h : n ≤ 4096) : (Pl.new n).Good :=
  ⟨rfl, by simp [Pl.new, h], Cells.zero n, Cells.zero n, fun x hx => by simp [Pl.new] at hx, by simp [Pl.new], by simp [Pl.new], by simp [Pl.new]⟩

/-- Cells in a row. -/
theorem flat_len {s : List (List Nat)} (h : Cells s) : s.flatten.length = s.length * 64 := by
  induction s with
  | nil => rfl
  | cons c r ih =>
    rw [List.flatten_cons, List.length_append, (h c (by simp)).len, ih (fun d hd => h d (by simp [hd])), List.length_cons]
    omega

theorem flat_get {s : List (List Nat)} (h : Cells s) : ∀ {i j : Nat}, i < s.length → j < 64 → s.flatten[i * 64 + j]? = (s.getD i [])[j]? := by
  induction s with
  | nil => intro i j hi; simp at hi
  | cons c r ih =>
    intro i j hi hj
    have hc := (h c (by simp)).len
    cases i with
    | zero =>
      rw [List.flatten_cons, List.getElem?_append_left (by omega)]
      simp
    | succ i =>
      rw [List.flatten_cons, List.getElem?_append_right (by omega), show (i + 1) * 64 + j - c.length = i * 64 + j by omega, ih (fun d hd => h d (by simp [hd])) (by simpa using hi) hj]
      simp

theorem flat_set {s : List (List Nat)} (h : Cells s) {c : List Nat} (_hc : IsCell c) : ∀ {i : Nat}, i < s.length → (s.set i c).flatten = s.flatten.take (i * 64) ++ c ++ s.flatten.drop (i * 64 + 64) := by
  induction s with
  | nil => intro i hi; simp at hi
  | cons d r ih =>
    intro i hi
    have hd := (h d (by simp)).len
    cases i with
    | zero =>
      rw [List.set_cons_zero, List.flatten_cons, List.flatten_cons, List.drop_append_of_le_length (by omega), List.drop_eq_nil_of_le (by omega)]
      simp
    | succ i =>
      rw [List.set_cons_succ, List.flatten_cons, List.flatten_cons, ih (fun e he => h e (by simp [he])) (by simpa using hi)]
      rw [show (i + 1) * 64 = d.length + i * 64 by omega, List.take_length_add_append, Nat.add_assoc, List.drop_length_add_append]
      simp

end Go.Proofs.Ytipikkniookanaa
