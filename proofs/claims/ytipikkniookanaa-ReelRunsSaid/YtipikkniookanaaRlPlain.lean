/- Frames over cells, what is read of them, and what is done to a reel, in plain words. -/
import Derived.Test.YtipikkniookanaaPkPlain
import Derived.Test.YtipikkniookanaaMkPut
namespace Go.Proofs.Ytipikkniookanaa
set_option maxRecDepth 100000

/-- How many cells a frame with so many bytes has. -/
def cellsN (n : Nat) : Nat := if n ≤ 65536 then (7 + (numL n).length + n + 47) / 48 else 0
def cellsI (n : Int) : Nat := if 0 ≤ n then cellsN n.toNat else 0

theorem cellsN_pos {n : Nat} (h : n ≤ 65536) : 0 < cellsN n := by
  unfold cellsN
  rw [if_pos h]
  omega
theorem numL_three {n : Nat} (h : n ≤ 65536) : (numL n).length ≤ 3 := numL_len n 3 (by omega) (by decide)
theorem cellsN_le (n : Nat) : cellsN n ≤ 1366 := by
  unfold cellsN
  split
  · rename_i h
    have := numL_three h
    omega
  · omega

/-- So many pieces of 48 bytes. -/
def chop : Nat → List Nat → List (List Nat)
  | 0, _ => []
  | n + 1, l => l.take 48 :: chop n (l.drop 48)
def chunksL (l : List Nat) : List (List Nat) := chop ((l.length + 47) / 48) l

theorem chop_len (n : Nat) : ∀ l, (chop n l).length = n := by
  induction n with
  | zero => intro l; rfl
  | succ n ih => intro l; simp [chop, ih]
theorem chunksL_len (l : List Nat) : (chunksL l).length = (l.length + 47) / 48 := chop_len _ _
theorem chop_get (n : Nat) : ∀ (l : List Nat) (i : Nat), i < n → (chop n l)[i]? = some ((l.drop (i * 48)).take 48) := by
  induction n with
  | zero => intro l i hi; omega
  | succ n ih =>
    intro l i hi
    cases i with
    | zero => simp [chop]
    | succ i =>
      simp only [chop, List.getElem?_cons_succ]
      rw [ih _ i (by omega), List.drop_drop]
      congr 3
      omega
theorem chop_each (n : Nat) : ∀ (l : List Nat), Bytes l → ∀ c ∈ chop n l, c.length ≤ 48 ∧ Bytes c := by
  induction n with
  | zero => intro l _ c hc; simp [chop] at hc
  | succ n ih =>
    intro l hl c hc
    simp only [chop, List.mem_cons] at hc
    rcases hc with rfl | hc
    · exact ⟨by rw [List.length_take]; omega, fun b hb => hl b (List.mem_of_mem_take hb)⟩
    · exact ih _ (fun b hb => hl b (List.mem_of_mem_drop hb)) c hc

/-- Bytes up to 48. -/
def pad (c : List Nat) : List Nat := c ++ List.replicate (48 - c.length) 0
theorem pad_len {c : List Nat} (h : c.length ≤ 48) : (pad c).length = 48 := by simp [pad]; omega
theorem chop_pad (n : Nat) : ∀ (l : List Nat), l.length ≤ n * 48 → n * 48 < l.length + 48 → ((chop n l).map pad).flatten = l ++ List.replicate (n * 48 - l.length) 0 := by
  induction n with
  | zero =>
    intro l h _
    have : l = [] := List.eq_nil_of_length_eq_zero (by omega)
    subst this
    rfl
  | succ n ih =>
    intro l h h2
    simp only [chop, List.map_cons, List.flatten_cons]
    by_cases hl : 48 < l.length
    · rw [ih (l.drop 48) (by rw [List.length_drop]; omega) (by rw [List.length_drop]; omega)]
      have e : pad (l.take 48) = l.take 48 := by
        unfold pad
        rw [List.length_take, show 48 - min 48 l.length = 0 by omega]
        simp
      rw [e, ← List.append_assoc, List.take_append_drop, List.length_drop]
      congr 2
      omega
    · have hn : n = 0 := by omega
      subst hn
      rw [List.take_of_length_le (by omega)]
      simp only [chop, List.map_nil, List.flatten_nil, List.append_nil, pad, Nat.zero_add, Nat.one_mul]
theorem chunks_pad (l : List Nat) : ((chunksL l).map pad).flatten = l ++ List.replicate ((l.length + 47) / 48 * 48 - l.length) 0 := chop_pad _ l (by omega) (by omega)
/-- A beginning of them is a beginning of the bytes. -/
theorem chop_take (n : Nat) : ∀ (l : List Nat) (j : Nat), j < n → n * 48 < l.length + 48 → (((chop n l).take j).map pad).flatten = l.take (j * 48) := by
  induction n with
  | zero => intro l j h; omega
  | succ n ih =>
    intro l j hj h2
    cases j with
    | zero => simp
    | succ j =>
      simp only [chop, List.take_succ_cons, List.map_cons, List.flatten_cons]
      rw [ih (l.drop 48) j (by omega) (by rw [List.length_drop]; omega)]
      have e : pad (l.take 48) = l.take 48 := by
        unfold pad
        rw [List.length_take, show 48 - min 48 l.length = 0 by omega]
        simp
      rw [e, show (j + 1) * 48 = 48 + j * 48 by omega, List.take_add]

theorem frame_cells (k : Nat) {l : List Nat} (h : l.length ≤ 65536) : (chunksL (frameL k l)).length = cellsN l.length := by
  rw [chunksL_len, frameL_len]
  unfold cellsN
  rw [if_pos h]
  omega
theorem flat_pad_len {cs : List (List Nat)} (h : ∀ c ∈ cs, c.length ≤ 48) : (cs.map pad).flatten.length = cs.length * 48 := by
  induction cs with
  | nil => rfl
  | cons c r ih =>
    rw [List.map_cons, List.flatten_cons, List.length_append, pad_len (h c (by simp)), ih (fun d hd => h d (by simp [hd])), List.length_cons]
    omega

def zerosB (b : List Nat) : Bool := b.all (· == 0)

/-- The body of a frame of that kind at the beginning, and its cells. -/
def frameAtL (b : List Nat) (k : Nat) : List Nat × Nat :=
  if (openL b).2.2.2 = 0 ∧ (openL b).1 = k ∧ zerosB ((b.drop (openL b).2.2.1).take (cellsN (openL b).2.1.length * 48 - (openL b).2.2.1)) = true then ((openL b).2.1, cellsN (openL b).2.1.length) else ([], 0)

/-- The bodies of frames, one behind the other, and their cells. -/
def parse (k : Nat) (b : List Nat) : List (List Nat) × Nat :=
  if _h : (frameAtL b k).2 = 0 ∨ b.length = 0 then ([], 0)
  else ((frameAtL b k).1 :: (parse 2 (b.drop ((frameAtL b k).2 * 48))).1, (frameAtL b k).2 + (parse 2 (b.drop ((frameAtL b k).2 * 48))).2)
termination_by b.length
decreasing_by all_goals simp; omega

theorem open_ok {b : List Nat} (hb : Bytes b) (h : (openL b).2.2.2 = 0) : frameL (openL b).1 (openL b).2.1 = b.take (openL b).2.2.1 ∧ (openL b).2.1.length ≤ 65536 ∧ (openL b).2.2.1 ≤ b.length ∧ (openL b).1 < 256 := by
  obtain ⟨k, body, n, e⟩ : ∃ k body n, openL b = (k, body, n, 0) := ⟨_, _, _, by rw [← h]⟩
  rw [e]
  exact open_alone hb e
/-- A frame's cells are there. -/
theorem open_room {b : List Nat} (hb : Bytes b) (h : (openL b).2.2.2 = 0) {n : Nat} (hn : b.length = n * 48) : cellsN (openL b).2.1.length * 48 ≤ b.length ∧ (openL b).2.2.1 ≤ cellsN (openL b).2.1.length * 48 ∧ 0 < cellsN (openL b).2.1.length := by
  obtain ⟨h1, h2, h3, _⟩ := open_ok hb h
  have h4 := congrArg List.length h1
  rw [frameL_len, List.length_take] at h4
  have h5 := cellsN_pos h2
  refine ⟨?_, ?_, h5⟩ <;> (unfold cellsN; rw [if_pos h2]; omega)
theorem frameAt_le {b : List Nat} (hb : Bytes b) {n : Nat} (hn : b.length = n * 48) (k : Nat) : (frameAtL b k).2 * 48 ≤ b.length := by
  unfold frameAtL
  split
  · rename_i h
    exact (open_room hb h.1 hn).1
  · simp
theorem frameAt_bytes {b : List Nat} (k : Nat) (hb : Bytes b) : Bytes (frameAtL b k).1 ∧ (frameAtL b k).1.length ≤ 65536 := by
  unfold frameAtL
  split
  · rename_i h
    obtain ⟨h1, h2, _⟩ := open_ok hb h.1
    refine ⟨fun x hx => ?_, h2⟩
    have : x ∈ b.take (openL b).2.2.1 := by rw [← h1]; simp [frameL, hx]
    exact hb x (List.mem_of_mem_take this)
  · exact ⟨fun x hx => by simp at hx, by simp⟩
theorem frameAt_nil (k : Nat) : frameAtL [] k = ([], 0) := by
  have : openL [] = (0, [], 0, 61) := by decide
  simp [frameAtL, this]

theorem frameAt_frame (k : Nat) (t r : List Nat) (ht : t.length ≤ 65536) : frameAtL (((chunksL (frameL k t)).map pad).flatten ++ r) k = (t, cellsN t.length) := by
  have e : ((chunksL (frameL k t)).map pad).flatten ++ r = frameL k t ++ (List.replicate (cellsN t.length * 48 - (frameL k t).length) 0 ++ r) := by
    rw [chunks_pad, ← chunksL_len, frame_cells k ht, List.append_assoc]
  have ho := open_frame k t (List.replicate (cellsN t.length * 48 - (frameL k t).length) 0 ++ r) ht
  unfold frameAtL
  rw [e, ho]
  have : (((frameL k t ++ (List.replicate (cellsN t.length * 48 - (frameL k t).length) 0 ++ r)).drop (frameL k t).length).take (cellsN t.length * 48 - (frameL k t).length)) = List.replicate (cellsN t.length * 48 - (frameL k t).length) 0 := by
    rw [List.drop_left, List.take_append_of_le_length (by simp), List.take_of_length_le (by simp)]
  rw [if_pos ⟨rfl, rfl, by simp only [this]; simp [zerosB]⟩]

/-- A beginning of a frame is none. -/
theorem open_part {k : Nat} {t : List Nat} (hk : k < 256) (ht : t.length ≤ 65536) (hb : Bytes t) {m : Nat} (hm : m < (frameL k t).length) : (openL ((frameL k t).take m)).2.2.2 ≠ 0 := by
  intro h
  have hB : Bytes ((frameL k t).take m) := fun x hx => frameL_bytes hk hb x (List.mem_of_mem_take hx)
  obtain ⟨h1, h2, h3, _⟩ := open_ok hB h
  rw [List.length_take] at h3
  generalize (openL ((frameL k t).take m)).2.2.1 = n at *
  generalize (openL ((frameL k t).take m)).2.1 = body at *
  generalize (openL ((frameL k t).take m)).1 = k' at *
  rw [List.take_take] at h1
  have e : frameL k t = frameL k' body ++ (frameL k t).drop (min n m) := by rw [h1, List.take_append_drop]
  have e1 := open_frame k t [] ht
  have e2 := open_frame k' body ((frameL k t).drop (min n m)) h2
  rw [List.append_nil] at e1
  rw [← e, e1] at e2
  have e3 : (frameL k t).length = (frameL k' body).length := by
    have := congrArg (fun x => x.2.2.1) e2
    simpa using this
  have := congrArg List.length h1
  rw [List.length_take] at this
  omega
theorem frameAt_part {k : Nat} {t : List Nat} (hk : k < 256) (ht : t.length ≤ 65536) (hb : Bytes t) {j : Nat} (hj : j < cellsN t.length) : frameAtL ((((chunksL (frameL k t)).take j).map pad).flatten) k = ([], 0) := by
  have hc := frame_cells k ht
  have e : (((chunksL (frameL k t)).take j).map pad).flatten = (frameL k t).take (j * 48) := by
    rw [chunksL_len] at hc
    exact chop_take _ _ j (by omega) (by omega)
  rw [chunksL_len] at hc
  unfold frameAtL
  rw [e, if_neg (fun h => open_part hk ht hb (by omega) h.1)]

/-- The pieces of a tale and of words. -/
def piecesW (ws : List (List Nat)) : List (List Nat) := (ws.map fun x => chunksL (frameL 2 x)).flatten
def piecesT (t : List Nat) (ws : List (List Nat)) : List (List Nat) := chunksL (frameL 1 t) ++ piecesW ws

def Word (x : List Nat) : Prop := x.length ≤ 65536 ∧ Bytes x

theorem parse_zero {k : Nat} {b : List Nat} (h : (frameAtL b k).2 = 0) : parse k b = ([], 0) := by
  rw [parse, dif_pos (.inl h)]
theorem parse_cons {k : Nat} {t r : List Nat} (ht : t.length ≤ 65536) : parse k (((chunksL (frameL k t)).map pad).flatten ++ r) = (t :: (parse 2 r).1, cellsN t.length + (parse 2 r).2) := by
  have hc := cellsN_pos ht
  have hf := frameAt_frame k t r ht
  have hl : (((chunksL (frameL k t)).map pad).flatten).length = cellsN t.length * 48 := by
    have := frame_cells k ht
    have h2 := frameL_len k t
    rw [chunks_pad, List.length_append, List.length_replicate, ← chunksL_len, this]
    rw [chunksL_len] at this
    omega
  rw [parse, dif_neg (by rw [hf, List.length_append, hl]; omega), hf]
  simp only
  rw [← hl, List.drop_left]

/-- Words, and a beginning of one more: the words. -/
theorem parse_words (ws : List (List Nat)) : ∀ (b : List Nat), (∀ x ∈ ws, Word x) → (frameAtL b 2).2 = 0 → parse 2 (((piecesW ws).map pad).flatten ++ b) = (ws, (piecesW ws).length) := by
  induction ws with
  | nil => intro b _ h; simp [piecesW, parse_zero h]
  | cons x r ih =>
    intro b hw h
    have hx := hw x (by simp)
    have e : ((piecesW (x :: r)).map pad).flatten ++ b = ((chunksL (frameL 2 x)).map pad).flatten ++ (((piecesW r).map pad).flatten ++ b) := by simp [piecesW]
    rw [e, parse_cons hx.1, ih b (fun y hy => hw y (by simp [hy])) h]
    have : (piecesW (x :: r)).length = (chunksL (frameL 2 x)).length + (piecesW r).length := by simp [piecesW]
    rw [this, frame_cells 2 hx.1]
theorem parse_tale {t : List Nat} (ht : Word t) {ws : List (List Nat)} (hw : ∀ x ∈ ws, Word x) {b : List Nat} (h : (frameAtL b 2).2 = 0) : parse 1 (((piecesT t ws).map pad).flatten ++ b) = (t :: ws, (piecesT t ws).length) := by
  have e : ((piecesT t ws).map pad).flatten ++ b = ((chunksL (frameL 1 t)).map pad).flatten ++ (((piecesW ws).map pad).flatten ++ b) := by simp [piecesT]
  have : (piecesT t ws).length = (chunksL (frameL 1 t)).length + (piecesW ws).length := by simp [piecesT]
  rw [e, parse_cons ht.1, parse_words ws b hw h, this, frame_cells 1 ht.1]

theorem piecesT_snoc (t : List Nat) (ws : List (List Nat)) (x : List Nat) : piecesT t (ws ++ [x]) = piecesT t ws ++ chunksL (frameL 2 x) := by simp [piecesT, piecesW]
theorem pieces_each {t : List Nat} (ht : Word t) {ws : List (List Nat)} (hw : ∀ x ∈ ws, Word x) : ∀ c ∈ piecesT t ws, c.length ≤ 48 ∧ Bytes c := by
  intro c hc
  simp only [piecesT, piecesW, List.mem_append, List.mem_flatten, List.mem_map] at hc
  rcases hc with h | ⟨l, ⟨x, hx, rfl⟩, h⟩
  · exact chop_each _ _ (frameL_bytes (by decide) ht.2) c h
  · exact chop_each _ _ (frameL_bytes (by decide) (hw x hx).2) c h

/-- What stands on a side: the round, the bodies and their cells. -/
def rowOf (s : List (List Nat)) (side : Int) : Nat × List (List Nat) × Nat := ((readL s side).1, parse 1 (readL s side).2.flatten)

/-- Which of the two is told: its side, its round and its bodies. -/
def told0 (s : List (List Nat)) : Nat × Nat × List (List Nat) := if (rowOf s 0).2.1 ≠ [] ∧ 0 < (rowOf s 0).1 then (0, (rowOf s 0).1, (rowOf s 0).2.1) else (1, 0, [])
def toldL (s : List (List Nat)) : Nat × Nat × List (List Nat) := if (rowOf s 1).2.1 ≠ [] ∧ (told0 s).2.1 < (rowOf s 1).1 then (1, (rowOf s 1).1, (rowOf s 1).2.1) else told0 s

/-- Pieces are put, one place behind the other, up to the first error. -/
def Pl.putC (P : Pl) (side : Int) (round : Nat) (at_ : Nat) : List (List Nat) → Int × Pl
  | [] => (0, P)
  | c :: r => if (P.mput side round (at_ : Int) c).1 == 0 then Pl.putC (P.mput side round (at_ : Int) c).2 side round (at_ + 1) r else P.mput side round (at_ : Int) c

/-- A reel on a plate. -/
structure Rl where
  P : Pl
  side : Nat
  ready : Bool

def Rl.room (r : Rl) : Nat := r.P.sure.length / 2
def fitsB (n cells : Nat) : Bool := decide (0 < cellsN n) && decide (cellsN n ≤ cells)

def Rl.begin (r : Rl) (t : List Nat) : Int × Rl :=
  if fitsB t.length r.room && decide (topL r.P.last < 1099511627776) then
    (if (r.P.putC ((1 - r.side : Nat) : Int) (topL r.P.last + 1) 0 (chunksL (frameL 1 t))).1 == 0 then
      (if (r.P.putC ((1 - r.side : Nat) : Int) (topL r.P.last + 1) 0 (chunksL (frameL 1 t))).2.flush.1 == 0 then
        (0, ⟨(r.P.putC ((1 - r.side : Nat) : Int) (topL r.P.last + 1) 0 (chunksL (frameL 1 t))).2.flush.2, 1 - r.side, true⟩)
      else ((r.P.putC ((1 - r.side : Nat) : Int) (topL r.P.last + 1) 0 (chunksL (frameL 1 t))).2.flush.1, ⟨(r.P.putC ((1 - r.side : Nat) : Int) (topL r.P.last + 1) 0 (chunksL (frameL 1 t))).2.flush.2, r.side, false⟩))
    else ((r.P.putC ((1 - r.side : Nat) : Int) (topL r.P.last + 1) 0 (chunksL (frameL 1 t))).1, ⟨(r.P.putC ((1 - r.side : Nat) : Int) (topL r.P.last + 1) 0 (chunksL (frameL 1 t))).2, r.side, false⟩))
  else (92, r)

def Rl.row (r : Rl) : Nat × List (List Nat) × Nat := rowOf r.P.last (r.side : Int)

def Rl.add (r : Rl) (x : List Nat) : Int × Rl :=
  if r.ready then
    (if fitsB x.length (r.room - r.row.2.2) then
      ((r.P.putC (r.side : Int) r.row.1 r.row.2.2 (chunksL (frameL 2 x))).1, ⟨(r.P.putC (r.side : Int) r.row.1 r.row.2.2 (chunksL (frameL 2 x))).2, r.side, (r.P.putC (r.side : Int) r.row.1 r.row.2.2 (chunksL (frameL 2 x))).1 == 0⟩)
    else (92, r))
  else (91, r)

def Rl.flush (r : Rl) : Int × Rl := if r.ready then (r.P.flush.1, ⟨r.P.flush.2, r.side, r.P.flush.1 == 0⟩) else (91, r)
def Rl.left (r : Rl) : Nat := if r.ready then r.room - r.row.2.2 else 0

theorem readL_flat {s : List (List Nat)} (h : Cells s) (side : Int) : Bytes (readL s side).2.flatten ∧ (readL s side).2.flatten.length = (readL s side).2.length * 48 := by
  have he := readL_each h side
  generalize (readL s side).2 = l at he
  refine ⟨fun b hb => ?_, ?_⟩
  · obtain ⟨c, hc, hb⟩ := List.mem_flatten.1 hb
    exact (he c hc).2 b hb
  · induction l with
    | nil => rfl
    | cons c r ih =>
      rw [List.flatten_cons, List.length_append, (he c (by simp)).1, ih (fun d hd => he d (by simp [hd])), List.length_cons]
      omega
theorem parse_le (n : Nat) : ∀ (k : Nat) (b : List Nat), Bytes b → b.length = n * 48 → (parse k b).2 ≤ n ∧ (parse k b).1.length ≤ n ∧ ∀ x ∈ (parse k b).1, Word x := by
  induction n using Nat.strongRecOn with
  | ind n ih =>
    intro k b hb hn
    rw [parse]
    split
    · exact ⟨Nat.zero_le _, Nat.zero_le _, fun x hx => by simp at hx⟩
    · rename_i h
      have h1 := frameAt_le hb hn k
      have h2 := frameAt_bytes k hb
      have hd : (b.drop ((frameAtL b k).2 * 48)).length = (n - (frameAtL b k).2) * 48 := by rw [List.length_drop]; omega
      obtain ⟨i1, i2, i3⟩ := ih (n - (frameAtL b k).2) (by omega) 2 _ (fun x hx => hb x (List.mem_of_mem_drop hx)) hd
      refine ⟨by simp only; omega, by simp only [List.length_cons]; omega, fun x hx => ?_⟩
      rcases List.mem_cons.1 hx with rfl | hx
      · exact ⟨h2.2, h2.1⟩
      · exact i3 x hx
theorem readL_room (s : List (List Nat)) (side : Int) : (readL s side).2.length ≤ s.length / 2 := by
  unfold readL
  split
  · rename_i hs
    have h1 : side.toNat ≤ 1 := by simp [isSideB] at hs; omega
    unfold readS
    split
    · simp
    · exact Nat.le_trans (runS_len _ _ 0) (by rw [sideL_len s h1]; exact Nat.le_refl _)
  · simp
theorem rowOf_le {s : List (List Nat)} (h : Cells s) (side : Int) : (rowOf s side).2.2 ≤ s.length / 2 ∧ (rowOf s side).2.1.length ≤ s.length / 2 ∧ ∀ x ∈ (rowOf s side).2.1, Word x := by
  obtain ⟨h1, h2⟩ := readL_flat h side
  obtain ⟨h3, h4, h5⟩ := parse_le _ 1 _ h1 h2
  have := readL_room s side
  exact ⟨Nat.le_trans h3 this, Nat.le_trans h4 this, h5⟩

end Go.Proofs.Ytipikkniookanaa
