/- The document's marks beside the program's; what the document reads on a side, in plain words. -/
import Derived.Test.YtipikkniookanaaMkMine
import Derived.Test.YtipikkniookanaaMkRef5
import Derived.Test.YtipikkniookanaaMgHold
namespace Go.Proofs.Ytipikkniookanaa

/- MkRel: The document's marks beside the program's. -/
section
set_option maxRecDepth 100000
open Go.RowKit

section
variable {w0 w : World} {A : World → (Nat → Prop) → Prop} {L : Nat → Prop} {g : Nat} {r : Rf}

theorem Pair.refMput (sA : Stays A) (h : Pair w0 w A (atRf g r) L) (side : Int) (round : Nat) (at_ : Int) (a : Option Addr) (cap : Nat) (l : List Nat) (hB : BytesP w a cap l) (hla : r.ats.length < 100000) (hlw : r.what.length < 100000) :
    Calls Try.prog 67 #[ptr g, .int .i64 side, .int .u64 (round : Int), .int .i64 at_, .slice a l.length cap] w (fun e w' => e = .returned (.int .i64 (r.mput side round at_ l).1) ∧ Pair w0 w' A (atRf g (r.mput side round at_ l).2) L ∧ ∀ k, L k → w'.heap[k]? = w.heap[k]?) :=
  h.second sA fun _ ⟨_, _, _, _, h1⟩ => refMput_any h1 side round at_ a cap l hB hla hlw
theorem Pair.refMread (h : Pair w0 w A (atRf g r) L) (side : Int) : Calls Try.prog 61 #[ptr g, .int .i64 side] w (RReadPost (readL r.seen side) w) := h.swap.read fun _ ⟨_, _, _, _, h1⟩ => refRead_any h1 side
theorem Pair.refMtop (h : Pair w0 w A (atRf g r) L) : Calls Try.prog 43 #[ptr g] w (NumB (topL r.seen) w) := h.swap.read fun _ ⟨_, _, _, _, h1⟩ => refTop_any h1
theorem Pair.refMroom (h : Pair w0 w A (atRf g r) L) : Calls Try.prog 45 #[ptr g] w (Same (.int .i64 ((r.seen.length / 2 : Nat) : Int)) w) := h.swap.read fun _ ⟨_, _, _, _, h1⟩ => refRoom_any h1
end

theorem Rel.mput {r : Rf} {P : Pl} (h : Rel r P) (hg : P.Good) (side : Int) (round : Nat) (at_ : Int) (l : List Nat) : (r.mput side round at_ l).1 = (P.mput side round at_ l).1 ∧ Rel (r.mput side round at_ l).2 (P.mput side round at_ l).2 := by
  have e : r.seen.length = P.sure.length := by rw [h.seen, hg.size]
  unfold Rf.mput Pl.mput
  rw [e]
  split
  · exact h.put hg _ _
  · exact ⟨rfl, h⟩
end

/- RnPlain: What the document's reel comes to, in plain words: what stands on a side, pieces that are put. -/
section
set_option maxRecDepth 100000

/-- The body of a frame of that kind at the beginning, and its cells, as the document reads it. -/
def frameAtR (b : List Nat) (k : Nat) : List Nat × Nat := if (openL b).2.2.2 = 0 ∧ (openL b).1 = k then ((openL b).2.1, ((openL b).2.2.1 + 47) / 48) else ([], 0)

/-- The bodies that stand on a side, as the document reads them. -/
def onR (k : Nat) (S : List (List Nat)) : List (List Nat) :=
  if _h : (frameAtR S.flatten k).2 = 0 ∨ S.length = 0 then [] else (frameAtR S.flatten k).1 :: onR 2 (S.drop (frameAtR S.flatten k).2)
termination_by S.length
decreasing_by simp; omega

theorem onR_none (k : Nat) : onR k [] = [] := by rw [onR, dif_pos (.inr rfl)]
theorem onR_zero {k : Nat} {S : List (List Nat)} (h : (frameAtR S.flatten k).2 = 0) : onR k S = [] := by rw [onR, dif_pos (.inl h)]

theorem frameAtR_frame (k : Nat) (t r : List Nat) (ht : t.length ≤ 65536) : frameAtR (((chunksL (frameL k t)).map pad).flatten ++ r) k = (t, cellsN t.length) := by
  have hc := frame_cells k ht
  have e : ((chunksL (frameL k t)).map pad).flatten ++ r = frameL k t ++ (List.replicate (cellsN t.length * 48 - (frameL k t).length) 0 ++ r) := by
    rw [chunks_pad, ← chunksL_len, hc, List.append_assoc]
  have ho := open_frame k t (List.replicate (cellsN t.length * 48 - (frameL k t).length) 0 ++ r) ht
  unfold frameAtR
  rw [e, ho, if_pos ⟨rfl, rfl⟩]
  rw [chunksL_len] at hc
  simp only [hc]
theorem frameAtR_part {k : Nat} {t : List Nat} (hk : k < 256) (ht : t.length ≤ 65536) (hb : Bytes t) {j : Nat} (hj : j < cellsN t.length) : frameAtR ((((chunksL (frameL k t)).take j).map pad).flatten) k = ([], 0) := by
  have hc := frame_cells k ht
  rw [chunksL_len] at hc
  have e : (((chunksL (frameL k t)).take j).map pad).flatten = (frameL k t).take (j * 48) := chop_take _ _ j (by omega) (by omega)
  unfold frameAtR
  rw [e, if_neg (fun h => open_part hk ht hb (by omega) h.1)]
theorem frameAtR_nil (k : Nat) : frameAtR [] k = ([], 0) := by
  have : openL [] = (0, [], 0, 61) := by decide
  simp [frameAtR, this]

/-- A beginning of pieces of words: the words that are wholly there. -/
theorem onR_part (ws : List (List Nat)) : ∀ (k : Nat) (_hk : k < 256) (t : List Nat) (j : Nat), Word t → (∀ x ∈ ws, Word x) → j ≤ (chunksL (frameL k t) ++ piecesW ws).length →
    onR k (((chunksL (frameL k t) ++ piecesW ws).take j).map pad) = (t :: ws).take (cntF (sizesT t ws) j) := by
  induction ws with
  | nil =>
    intro k hk t j ht _ hj
    simp only [piecesW, List.map_nil, List.flatten_nil, List.append_nil] at hj ⊢
    have hc := frame_cells k ht.1
    have hp := cellsN_pos ht.1
    simp only [sizesT, List.map_nil, cntF]
    by_cases h : cellsN t.length ≤ j
    · have hje : j = (chunksL (frameL k t)).length := by omega
      have hf := frameAtR_frame k t [] ht.1
      rw [List.append_nil] at hf
      rw [if_pos h, hje, List.take_length, onR, dif_neg (by rw [hf, List.length_map]; omega), hf]
      simp only
      rw [List.drop_eq_nil_of_le (by rw [List.length_map]; omega), onR_none]
      rfl
    · rw [if_neg h, onR_zero (by rw [frameAtR_part hk ht.1 ht.2 (by omega)])]
      rfl
  | cons y r ih =>
    intro k hk t j ht hw hj
    have hc := frame_cells k ht.1
    have hp := cellsN_pos ht.1
    simp only [sizesT, cntF]
    by_cases h : cellsN t.length ≤ j
    · have hf := frameAtR_frame k t (((piecesW (y :: r)).take (j - (chunksL (frameL k t)).length)).map pad).flatten ht.1
      rw [if_pos h, List.take_append, List.take_of_length_le (by omega), List.map_append]
      rw [onR, dif_neg (by rw [List.flatten_append, hf, List.length_append, List.length_map]; omega), List.flatten_append, hf]
      have e : piecesW (y :: r) = chunksL (frameL 2 y) ++ piecesW r := by simp [piecesW]
      rw [List.length_append, e] at hj
      have := ih 2 (by omega) y (j - cellsN t.length) (hw y (by simp)) (fun x hx => hw x (by simp [hx])) (by omega)
      simp only
      rw [List.drop_append_of_le_length (by rw [List.length_map]; omega), List.drop_eq_nil_of_le (by rw [List.length_map]; omega), List.nil_append, hc, e, this, Nat.add_comm 1, List.take_succ_cons]
      rfl
    · rw [if_neg h, List.take_append_of_le_length (by omega), onR_zero (by rw [frameAtR_part hk ht.1 ht.2 (by omega)])]
      rfl
theorem onR_hs {h : Hs} (o : h.Ok) {j : Nat} (hj : j ≤ h.m) : onR 1 ((h.pc.take j).map pad) = (h.t :: h.ws).take (cntF (sizesT h.t h.ws) j) := by
  unfold Hs.pc
  rw [List.take_take, Nat.min_eq_left hj]
  exact onR_part h.ws 1 (by omega) h.t j o.tale o.words (Nat.le_trans hj o.few)

/-- What the document reads on a side of such cells is what is read there. -/
theorem onR_legit {n : Nat} {H : Nat → Hs} {S : List (List Nat)} (hl : S.length = n) (hS : LgAll n H S) (ho : ∀ q, (H q).Ok) {s : Nat} (hs : s ≤ 1) :
    onR 1 (readL S (s : Int)).2 = (rowOf S (s : Int)).2.1 := by
  have hget : ∀ k, k < n / 2 → (sideL S s)[k]? = S[s * (n / 2) + k]? := fun k hk => by
    rw [sideL_get? S hs (by rw [hl]; exact hk), hl]
  have hlen : (sideL S s).length = n / 2 := by rw [sideL_len S hs, hl]
  have hread := readL_side S hs
  rcases read_legit (H := H) (s := s) (sideL S s) (fun i c hc => by
    have hi := (List.getElem?_eq_some_iff.1 hc).1
    rw [hlen] at hi
    rw [hget i hi] at hc
    exact hS s i c hs hi hc) with hz | ⟨r, j, h1, h2, h3, h4, h5, h6, h7, h8, h9⟩
  · unfold rowOf
    rw [hread, hz]
    simp only [List.flatten_nil]
    rw [parse_zero (by rw [frameAt_nil]), onR_none]
  · rw [(ho r).len] at h5
    unfold rowOf
    rw [hread, h7]
    simp only
    rw [onR_hs (ho r) h5, parse_hs (ho r) h5]
end

end Go.Proofs.Ytipikkniookanaa
