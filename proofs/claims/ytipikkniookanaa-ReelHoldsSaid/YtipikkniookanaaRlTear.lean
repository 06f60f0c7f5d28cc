/- Cells that bear a mark and are torn, in plain words. -/
import Derived.Test.YtipikkniookanaaRlRdy
namespace Go.Proofs.Ytipikkniookanaa
set_option maxRecDepth 100000

theorem leL_numLE {l : List Nat} (h : Bytes l) : leL l.length (numLE l) = l := by
  induction l with
  | nil => rfl
  | cons b r ih =>
    have hb := h b (by simp)
    have hr := ih (fun x hx => h x (by simp [hx]))
    simp only [List.length_cons, leL, numLE]
    rw [show (b + 256 * numLE r) % 256 = b by omega, show (b + 256 * numLE r) / 256 = numLE r by omega, hr]

theorem cell_head {c : List Nat} (h : IsCell c) : c.take 8 = leL 8 (numC c 0) := by
  have hl : (c.take 8).length = 8 := by rw [List.length_take, h.len]; rfl
  have hb : Bytes (c.take 8) := fun b hb => h.byte b (List.mem_of_mem_take hb)
  have := leL_numLE hb
  rw [hl] at this
  unfold numC
  rw [List.drop_zero]
  exact this.symm
theorem cell_tail {c : List Nat} (h : IsCell c) : c.drop 56 = leL 8 (numC c 56) := by
  have hl : (c.drop 56).length = 8 := by rw [List.length_drop, h.len]
  have hb : Bytes (c.drop 56) := fun b hb => h.byte b (List.mem_of_mem_drop hb)
  have := leL_numLE hb
  rw [hl] at this
  unfold numC
  rw [List.take_of_length_le (by omega)]
  exact this.symm

theorem tear_head {c s : List Nat} (hc : c.length = 64) (n : Nat) : (tear n c s).take 8 = (c.take 8).take n ++ (s.take 8).drop n := by
  unfold tear
  by_cases h : n ≤ 8
  · rw [List.take_append, List.take_take, List.take_take, List.length_take, hc, Nat.min_eq_right h, Nat.min_eq_left (show n ≤ 64 by omega), Nat.min_eq_left h, List.drop_take]
  · rw [List.take_append, List.take_take, List.take_take, List.length_take, hc, Nat.min_eq_left (show 8 ≤ n by omega), Nat.min_eq_right (show 8 ≤ n by omega), show 8 - min n 64 = 0 by omega, List.take_zero, List.drop_eq_nil_of_le (by rw [List.length_take]; omega)]
theorem tear_tail {c s : List Nat} (hc : c.length = 64) (n : Nat) (hn : n ≤ 64) : (tear n c s).drop 56 = (c.drop 56).take (n - 56) ++ (s.drop 56).drop (n - 56) := by
  unfold tear
  rw [List.drop_append, List.length_take, hc, Nat.min_eq_left hn, List.drop_take, List.drop_drop, List.drop_drop]
  congr 2
  omega
theorem tear_inner_old {c s : List Nat} (hc : c.length = 64) {n : Nat} (hn : n ≤ 8) : innerC (tear n c s) = innerC s := by
  unfold innerC tear
  rw [List.drop_append, List.length_take, hc, Nat.min_eq_left (by omega), List.drop_eq_nil_of_le (by rw [List.length_take]; omega), List.nil_append, List.drop_drop, show n + (8 - n) = 8 by omega]
theorem tear_inner_new {c s : List Nat} (hc : c.length = 64) {n : Nat} (hn : 56 ≤ n) : innerC (tear n c s) = innerC c := by
  unfold innerC tear
  rw [List.drop_append, List.length_take, hc, List.drop_take, List.take_append, List.take_take, List.length_take, List.length_drop, hc, show min 48 (n - 8) = 48 by omega, show 48 - min (n - 8) (64 - 8) = 0 by omega, List.take_zero, List.append_nil]

/-- The bytes of a number of a place: two that tell the place, and the round. -/
theorem mark_bytes {r k : Nat} (hr : r < 256) (hk : k + 1 < 256) : leL 8 (r * 65536 + k + 1) = [k + 1, 0, r, 0, 0, 0, 0, 0] := by
  simp only [leL]
  rw [show (r * 65536 + k + 1) % 256 = k + 1 by omega, show (r * 65536 + k + 1) / 256 = r * 256 by omega, show r * 256 % 256 = 0 by omega, show r * 256 / 256 = r by omega, show r % 256 = r by omega, show r / 256 = 0 by omega]
theorem zero_bytes : leL 8 0 = [0, 0, 0, 0, 0, 0, 0, 0] := rfl
theorem num_of_bytes (x r : Nat) : numLE [x, 0, r, 0, 0, 0, 0, 0] = r * 65536 + x := by
  simp only [numLE]
  omega
theorem mix_bytes (k x r R n : Nat) : [k + 1, 0, R, 0, 0, 0, 0, 0].take n ++ [x, 0, r, 0, 0, 0, 0, 0].drop n = if n = 0 then [x, 0, r, 0, 0, 0, 0, 0] else if n ≤ 2 then [k + 1, 0, r, 0, 0, 0, 0, 0] else [k + 1, 0, R, 0, 0, 0, 0, 0] := by
  match n with
  | 0 => rfl
  | 1 => rfl
  | 2 => rfl
  | 3 => rfl
  | 4 => rfl
  | 5 => rfl
  | 6 => rfl
  | 7 => rfl
  | n + 8 =>
    rw [if_neg (by omega), if_neg (by omega), List.take_of_length_le (by simp), List.drop_eq_nil_of_le (by simp), List.append_nil]

/-- A number that may stand at a place: nothing, no round's, or a round's. -/
def Low (k v : Nat) : Prop := v = 0 ∨ ∃ r, r < 256 ∧ v = r * 65536 + k + 1

/-- What a number comes to that is laid over another one in part. -/
def mixN (k R n v : Nat) : Nat := if n = 0 then v else if n ≤ 2 then (if v = 0 then k + 1 else v) else R * 65536 + k + 1

theorem mix_num {k R v : Nat} (hR : R < 256) (hk : k + 1 < 256) (hv : Low k v) (n : Nat) : numLE ((leL 8 (R * 65536 + k + 1)).take n ++ (leL 8 v).drop n) = mixN k R n v := by
  rw [mark_bytes hR hk]
  unfold mixN
  rcases hv with rfl | ⟨r, hr, rfl⟩
  · rw [zero_bytes, mix_bytes]
    split
    · rw [num_of_bytes]
    · split
      · rw [num_of_bytes, if_pos rfl]; omega
      · rw [num_of_bytes]; omega
  · rw [mark_bytes hr hk, mix_bytes]
    split
    · rw [num_of_bytes]; omega
    · split
      · rw [num_of_bytes, if_neg (by omega)]; omega
      · rw [num_of_bytes]; omega

theorem tear_nums {k R : Nat} {x co : List Nat} (hR : R < 256) (hk : k + 1 < 256) (hx : x.length ≤ 48) (hxb : Bytes x) (hco : IsCell co) (h0 : Low k (numC co 0)) (h56 : Low k (numC co 56)) (n : Nat) (hn : n ≤ 64) :
    numC (tear n (markedC (markN R k) x) co) 0 = mixN k R n (numC co 0) ∧ numC (tear n (markedC (markN R k) x) co) 56 = mixN k R (n - 56) (numC co 56) := by
  have hc := markedC_is (markN R k) hx hxb
  obtain ⟨n1, n2⟩ := numC_marked (show markN R k < 18446744073709551616 by unfold markN; omega) hx
  have hm : markN R k = R * 65536 + k + 1 := rfl
  refine ⟨?_, ?_⟩
  · rw [← mix_num hR hk h0 n, ← hm]
    conv => lhs; unfold numC; rw [List.drop_zero, tear_head hc.len, cell_head hc, n1, cell_head hco]
  · rw [← mix_num hR hk h56 (n - 56), ← hm]
    have hl : ((tear n (markedC (markN R k) x) co).drop 56).length ≤ 8 := by rw [List.length_drop, (tear_is hc hco).len]; omega
    conv => lhs; unfold numC; rw [List.take_of_length_le hl, tear_tail hc.len n hn, cell_tail hc, n2, cell_tail hco]

/-- A torn cell bears what the old one bore, with what it had; or what the new one bears, with what that has. -/
theorem tear_bears {k R : Nat} {x co : List Nat} (hR1 : 1 ≤ R) (hR : R < 256) (hk : k + 1 < 256) (hx : x.length ≤ 48) (hxb : Bytes x) (hco : IsCell co) (h0 : Low k (numC co 0)) (h56 : Low k (numC co 56)) (hf : numC co 56 ≠ markN R k) (n : Nat) (hn : n ≤ 64)
    {r : Nat} (hr : 1 ≤ r) (hb : bearsC (tear n (markedC (markN R k) x) co) (markN r k) = true) :
    (bearsC co (markN r k) = true ∧ innerC (tear n (markedC (markN R k) x) co) = innerC co) ∨ (r = R ∧ innerC (tear n (markedC (markN R k) x) co) = pad x) := by
  obtain ⟨e1, e2⟩ := tear_nums hR hk hx hxb hco h0 h56 n hn
  have hc := markedC_is (markN R k) hx hxb
  simp only [bearsC, Bool.and_eq_true, beq_iff_eq] at hb ⊢
  rw [e1, e2] at hb
  obtain ⟨b1, b2⟩ := hb
  unfold mixN at b1 b2
  unfold markN at b1 b2 hf ⊢
  by_cases h3 : n ≤ 2
  · rw [if_pos (by omega)] at b2
    refine .inl ⟨⟨?_, b2⟩, tear_inner_old hc.len (by omega)⟩
    by_cases hz : n = 0
    · rw [if_pos hz] at b1; exact b1
    · rw [if_neg hz, if_pos h3] at b1
      split at b1
      · omega
      · exact b1
  · rw [if_neg (by omega), if_neg h3] at b1
    have hrR : r = R := by omega
    subst hrR
    by_cases h4 : n ≤ 58
    · by_cases h5 : n ≤ 56
      · rw [if_pos (by omega)] at b2
        exact absurd b2 hf
      · rw [if_neg (by omega), if_pos (by omega)] at b2
        split at b2
        · omega
        · exact absurd b2 hf
    · refine .inr ⟨rfl, ?_⟩
      have := tear_inner_new (c := markedC (markN r k) x) (s := co) hc.len (show 56 ≤ n by omega)
      unfold markN at this
      rw [this]
      exact innerC_marked _ hx

end Go.Proofs.Ytipikkniookanaa
