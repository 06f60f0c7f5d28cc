/- What was put for each round, and what cells tell of it, in plain words. -/
import Derived.Test.YtipikkniookanaaRlTear
namespace Go.Proofs.Ytipikkniookanaa
set_option maxRecDepth 100000

/-- What was put for a round: on which side, what tale, what words, how many pieces of them. -/
structure Hs where
  side : Nat
  t : List Nat
  ws : List (List Nat)
  m : Nat

def Hs.pc (h : Hs) : List (List Nat) := (piecesT h.t h.ws).take h.m
structure Hs.Ok (h : Hs) : Prop where
  tale : Word h.t
  words : ∀ x ∈ h.ws, Word x
  few : h.m ≤ (piecesT h.t h.ws).length

theorem Hs.Ok.len {h : Hs} (o : h.Ok) : h.pc.length = h.m := by unfold Hs.pc; rw [List.length_take, Nat.min_eq_left o.few]
theorem Hs.Ok.each {h : Hs} (o : h.Ok) : ∀ c ∈ h.pc, c.length ≤ 48 ∧ Bytes c := fun c hc => pieces_each o.tale o.words c (List.mem_of_mem_take hc)

/-- A number that may stand at the place k of the side s. -/
def NumOk (H : Nat → Hs) (s k v : Nat) : Prop := v = 0 ∨ v = k + 1 ∨ ∃ r, 1 ≤ r ∧ r ≤ 200 ∧ v = markN r k ∧ (H r).side = s ∧ k < (H r).m

/-- A cell that may lie at the place k of the side s. -/
structure Lg (H : Nat → Hs) (s k : Nat) (c : List Nat) : Prop where
  is : IsCell c
  b : NumOk H s k (numC c 0)
  e : NumOk H s k (numC c 56)
  own : ∀ r, 1 ≤ r → bearsC c (markN r k) = true → ∃ x, (H r).pc[k]? = some x ∧ innerC c = pad x

theorem NumOk.low {H : Nat → Hs} {s k v : Nat} (h : NumOk H s k v) : Low k v := by
  rcases h with h | h | ⟨r, _, h2, h3, _⟩
  · exact .inl h
  · exact .inr ⟨0, by omega, by omega⟩
  · exact .inr ⟨r, by omega, h3⟩
theorem NumOk.mix {H : Nat → Hs} {s k v R : Nat} (h : NumOk H s k v) (hR1 : 1 ≤ R) (hR : R ≤ 200) (hs : (H R).side = s) (hm : k < (H R).m) (n : Nat) : NumOk H s k (mixN k R n v) := by
  unfold mixN
  split
  · exact h
  · split
    · split
      · exact .inr (.inl rfl)
      · exact h
    · exact .inr (.inr ⟨R, hR1, hR, rfl, hs, hm⟩)

theorem Lg.zero (H : Nat → Hs) (s k : Nat) : Lg H s k zeroC := by
  have h0 : ∀ o, numC zeroC o = 0 := fun o => by
    unfold numC zeroC
    have : ∀ l : List Nat, (∀ x ∈ l, x = 0) → numLE l = 0 := fun l => by
      induction l with
      | nil => intro _; rfl
      | cons x r ih => intro h; simp only [numLE]; rw [ih (fun y hy => h y (by simp [hy])), h x (by simp)]
    exact this _ (fun x hx => (List.mem_replicate.1 (List.mem_of_mem_drop (List.mem_of_mem_take hx))).2)
  refine ⟨zeroC_is, .inl (h0 0), .inl (h0 56), fun r _ hb => ?_⟩
  simp only [bearsC, h0, Bool.and_eq_true, beq_iff_eq] at hb
  unfold markN at hb
  omega

/-- A piece that is put there, or in part. -/
theorem Lg.tear {H : Nat → Hs} {s k R : Nat} {x co : List Nat} (h : Lg H s k co) (hk : k < 200) (hR1 : 1 ≤ R) (hR : R ≤ 200) (hs : (H R).side = s) (ho : (H R).Ok) (hx : (H R).pc[k]? = some x) (hf : numC co 56 ≠ markN R k) (n : Nat) (hn : n ≤ 64) :
    Lg H s k (tear n (markedC (markN R k) x) co) := by
  have hkm : k < (H R).m := by rw [← ho.len]; exact (List.getElem?_eq_some_iff.1 hx).1
  have hxx := ho.each x (List.mem_of_getElem? hx)
  obtain ⟨e1, e2⟩ := tear_nums (show R < 256 by omega) (show k + 1 < 256 by omega) hxx.1 hxx.2 h.is h.b.low h.e.low n hn
  refine ⟨tear_is (markedC_is _ hxx.1 hxx.2) h.is, by rw [e1]; exact h.b.mix hR1 hR hs hkm n, by rw [e2]; exact h.e.mix hR1 hR hs hkm _, fun r hr hb => ?_⟩
  rcases tear_bears hR1 (by omega) (by omega) hxx.1 hxx.2 h.is h.b.low h.e.low hf n hn hr hb with ⟨b1, b2⟩ | ⟨rfl, b2⟩
  · obtain ⟨y, hy1, hy2⟩ := h.own r hr b1
    exact ⟨y, hy1, by rw [b2, hy2]⟩
  · exact ⟨x, hx, b2⟩

/-- More may be put for a round. -/
theorem Lg.mono {H H' : Nat → Hs} {s k : Nat} {c : List Nat} (h : Lg H s k c) (hn : ∀ r, 1 ≤ r → (numC c 0 = markN r k ∨ numC c 56 = markN r k) → (H' r).side = (H r).side ∧ (k < (H r).m → k < (H' r).m) ∧ ((H r).pc[k]? = none ∨ (H' r).pc[k]? = (H r).pc[k]?)) : Lg H' s k c := by
  have hno : ∀ v, (v = numC c 0 ∨ v = numC c 56) → NumOk H s k v → NumOk H' s k v := fun v hv hv2 => by
    rcases hv2 with h0 | h0 | ⟨r, h1, h2, h3, h4, h5⟩
    · exact .inl h0
    · exact .inr (.inl h0)
    · have := hn r h1 (hv.imp (fun e => e.symm.trans h3) (fun e => e.symm.trans h3))
      exact .inr (.inr ⟨r, h1, h2, h3, this.1.trans h4, this.2.1 h5⟩)
  refine ⟨h.is, hno _ (.inl rfl) h.b, hno _ (.inr rfl) h.e, fun r hr hb => ?_⟩
  obtain ⟨x, hx, hi⟩ := h.own r hr hb
  simp only [bearsC, Bool.and_eq_true, beq_iff_eq] at hb
  rcases (hn r hr (.inl hb.1)).2.2 with he | he
  · rw [hx] at he; cases he
  · exact ⟨x, by rw [he]; exact hx, hi⟩

/-- What is read of such cells: a beginning of what was put for a round. -/
theorem run_legit {H : Nat → Hs} {s r : Nat} (hr : 1 ≤ r) : ∀ (S : List (List Nat)) (k : Nat), (∀ i c, S[i]? = some c → Lg H s (k + i) c) → ∃ j, runS r k S = (((H r).pc.drop k).take j).map pad ∧ j ≤ ((H r).pc.drop k).length ∧ j ≤ S.length ∧ (∀ i c, i < j → S[i]? = some c → bearsC c (markN r (k + i)) = true) ∧ (∀ c, S[j]? = some c → bearsC c (markN r (k + j)) = false) := by
  intro S
  induction S with
  | nil => intro k _; exact ⟨0, by simp [runS], Nat.zero_le _, Nat.zero_le _, fun i c h => by omega, fun c h => by simp at h⟩
  | cons d T ih =>
    intro k hS
    cases hb : bearsC d (markN r k) with
    | false => exact ⟨0, by simp [runS, hb], Nat.zero_le _, Nat.zero_le _, fun i c h => by omega, fun c h => by simp at h; subst h; exact hb⟩
    | true =>
      obtain ⟨x, hx, hi⟩ := (hS 0 d rfl).own r hr (by rw [Nat.add_zero]; exact hb)
      rw [Nat.add_zero] at hx
      obtain ⟨j, h1, h2, h3, h4, h5⟩ := ih (k + 1) (fun i c hc => by
        have := hS (i + 1) c (by simpa using hc)
        rw [show k + (i + 1) = k + 1 + i by omega] at this
        exact this)
      have hlt := (List.getElem?_eq_some_iff.1 hx).1
      have hd : (H r).pc.drop k = x :: (H r).pc.drop (k + 1) := by
        rw [List.drop_eq_getElem_cons hlt]
        congr 1
        exact Option.some.inj ((List.getElem?_eq_getElem hlt).symm.trans hx)
      refine ⟨j + 1, ?_, by rw [hd, List.length_cons]; omega, by rw [List.length_cons]; omega, fun i c hi' hc => ?_, fun c hc => ?_⟩
      · simp only [runS, hb, if_true]
        rw [h1, hd, hi, List.take_succ_cons, List.map_cons]
      · cases i with
        | zero => simp at hc; subst hc; exact hb
        | succ i =>
          have := h4 i c (by omega) (by simpa using hc)
          rw [show k + 1 + i = k + (i + 1) by omega] at this
          exact this
      · have := h5 c (by simpa using hc)
        rw [show k + 1 + j = k + (j + 1) by omega] at this
        exact this

theorem read_legit {H : Nat → Hs} {s : Nat} (S : List (List Nat)) (hS : ∀ i c, S[i]? = some c → Lg H s i c) : readS S = (0, []) ∨ ∃ r j, 1 ≤ r ∧ r ≤ 200 ∧ (H r).side = s ∧ 1 ≤ j ∧ j ≤ (H r).pc.length ∧ j ≤ S.length ∧ readS S = (r, ((H r).pc.take j).map pad) ∧ (∀ i c, i < j → S[i]? = some c → bearsC c (markN r i) = true) ∧ (∀ c, S[j]? = some c → bearsC c (markN r j) = false) := by
  by_cases h0 : firstR S = 0
  · exact .inl (by unfold readS; rw [if_pos h0])
  · refine .inr ?_
    obtain ⟨j, h1, h2, h3, h4, h5⟩ := run_legit (H := H) (s := s) (r := firstR S) (by omega) S 0 (fun i c hc => by rw [Nat.zero_add]; exact hS i c hc)
    rw [List.drop_zero] at h1 h2
    cases S with
    | nil => exact absurd rfl h0
    | cons c T =>
      have hf : firstR (c :: T) = if isRoundB (numC c 0 / 65536) && bearsC c (markN (numC c 0 / 65536) 0) then numC c 0 / 65536 else 0 := rfl
      have hcond : (isRoundB (numC c 0 / 65536) && bearsC c (markN (numC c 0 / 65536) 0)) = true := by
        cases hh : (isRoundB (numC c 0 / 65536) && bearsC c (markN (numC c 0 / 65536) 0)) with
        | true => rfl
        | false => rw [hf, hh] at h0; exact absurd rfl h0
      rw [hcond, if_pos rfl] at hf
      have hb : bearsC c (markN (firstR (c :: T)) 0) = true := by rw [hf]; exact (Bool.and_eq_true _ _ ▸ hcond).2
      have hj : 1 ≤ j := by
        rcases Nat.eq_zero_or_pos j with hz | hz
        · subst hz
          have := h5 c rfl
          rw [Nat.add_zero, hb] at this
          cases this
        · exact hz
      have hL := hS 0 c rfl
      have hb0 : numC c 0 = markN (firstR (c :: T)) 0 := by
        simp only [bearsC, Bool.and_eq_true, beq_iff_eq] at hb
        exact hb.1
      have hmk : markN (firstR (c :: T)) 0 = firstR (c :: T) * 65536 + 0 + 1 := rfl
      rcases hL.b with hz | hz | ⟨r, k1, k2, k3, k4, k5⟩
      · omega
      · omega
      · have hrr : firstR (c :: T) = r := by
          have : markN r 0 = r * 65536 + 0 + 1 := rfl
          omega
        refine ⟨firstR (c :: T), j, by omega, by omega, by rw [hrr]; exact k4, hj, h2, h3, ?_, fun i d hi hd => ?_, fun d hd => ?_⟩
        · unfold readS
          rw [if_neg h0, h1]
        · have := h4 i d hi hd
          rwa [Nat.zero_add] at this
        · have := h5 d hd
          rwa [Nat.zero_add] at this

/-- How many frames of these sizes are within so many pieces. -/
def cntF : List Nat → Nat → Nat
  | [], _ => 0
  | c :: r, j => if c ≤ j then 1 + cntF r (j - c) else 0

theorem cntF_le (l : List Nat) : ∀ j, cntF l j ≤ l.length := by
  induction l with
  | nil => intro j; simp [cntF]
  | cons c r ih =>
    intro j
    simp only [cntF, List.length_cons]
    split
    · have := ih (j - c); omega
    · omega
theorem cntF_mono (l : List Nat) : ∀ i j, i ≤ j → cntF l i ≤ cntF l j := by
  induction l with
  | nil => intro i j _; simp [cntF]
  | cons c r ih =>
    intro i j hij
    simp only [cntF]
    split
    · rw [if_pos (by omega)]
      have := ih (i - c) (j - c) (by omega)
      omega
    · omega
theorem cntF_all (l : List Nat) : ∀ j, l.sum ≤ j → cntF l j = l.length := by
  induction l with
  | nil => intro j _; rfl
  | cons c r ih =>
    intro j hj
    rw [List.sum_cons] at hj
    simp only [cntF, List.length_cons]
    rw [if_pos (by omega), ih _ (by omega)]
    omega
/-- A size behind that is not all there does not matter. -/
theorem cntF_snoc (l : List Nat) (c : Nat) : ∀ j, j < l.sum + c → cntF (l ++ [c]) j = cntF l j := by
  induction l with
  | nil =>
    intro j h
    simp only [List.sum_nil, Nat.zero_add] at h
    simp only [List.nil_append, cntF]
    rw [if_neg (by omega)]
  | cons a r ih =>
    intro j h
    rw [List.sum_cons] at h
    simp only [List.cons_append, cntF]
    split
    · rw [ih (j - a) (by omega)]
    · rfl

def sizesT (t : List Nat) (ws : List (List Nat)) : List Nat := cellsN t.length :: ws.map fun x => cellsN x.length

/-- A beginning of pieces of words: the words that are wholly there. -/
theorem parse_part (ws : List (List Nat)) : ∀ (k : Nat) (_hk : k < 256) (t : List Nat) (j : Nat), Word t → (∀ x ∈ ws, Word x) → j ≤ (chunksL (frameL k t) ++ piecesW ws).length →
    (parse k ((((chunksL (frameL k t) ++ piecesW ws).take j).map pad).flatten)).1 = (t :: ws).take (cntF (sizesT t ws) j) := by
  induction ws with
  | nil =>
    intro k hk t j ht _ hj
    simp only [piecesW, List.map_nil, List.flatten_nil, List.append_nil] at hj ⊢
    have hc := frame_cells k ht.1
    simp only [sizesT, List.map_nil, cntF]
    by_cases h : cellsN t.length ≤ j
    · have hje : j = (chunksL (frameL k t)).length := by omega
      rw [if_pos h, hje, List.take_length]
      have := parse_cons (k := k) (r := []) ht.1
      rw [List.append_nil] at this
      rw [this, parse_zero (by rw [frameAt_nil])]
      rfl
    · rw [if_neg h, parse_zero (by rw [frameAt_part hk ht.1 ht.2 (by omega)])]
      rfl
  | cons y r ih =>
    intro k hk t j ht hw hj
    have hc := frame_cells k ht.1
    simp only [sizesT, cntF]
    by_cases h : cellsN t.length ≤ j
    · rw [if_pos h, List.take_append, List.take_of_length_le (by omega), List.map_append, List.flatten_append, parse_cons ht.1, hc]
      have e : piecesW (y :: r) = chunksL (frameL 2 y) ++ piecesW r := by simp [piecesW]
      rw [List.length_append, e] at hj
      have := ih 2 (by omega) y (j - cellsN t.length) (hw y (by simp)) (fun x hx => hw x (by simp [hx])) (by omega)
      rw [e]
      simp only
      rw [this, Nat.add_comm 1, List.take_succ_cons]
      rfl
    · rw [if_neg h, List.take_append_of_le_length (by omega), parse_zero (by rw [frameAt_part hk ht.1 ht.2 (by omega)])]
      rfl

theorem parse_hs {h : Hs} (o : h.Ok) {j : Nat} (hj : j ≤ h.m) : (parse 1 (((h.pc.take j).map pad).flatten)).1 = (h.t :: h.ws).take (cntF (sizesT h.t h.ws) j) := by
  unfold Hs.pc
  rw [List.take_take, Nat.min_eq_left hj]
  exact parse_part h.ws 1 (by omega) h.t j o.tale o.words (Nat.le_trans hj o.few)

end Go.Proofs.Ytipikkniookanaa
