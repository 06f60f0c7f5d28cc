/- What becomes of a reel: pieces that are put, cells that are torn, what may lie on a plate, what was sure is there; in plain words. -/
import Derived.Test.YtipikkniookanaaRlPut
namespace Go.Proofs.Ytipikkniookanaa

/- RlRdy: What becomes of a reel, in plain words: pieces that are put, what is read of them, a reel that is ready. -/
section
set_option maxRecDepth 100000

/-- Pieces as cells, from a place on. -/
def mkL (base rd : Nat) : Nat → List (List Nat) → List (Nat × List Nat)
  | _, [] => []
  | at_, c :: r => (base + at_, markedC (markN rd at_) c) :: mkL base rd (at_ + 1) r

theorem mkL_len (base rd : Nat) (cs : List (List Nat)) : ∀ at_, (mkL base rd at_ cs).length = cs.length := by
  induction cs with
  | nil => intro at_; rfl
  | cons c r ih => intro at_; simp [mkL, ih]
theorem mkL_get (base rd : Nat) (cs : List (List Nat)) : ∀ at_ (i : Nat) (c : List Nat), cs[i]? = some c → (mkL base rd at_ cs)[i]? = some (base + at_ + i, markedC (markN rd (at_ + i)) c) := by
  induction cs with
  | nil => intro at_ i c h; simp at h
  | cons d r ih =>
    intro at_ i c h
    cases i with
    | zero => simp at h; subst h; rfl
    | succ i =>
      simp only [List.getElem?_cons_succ] at h
      simp only [mkL, List.getElem?_cons_succ]
      rw [ih (at_ + 1) i c h, show base + (at_ + 1) + i = base + at_ + (i + 1) by omega, show at_ + 1 + i = at_ + (i + 1) by omega]
theorem mkL_app (base rd : Nat) (xs ys : List (List Nat)) : ∀ at_, mkL base rd at_ (xs ++ ys) = mkL base rd at_ xs ++ mkL base rd (at_ + xs.length) ys := by
  induction xs with
  | nil => intro at_; rfl
  | cons c r ih =>
    intro at_
    simp only [List.cons_append, mkL, ih, List.length_cons]
    rw [show at_ + 1 + r.length = at_ + (r.length + 1) by omega]

/-- What lies where pieces were laid. -/
theorem lay_other (l : List (Nat × List Nat)) : ∀ (s : List (List Nat)) (i : Nat), (∀ x ∈ l, x.1 ≠ i) → (layAll s l)[i]? = s[i]? := by
  induction l with
  | nil => intro s i _; rfl
  | cons x r ih =>
    intro s i h
    obtain ⟨j, c⟩ := x
    simp only [layAll]
    rw [ih _ i (fun y hy => h y (by simp [hy])), List.getElem?_set_ne (h (j, c) (by simp))]
theorem mkL_bounds (base rd : Nat) (cs : List (List Nat)) : ∀ at_, ∀ x ∈ mkL base rd at_ cs, base + at_ ≤ x.1 ∧ x.1 < base + at_ + cs.length := by
  induction cs with
  | nil => intro at_ x hx; simp [mkL] at hx
  | cons c r ih =>
    intro at_ x hx
    simp only [mkL, List.mem_cons] at hx
    rcases hx with rfl | hx
    · simp
    · have := ih (at_ + 1) x hx
      simp only [List.length_cons]
      omega
theorem lay_mkL (base rd : Nat) (cs : List (List Nat)) : ∀ (at_ : Nat) (s : List (List Nat)) (i : Nat) (c : List Nat), base + at_ + cs.length ≤ s.length → cs[i]? = some c → (layAll s (mkL base rd at_ cs))[base + at_ + i]? = some (markedC (markN rd (at_ + i)) c) := by
  induction cs with
  | nil => intro at_ s i c _ h; simp at h
  | cons d r ih =>
    intro at_ s i c hs h
    simp only [List.length_cons] at hs
    simp only [mkL, layAll]
    cases i with
    | zero =>
      simp at h
      subst h
      rw [lay_other _ _ _ (fun x hx => by have := mkL_bounds base rd r (at_ + 1) x hx; omega), Nat.add_zero, List.getElem?_set_self (by omega), Nat.add_zero]
    | succ i =>
      simp only [List.getElem?_cons_succ] at h
      have := ih (at_ + 1) (s.set (base + at_) (markedC (markN rd at_) d)) i c (by rw [List.length_set]; omega) h
      rw [show base + (at_ + 1) + i = base + at_ + (i + 1) by omega, show at_ + 1 + i = at_ + (i + 1) by omega] at this
      exact this

theorem mput_ok {P : Pl} {side rd at_ : Nat} {c : List Nat} (hs : side ≤ 1) (h1 : 1 ≤ rd) (h2 : rd ≤ 1099511627776) (ha : at_ < P.sure.length / 2) (hc : c.length ≤ 48) :
    P.mput (side : Int) rd (at_ : Int) c = if P.spend.1 == 0 then (0, { P.spend.2 with last := P.last.set (side * (P.sure.length / 2) + at_) (markedC (markN rd at_) c), loose := P.loose ++ [(side * (P.sure.length / 2) + at_, markedC (markN rd at_) c)] }) else (72, P.spend.2) := by
  have hin : side * (P.sure.length / 2) + at_ < P.sure.length := by
    rcases Nat.le_one_iff_eq_zero_or_eq_one.1 hs with rfl | rfl <;> omega
  unfold Pl.mput
  rw [if_pos (by simp only [okPut, isSideB, isRoundB, Bool.and_eq_true, decide_eq_true_eq]; omega)]
  simp only [Int.toNat_natCast]
  unfold Pl.put
  rw [if_pos (by simp only [Pl.has, Bool.and_eq_true, decide_eq_true_eq]; exact ⟨Int.natCast_nonneg _, Int.ofNat_lt.2 hin⟩)]
  simp only [Int.toNat_natCast]

theorem Pl.spend_kept (P : Pl) : P.spend.2.sure = P.sure ∧ P.spend.2.last = P.last ∧ P.spend.2.loose = P.loose := by
  rcases P.spend_cases with ⟨_, _, _, e⟩ | ⟨_, e⟩ <;> rw [e] <;> exact ⟨rfl, rfl, rfl⟩

/-- Pieces are put: a beginning of them, if there is no power for more. -/
theorem putC_runs (side rd : Nat) (hs : side ≤ 1) (h1 : 1 ≤ rd) (h2 : rd ≤ 1099511627776) (cs : List (List Nat)) : ∀ (P : Pl) (at_ : Nat), at_ + cs.length ≤ P.sure.length / 2 → (∀ c ∈ cs, c.length ≤ 48) →
    ∃ j l' o', j ≤ cs.length ∧ (P.putC (side : Int) rd at_ cs).2 = ⟨P.sure, layAll P.last (mkL (side * (P.sure.length / 2)) rd at_ (cs.take j)), P.loose ++ mkL (side * (P.sure.length / 2)) rd at_ (cs.take j), l', o'⟩ ∧
      (((P.putC (side : Int) rd at_ cs).1 = 0 ∧ j = cs.length ∧ o' = P.off ∧ (cs ≠ [] → P.off = false)) ∨ ((P.putC (side : Int) rd at_ cs).1 = 72 ∧ o' = true ∧ (P.off = true → j = 0))) ∧ (P.off = false → P.left = -1 → (P.putC (side : Int) rd at_ cs).1 = 0 ∧ l' = -1) := by
  induction cs with
  | nil =>
    intro P at_ _ _
    exact ⟨0, P.left, P.off, Nat.le_refl _, by simp [Pl.putC, mkL, layAll], .inl ⟨rfl, rfl, rfl, fun h => absurd rfl h⟩, fun _ h => ⟨rfl, h⟩⟩
  | cons c r ih =>
    intro P at_ ha hc
    simp only [List.length_cons] at ha
    have hm := mput_ok hs h1 h2 (show at_ < P.sure.length / 2 by omega) (hc c (by simp))
    obtain ⟨k1, k2, k3⟩ := P.spend_kept
    rcases P.spend_cases with ⟨e1, eo, el, e2⟩ | ⟨e1, e2⟩
    · rw [e1, if_pos (by decide)] at hm
      have hz : (P.mput (side : Int) rd (at_ : Int) c).1 = 0 := by rw [hm]
      obtain ⟨j, l', o', hj, h3, h4, h5⟩ := ih (P.mput (side : Int) rd (at_ : Int) c).2 (at_ + 1) (by rw [hm]; simp only [k1]; omega) (fun d hd => hc d (by simp [hd]))
      have hP : (P.putC (side : Int) rd at_ (c :: r)) = (P.mput (side : Int) rd (at_ : Int) c).2.putC (side : Int) rd (at_ + 1) r := by
        simp only [Pl.putC]
        rw [if_pos (by rw [hz]; decide)]
      rw [hP]
      have s1 : (P.mput (side : Int) rd (at_ : Int) c).2.sure = P.sure := by rw [hm]; exact k1
      have s2 : (P.mput (side : Int) rd (at_ : Int) c).2.last = P.last.set (side * (P.sure.length / 2) + at_) (markedC (markN rd at_) c) := by rw [hm]
      have s3 : (P.mput (side : Int) rd (at_ : Int) c).2.loose = P.loose ++ [(side * (P.sure.length / 2) + at_, markedC (markN rd at_) c)] := by rw [hm]
      have s4 : (P.mput (side : Int) rd (at_ : Int) c).2.off = P.off := by rw [hm]; simp only [e2]
      have s5 : P.left = -1 → (P.mput (side : Int) rd (at_ : Int) c).2.left = -1 := fun h => by rw [hm]; simp only [e2]; rw [if_neg (by omega)]; exact h
      refine ⟨j + 1, l', o', by simp only [List.length_cons]; omega, ?_, ?_, fun ho hl => h5 (s4.trans ho) (s5 hl)⟩
      · rw [h3, s1, s2, s3]
        simp only [List.take_succ_cons, mkL, layAll, List.append_assoc, List.singleton_append]
      · rcases h4 with ⟨a1, a2, a3, _⟩ | ⟨a1, a2, a3⟩
        · exact .inl ⟨a1, by simp only [List.length_cons]; omega, a3.trans s4, fun _ => eo⟩
        · exact .inr ⟨a1, a2, fun h => by rw [eo] at h; cases h⟩
    · rw [e1, if_neg (by decide)] at hm
      have hP : (P.putC (side : Int) rd at_ (c :: r)) = (72, P.spend.2) := by
        simp only [Pl.putC]
        rw [if_neg (by rw [hm]; simp), hm]
      rw [hP]
      refine ⟨0, P.left, true, Nat.zero_le _, ?_, .inr ⟨rfl, rfl, fun _ => rfl⟩, fun ho hl => ?_⟩
      · rw [e2]
        simp [mkL, layAll]
      · exfalso
        have : P.spend.1 = 0 := by
          unfold Pl.spend
          rw [ho, if_neg (by rw [hl]; decide)]
        rw [e1] at this
        cases this

/-- What is read of pieces that lie there. -/
theorem runS_exact (r : Nat) : ∀ (S cs : List (List Nat)) (k : Nat), (∀ i c, cs[i]? = some c → S[i]? = some (markedC (markN r (k + i)) c)) → (∀ c, S[cs.length]? = some c → bearsC c (markN r (k + cs.length)) = false) → (∀ c ∈ cs, c.length ≤ 48) → r ≤ 1099511627776 → k + S.length ≤ 5000 → cs.length ≤ S.length → runS r k S = cs.map pad := by
  intro S
  induction S with
  | nil =>
    intro cs k _ _ _ _ _ hl
    have : cs = [] := List.eq_nil_of_length_eq_zero (by simpa using hl)
    subst this
    rfl
  | cons d T ih =>
    intro cs k h1 h2 h3 hr hk hl
    simp only [List.length_cons] at hk hl
    cases cs with
    | nil =>
      have := h2 d rfl
      simp only [List.length_nil, Nat.add_zero] at this
      simp [runS, this]
    | cons c rest =>
      have h0 := h1 0 c rfl
      simp only [List.getElem?_cons_zero, Nat.add_zero, Option.some.injEq] at h0
      subst h0
      have hc := h3 c (by simp)
      obtain ⟨n1, n2⟩ := numC_marked (show markN r k < 18446744073709551616 by unfold markN; omega) hc
      have hb : bearsC (markedC (markN r k) c) (markN r k) = true := by simp [bearsC, n1, n2]
      have hrest := ih rest (k + 1) (fun i x hx => by
        have := h1 (i + 1) x (by simpa using hx)
        rw [List.getElem?_cons_succ] at this
        rw [this, show k + (i + 1) = k + 1 + i by omega]) (fun x hx => by
        have := h2 x (by simpa using hx)
        rw [List.length_cons, show k + (rest.length + 1) = k + 1 + rest.length by omega] at this
        exact this) (fun x hx => h3 x (by simp [hx])) hr (by omega) (by simpa using hl)
      simp only [runS, hb, if_true, List.map_cons]
      rw [hrest, innerC_marked _ hc]
      rfl

theorem readS_exact {r : Nat} {S cs : List (List Nat)} (h1 : ∀ i c, cs[i]? = some c → S[i]? = some (markedC (markN r i) c)) (h2 : ∀ c, S[cs.length]? = some c → bearsC c (markN r cs.length) = false) (h3 : ∀ c ∈ cs, c.length ≤ 48) (hr1 : 1 ≤ r) (hr : r ≤ 1099511627776) (hk : S.length ≤ 5000) (hl : cs.length ≤ S.length) (hne : cs ≠ []) : readS S = (r, cs.map pad) := by
  have hrun := runS_exact r S cs 0 (fun i c h => by rw [Nat.zero_add]; exact h1 i c h) (fun c h => by rw [Nat.zero_add]; exact h2 c h) h3 hr (by omega) hl
  cases cs with
  | nil => exact absurd rfl hne
  | cons c rest =>
    have h0 := h1 0 c rfl
    cases S with
    | nil => simp at h0
    | cons d T =>
      simp only [List.getElem?_cons_zero, Option.some.injEq] at h0
      subst h0
      obtain ⟨n1, n2⟩ := numC_marked (show markN r 0 < 18446744073709551616 by unfold markN; omega) (h3 c (by simp))
      have hd : numC (markedC (markN r 0) c) 0 / 65536 = r := by rw [n1]; unfold markN; omega
      have hf : firstR (markedC (markN r 0) c :: T) = r := by
        show (if isRoundB (numC (markedC (markN r 0) c) 0 / 65536) && bearsC (markedC (markN r 0) c) (markN (numC (markedC (markN r 0) c) 0 / 65536) 0) then numC (markedC (markN r 0) c) 0 / 65536 else 0) = r
        rw [hd, if_pos (by simp only [isRoundB, bearsC, n1, n2, Bool.and_eq_true, decide_eq_true_eq, beq_self_eq_true]; exact ⟨⟨hr1, hr⟩, trivial, trivial⟩)]
      unfold readS
      rw [hf, if_neg (by omega), hrun]

theorem topM_ge {s : List (List Nat)} {c : List Nat} (h : c ∈ s) : numC c 0 ≤ topM s ∧ numC c 56 ≤ topM s := by
  induction s with
  | nil => simp at h
  | cons d t ih =>
    simp only [topM]
    rcases List.mem_cons.1 h with rfl | h
    · omega
    · have := ih h
      omega
theorem topM_le {s : List (List Nat)} {B : Nat} (h : ∀ c ∈ s, numC c 0 ≤ B ∧ numC c 56 ≤ B) : topM s ≤ B := by
  induction s with
  | nil => simp [topM]
  | cons d t ih =>
    have h1 := h d (by simp)
    have h2 := ih (fun c hc => h c (by simp [hc]))
    simp only [topM]
    omega
theorem mem_lay (l : List (Nat × List Nat)) : ∀ (s : List (List Nat)) (c : List Nat), c ∈ layAll s l → c ∈ s ∨ ∃ x ∈ l, x.2 = c := by
  induction l with
  | nil => intro s c h; exact .inl h
  | cons x r ih =>
    intro s c h
    obtain ⟨j, d⟩ := x
    rcases ih _ c h with h | ⟨y, hy, e⟩
    · rcases List.mem_or_eq_of_mem_set h with h | rfl
      · exact .inl h
      · exact .inr ⟨_, List.mem_cons_self .., rfl⟩
    · exact .inr ⟨y, List.mem_cons_of_mem _ hy, e⟩
theorem mkL_nums {base rd : Nat} {cs : List (List Nat)} {at_ : Nat} (hr : rd ≤ 1099511627776) (ha : at_ + cs.length ≤ 5000) (hc : ∀ c ∈ cs, c.length ≤ 48) : ∀ x ∈ mkL base rd at_ cs, numC x.2 0 / 65536 = rd ∧ numC x.2 56 / 65536 = rd := by
  intro x hx
  obtain ⟨i, hi⟩ := List.mem_iff_getElem?.1 hx
  have hlt := (List.getElem?_eq_some_iff.1 hi).1
  rw [mkL_len] at hlt
  have := mkL_get base rd cs at_ i _ (List.getElem?_eq_getElem hlt)
  rw [hi] at this
  injection this with this
  subst this
  obtain ⟨n1, n2⟩ := numC_marked (show markN rd (at_ + i) < 18446744073709551616 by unfold markN; omega) (hc _ (List.getElem_mem hlt))
  simp only [n1, n2]
  unfold markN
  omega
theorem top_lay {s : List (List Nat)} {base rd at_ : Nat} {cs : List (List Nat)} (hs : topL s ≤ rd) (hr : rd ≤ 1099511627776) (ha : at_ + cs.length ≤ 5000) (hc : ∀ c ∈ cs, c.length ≤ 48) : topL (layAll s (mkL base rd at_ cs)) ≤ rd := by
  have h1 : topM s ≤ rd * 65536 + 65535 := by unfold topL at hs; omega
  have : topM (layAll s (mkL base rd at_ cs)) ≤ rd * 65536 + 65535 := topM_le (fun c hcm => by
    rcases mem_lay _ s c hcm with h | ⟨x, hx, rfl⟩
    · have := topM_ge h
      omega
    · have := mkL_nums hr ha hc x hx
      omega)
  unfold topL
  omega
/-- No round of a side is above the top. -/
theorem firstR_top (S : List (List Nat)) (s : List (List Nat)) (h : ∀ c ∈ S, c ∈ s) : firstR S ≤ topL s := by
  cases S with
  | nil => simp [firstR]
  | cons c t =>
    show (if isRoundB (numC c 0 / 65536) && bearsC c (markN (numC c 0 / 65536) 0) then numC c 0 / 65536 else 0) ≤ _
    have := (topM_ge (h c (by simp))).1
    unfold topL
    split
    · exact Nat.div_le_div_right this
    · omega
theorem readL_top (s : List (List Nat)) (side : Int) : (readL s side).1 ≤ topL s := by
  unfold readL
  split
  · unfold readS
    split
    · simp
    · exact firstR_top _ s (fun c hc => List.mem_of_mem_drop (List.mem_of_mem_take hc))
  · simp

theorem sideL_get? (s : List (List Nat)) {side k : Nat} (_h : side ≤ 1) (hk : k < s.length / 2) : (sideL s side)[k]? = s[side * (s.length / 2) + k]? := by
  unfold sideL
  rw [List.getElem?_take, if_pos hk, List.getElem?_drop]
theorem sideL_ext {s t : List (List Nat)} {side : Nat} (hs : side ≤ 1) (hl : s.length = t.length) (h : ∀ k, k < s.length / 2 → s[side * (s.length / 2) + k]? = t[side * (s.length / 2) + k]?) : sideL s side = sideL t side := by
  apply List.ext_getElem?
  intro k
  by_cases hk : k < s.length / 2
  · rw [sideL_get? s hs hk, sideL_get? t hs (by rw [← hl]; exact hk), ← hl]
    exact h k hk
  · rw [List.getElem?_eq_none (by rw [sideL_len s hs]; omega), List.getElem?_eq_none (by rw [sideL_len t hs, ← hl]; omega)]
theorem readL_side (s : List (List Nat)) {side : Nat} (hs : side ≤ 1) : readL s (side : Int) = readS (sideL s side) := by
  unfold readL
  rw [if_pos (by simp only [isSideB, Bool.and_eq_true, decide_eq_true_eq]; omega), Int.toNat_natCast]

/-- A reel that is ready, on a plate on which nobody counts: its round, its tale and its words. -/
structure Rdy (r : Rl) (rd : Nat) (t : List Nat) (ws : List (List Nat)) : Prop where
  good : r.P.Good
  off : r.P.off = false
  left : r.P.left = -1
  side : r.side ≤ 1
  ready : r.ready = true
  rd1 : 1 ≤ rd
  rd2 : rd ≤ 1099511627776
  tale : Word t
  words : ∀ x ∈ ws, Word x
  fit : (piecesT t ws).length ≤ r.room
  here : ∀ k c, (piecesT t ws)[k]? = some c → r.P.last[r.side * r.room + k]? = some (markedC (markN rd k) c)
  free : ∀ k c, (piecesT t ws).length ≤ k → k < r.room → r.P.last[r.side * r.room + k]? = some c → numC c 0 ≠ markN rd k
  oth : (readL r.P.last ((1 - r.side : Nat) : Int)).1 < rd
  top : topL r.P.last ≤ rd

theorem pieces_pos (t : List Nat) (ws : List (List Nat)) : piecesT t ws ≠ [] := by
  intro e
  have := congrArg List.length e
  simp only [piecesT, List.length_append, chunksL_len, frameL_len, List.length_nil] at this
  omega

theorem puts_mkL {side n at_ rd : Nat} {cs : List (List Nat)} (hs : side ≤ 1) (ha : at_ + cs.length ≤ n / 2) (hc : ∀ c ∈ cs, c.length ≤ 48 ∧ Bytes c) : Puts n (mkL (side * (n / 2)) rd at_ cs) := by
  intro x hx
  have hb := mkL_bounds _ _ _ _ x hx
  obtain ⟨i, hi⟩ := List.mem_iff_getElem?.1 hx
  have hlt := (List.getElem?_eq_some_iff.1 hi).1
  rw [mkL_len] at hlt
  have := mkL_get (side * (n / 2)) rd cs at_ i _ (List.getElem?_eq_getElem hlt)
  rw [hi] at this
  injection this with this
  subst this
  have hcc := hc _ (List.getElem_mem hlt)
  refine ⟨?_, markedC_is _ hcc.1 hcc.2⟩
  rcases Nat.le_one_iff_eq_zero_or_eq_one.1 hs with rfl | rfl <;> simp only [Nat.zero_mul, Nat.one_mul] at hb ⊢ <;> omega

section
variable {r : Rl} {rd : Nat} {t : List Nat} {ws : List (List Nat)}

theorem Rdy.read (h : Rdy r rd t ws) : readL r.P.last (r.side : Int) = (rd, (piecesT t ws).map pad) := by
  have hsz := h.good.size
  have hm := h.good.most
  have hf := h.fit
  unfold Rl.room at hf
  rw [readL_side _ h.side]
  refine readS_exact (fun i c hc => ?_) (fun c hc => ?_) (fun c hc => (pieces_each h.tale h.words c hc).1) h.rd1 h.rd2 (by rw [sideL_len _ h.side]; omega) (by rw [sideL_len _ h.side, hsz]; exact hf) (pieces_pos t ws)
  · have hi := (List.getElem?_eq_some_iff.1 hc).1
    rw [sideL_get? _ h.side (by rw [hsz]; omega), hsz]
    exact h.here i c hc
  · have hi := (List.getElem?_eq_some_iff.1 hc).1
    rw [sideL_len _ h.side, hsz] at hi
    rw [sideL_get? _ h.side (by rw [hsz]; omega), hsz] at hc
    have := h.free _ c (Nat.le_refl _) hi hc
    simp only [bearsC, Bool.and_eq_false_iff, beq_eq_false_iff_ne]
    exact .inl this
theorem Rdy.row (h : Rdy r rd t ws) : r.row = (rd, t :: ws, (piecesT t ws).length) := by
  unfold Rl.row rowOf
  rw [h.read]
  have := parse_tale h.tale h.words (b := []) (by rw [frameAt_nil])
  rw [List.append_nil] at this
  simp only [this]
theorem Rdy.told (h : Rdy r rd t ws) : toldL r.P.last = (r.side, rd, t :: ws) := by
  have hr := h.row
  have ho := h.oth
  unfold Rl.row at hr
  have h1 := h.rd1
  rcases Nat.le_one_iff_eq_zero_or_eq_one.1 h.side with hs | hs
  · rw [hs] at hr ho ⊢
    have e : told0 r.P.last = (0, rd, t :: ws) := by
      unfold told0
      rw [show rowOf r.P.last 0 = _ from hr, if_pos ⟨by simp, by show 0 < rd; omega⟩]
    unfold toldL
    rw [e, if_neg (fun hh => by have : (rowOf r.P.last 1).1 < rd := ho; have := hh.2; simp only at this; omega)]
  · rw [hs] at hr ho ⊢
    unfold toldL
    have e0 : (told0 r.P.last).2.1 < rd := by
      unfold told0
      split
      · exact ho
      · simp only; omega
    rw [show rowOf r.P.last 1 = _ from hr, if_pos ⟨by simp, e0⟩]
theorem Rdy.leftN (h : Rdy r rd t ws) : r.left = r.room - (piecesT t ws).length := by
  unfold Rl.left
  rw [h.ready, if_pos rfl, h.row]

theorem layAll_get_other {base rd at_ : Nat} {cs s : List (List Nat)} {i : Nat} (h : i < base + at_ ∨ base + at_ + cs.length ≤ i) : (layAll s (mkL base rd at_ cs))[i]? = s[i]? :=
  lay_other _ s i (fun x hx => by have := mkL_bounds base rd cs at_ x hx; omega)

theorem Rdy.add (h : Rdy r rd t ws) {x : List Nat} (hx : Word x) (hf : cellsN x.length ≤ r.room - (piecesT t ws).length) (hl : r.P.loose.length + cellsN x.length ≤ 100000) :
    ∃ r', r.add x = (0, r') ∧ Rdy r' rd t (ws ++ [x]) ∧ r'.P.sure.length = r.P.sure.length ∧ r'.side = r.side ∧ r'.P.loose.length = r.P.loose.length + cellsN x.length := by
  have hc := frame_cells 2 hx.1
  have hfit := h.fit
  have hpos := cellsN_pos hx.1
  have hch : ∀ c ∈ chunksL (frameL 2 x), c.length ≤ 48 ∧ Bytes c := chop_each _ _ (frameL_bytes (by decide) hx.2)
  obtain ⟨j, l', o', hj, h3, h4, h5⟩ := putC_runs r.side rd h.side h.rd1 h.rd2 (chunksL (frameL 2 x)) r.P (piecesT t ws).length (by rw [hc]; unfold Rl.room at hf hfit; omega) (fun c hc => (hch c hc).1)
  obtain ⟨e0, el⟩ := h5 h.off h.left
  rcases h4 with ⟨_, hj2, ho', _⟩ | ⟨e1, _⟩
  · subst hj2
    rw [List.take_length] at h3
    have hadd : r.add x = (0, ⟨(r.P.putC (r.side : Int) rd (piecesT t ws).length (chunksL (frameL 2 x))).2, r.side, true⟩) := by
      unfold Rl.add
      rw [h.ready, if_pos rfl, h.row]
      simp only
      rw [if_pos (by simp only [fitsB, Bool.and_eq_true, decide_eq_true_eq]; exact ⟨hpos, hf⟩), e0]
      rfl
    rw [h3] at hadd
    have hgood : (r.P.putC (r.side : Int) rd (piecesT t ws).length (chunksL (frameL 2 x))).2.Good := by
      rw [h3]
      have hps : Puts r.P.sure.length (mkL (r.side * (r.P.sure.length / 2)) rd (piecesT t ws).length (chunksL (frameL 2 x))) := puts_mkL h.side (by rw [hc]; unfold Rl.room at hf hfit; omega) hch
      exact ⟨by rw [layAll_len]; exact h.good.size, h.good.most, h.good.cs, cells_layAll _ _ h.good.cl hps, fun y hy => (List.mem_append.1 hy).elim (h.good.lo y) (hps y), by simp only [List.length_append, mkL_len, hc]; exact hl, by show -1 ≤ l'; omega, by show l' ≤ _; omega⟩
    rw [h3] at hgood
    have hroom : r.room = r.P.sure.length / 2 := rfl
    refine ⟨_, hadd, ⟨hgood, by rw [← h.off, ← ho'], el, h.side, rfl, h.rd1, h.rd2, h.tale, fun y hy => ?_, ?_, fun k c hk => ?_, fun k c hk hk2 hkc => ?_, ?_, ?_⟩, rfl, rfl, by simp only [List.length_append, mkL_len, hc]⟩
    · rcases List.mem_append.1 hy with hy | hy
      · exact h.words y hy
      · simp at hy; subst hy; exact hx
    · rw [piecesT_snoc, List.length_append, hc]
      show _ ≤ r.P.sure.length / 2
      rw [← hroom]
      omega
    · simp only [Rl.room] at *
      rw [piecesT_snoc] at hk
      by_cases hlt : k < (piecesT t ws).length
      · rw [List.getElem?_append_left hlt] at hk
        rw [layAll_get_other (by omega)]
        exact h.here k c hk
      · rw [List.getElem?_append_right (by omega)] at hk
        have hki := (List.getElem?_eq_some_iff.1 hk).1
        have := lay_mkL (r.side * (r.P.sure.length / 2)) rd (chunksL (frameL 2 x)) (piecesT t ws).length r.P.last (k - (piecesT t ws).length) c (by
          rw [h.good.size, hc]
          rcases Nat.le_one_iff_eq_zero_or_eq_one.1 h.side with hs | hs <;> rw [hs] <;> omega) hk
        rw [show r.side * (r.P.sure.length / 2) + (piecesT t ws).length + (k - (piecesT t ws).length) = r.side * (r.P.sure.length / 2) + k by omega, show (piecesT t ws).length + (k - (piecesT t ws).length) = k by omega] at this
        exact this
    · simp only [Rl.room] at *
      rw [piecesT_snoc, List.length_append] at hk
      rw [layAll_get_other (by omega)] at hkc
      exact h.free k c (by omega) hk2 hkc
    · have := h.oth
      have e : readL (layAll r.P.last (mkL (r.side * (r.P.sure.length / 2)) rd (piecesT t ws).length (chunksL (frameL 2 x)))) ((1 - r.side : Nat) : Int) = readL r.P.last ((1 - r.side : Nat) : Int) := by
        rw [readL_side _ (by omega), readL_side _ (by omega)]
        congr 1
        refine sideL_ext (by omega) (layAll_len _ _) (fun k hk => ?_)
        rw [layAll_len, h.good.size] at hk ⊢
        refine layAll_get_other ?_
        unfold Rl.room at hf hfit
        have := h.side
        rcases Nat.le_one_iff_eq_zero_or_eq_one.1 h.side with hs | hs <;> rw [hs] <;> simp only [Nat.zero_mul, Nat.one_mul, Nat.sub_self, Nat.sub_zero] <;> omega
      simp only
      rw [e]
      exact this
    · have hm := h.good.most
      exact top_lay h.top h.rd2 (by rw [hc]; unfold Rl.room at hf hfit; omega) (fun c hc => (hch c hc).1)
  · rw [e0] at e1
    cases e1

theorem flush_calm {P : Pl} (ho : P.off = false) (hl : P.left = -1) : P.flush = (0, ⟨layAll P.sure P.loose, P.last, [], -1, false⟩) := by
  have hsp : P.spend = (0, { P with left := -1 }) := by
    unfold Pl.spend
    rw [ho, hl]
    rfl
  unfold Pl.flush
  rw [hsp]
  simp [ho]
theorem Rdy.flush (h : Rdy r rd t ws) : ∃ r', r.flush = (0, r') ∧ Rdy r' rd t ws ∧ r'.P.sure.length = r.P.sure.length ∧ r'.side = r.side ∧ r'.P.loose.length = 0 := by
  have hf := flush_calm h.off h.left
  have hg := h.good.flush
  rw [hf] at hg
  have e : r.flush = (0, ⟨⟨layAll r.P.sure r.P.loose, r.P.last, [], -1, false⟩, r.side, true⟩) := by
    unfold Rl.flush
    rw [h.ready, if_pos rfl, hf]
    rfl
  have hroom : (layAll r.P.sure r.P.loose).length / 2 = r.room := by rw [layAll_len]; rfl
  refine ⟨_, e, ⟨hg, rfl, rfl, h.side, rfl, h.rd1, h.rd2, h.tale, h.words, ?_, ?_, ?_, h.oth, h.top⟩, by simp [layAll_len], rfl, rfl⟩
  · show _ ≤ (layAll r.P.sure r.P.loose).length / 2
    rw [hroom]; exact h.fit
  · show ∀ k c, _ → r.P.last[r.side * ((layAll r.P.sure r.P.loose).length / 2) + k]? = _
    rw [hroom]; exact h.here
  · show ∀ k c, _ → k < (layAll r.P.sure r.P.loose).length / 2 → r.P.last[r.side * ((layAll r.P.sure r.P.loose).length / 2) + k]? = _ → _
    rw [hroom]; exact h.free

theorem begin_rdy (good : r.P.Good) (off : r.P.off = false) (left : r.P.left = -1) (side : r.side ≤ 1) (ht : Word t) (hf : cellsN t.length ≤ r.room) (htop : topL r.P.last < 1099511627776) (hl : r.P.loose.length + cellsN t.length ≤ 100000) :
    ∃ r', r.begin t = (0, r') ∧ Rdy r' (topL r.P.last + 1) t [] ∧ r'.P.sure.length = r.P.sure.length ∧ r'.side = 1 - r.side ∧ r'.P.loose.length = 0 := by
  have hc := frame_cells 1 ht.1
  have hpos := cellsN_pos ht.1
  have hch : ∀ c ∈ chunksL (frameL 1 t), c.length ≤ 48 ∧ Bytes c := chop_each _ _ (frameL_bytes (by decide) ht.2)
  have hsz := good.size
  obtain ⟨j, l', o', hj, h3, h4, h5⟩ := putC_runs (1 - r.side) (topL r.P.last + 1) (by omega) (by omega) (by omega) (chunksL (frameL 1 t)) r.P 0 (by rw [hc]; unfold Rl.room at hf; omega) (fun c hc => (hch c hc).1)
  obtain ⟨e0, el⟩ := h5 off left
  rcases h4 with ⟨_, hj2, ho', _⟩ | ⟨e1, _⟩
  · subst hj2
    rw [List.take_length] at h3
    have hps : Puts r.P.sure.length (mkL ((1 - r.side) * (r.P.sure.length / 2)) (topL r.P.last + 1) 0 (chunksL (frameL 1 t))) := puts_mkL (by omega) (by rw [hc]; unfold Rl.room at hf; omega) hch
    have hgood : (r.P.putC ((1 - r.side : Nat) : Int) (topL r.P.last + 1) 0 (chunksL (frameL 1 t))).2.Good := by
      rw [h3]
      exact ⟨by rw [layAll_len]; exact good.size, good.most, good.cs, cells_layAll _ _ good.cl hps, fun y hy => (List.mem_append.1 hy).elim (good.lo y) (hps y), by simp only [List.length_append, mkL_len, hc]; exact hl, by show -1 ≤ l'; omega, by show l' ≤ _; omega⟩
    have hff := flush_calm (P := (r.P.putC ((1 - r.side : Nat) : Int) (topL r.P.last + 1) 0 (chunksL (frameL 1 t))).2) (by rw [h3]; exact ho'.trans off) (by rw [h3]; exact el)
    have hgf := hgood.flush
    have hbeg : r.begin t = (0, ⟨(r.P.putC ((1 - r.side : Nat) : Int) (topL r.P.last + 1) 0 (chunksL (frameL 1 t))).2.flush.2, 1 - r.side, true⟩) := by
      unfold Rl.begin
      rw [if_pos (by simp only [fitsB, Bool.and_eq_true, decide_eq_true_eq]; exact ⟨⟨hpos, hf⟩, htop⟩), e0, if_pos (by decide), hff]
      rfl
    rw [hff] at hgf
    rw [hff, h3] at hbeg
    rw [h3] at hgf
    simp only at hbeg hgf
    have hlen : (layAll r.P.sure (r.P.loose ++ mkL ((1 - r.side) * (r.P.sure.length / 2)) (topL r.P.last + 1) 0 (chunksL (frameL 1 t)))).length = r.P.sure.length := layAll_len _ _
    have hpT : piecesT t [] = chunksL (frameL 1 t) := by simp [piecesT, piecesW]
    have hlow : ∀ (k : Nat) (c : List Nat), r.P.last[k]? = some c → numC c 0 / 65536 ≤ topL r.P.last := fun k c hk => by
      have := (topM_ge (List.mem_of_getElem? hk)).1
      exact Nat.div_le_div_right this
    refine ⟨_, hbeg, ⟨hgf, rfl, rfl, by simp only; omega, rfl, by omega, by omega, ht, fun y hy => by simp at hy, ?_, fun k c hk => ?_, fun k c hk hk2 hkc => ?_, ?_, ?_⟩, hlen, rfl, rfl⟩
    · rw [hpT, hc]
      simp only [Rl.room, hlen]
      exact hf
    · rw [hpT] at hk
      simp only [Rl.room, hlen]
      have := lay_mkL ((1 - r.side) * (r.P.sure.length / 2)) (topL r.P.last + 1) (chunksL (frameL 1 t)) 0 r.P.last k c (by
        rw [hsz, hc]
        unfold Rl.room at hf
        rcases Nat.le_one_iff_eq_zero_or_eq_one.1 side with hs | hs <;> rw [hs] <;> omega) hk
      rw [Nat.add_zero, Nat.zero_add] at this
      exact this
    · rw [hpT] at hk
      simp only [Rl.room, hlen] at hk2 hkc
      rw [layAll_get_other (by omega)] at hkc
      have := hlow _ c hkc
      unfold markN
      omega
    · have hu : 1 - (1 - r.side) = r.side := by omega
      have e : readL (layAll r.P.last (mkL ((1 - r.side) * (r.P.sure.length / 2)) (topL r.P.last + 1) 0 (chunksL (frameL 1 t)))) (r.side : Int) = readL r.P.last (r.side : Int) := by
        rw [readL_side _ side, readL_side _ side]
        congr 1
        refine sideL_ext side (layAll_len _ _) (fun k hk => ?_)
        rw [layAll_len, hsz] at hk ⊢
        refine layAll_get_other ?_
        unfold Rl.room at hf
        rcases Nat.le_one_iff_eq_zero_or_eq_one.1 side with hs | hs <;> rw [hs] <;> simp only [Nat.zero_mul, Nat.one_mul, Nat.sub_self, Nat.sub_zero] <;> omega
      simp only
      rw [hu, e]
      have := readL_top r.P.last (r.side : Int)
      omega
    · have hm := good.most
      exact top_lay (by omega) (by omega) (by rw [hc]; unfold Rl.room at hf; omega) (fun c hc => (hch c hc).1)
  · rw [e0] at e1
    cases e1
end
end

/- RlTear: Cells that bear a mark and are torn, in plain words. -/
section
set_option maxRecDepth 100000

theorem leL_numLE {l : List Nat} (h : Bytes l) : leL l.length (numLE l) = l := by
  induction l with
  | nil => rfl
  | cons b r ih =>
    have hb := h b (by simp)
    have hr := ih (fun x hx => h x (by simp [hx]))
    simp only [List.length_cons, leL, numLE]
    rw [show (b + 256 * numLE r) % 256 = b by omega, show (b + 256 * numLE r) / 256 = numLE r by omega, hr]

theorem cell_head {c : List Nat} (h : IsCell c) : c.take 8 = leL 8 (numC c 0) := by
  have hl : (c.take 8).length = 8 := by rw [List.length_take, h.len]; rfl
  have hb : Bytes (c.take 8) := fun b hb => h.byte b (List.mem_of_mem_take hb)
  have := leL_numLE hb
  rw [hl] at this
  unfold numC
  rw [List.drop_zero]
  exact this.symm
theorem cell_tail {c : List Nat} (h : IsCell c) : c.drop 56 = leL 8 (numC c 56) := by
  have hl : (c.drop 56).length = 8 := by rw [List.length_drop, h.len]
  have hb : Bytes (c.drop 56) := fun b hb => h.byte b (List.mem_of_mem_drop hb)
  have := leL_numLE hb
  rw [hl] at this
  unfold numC
  rw [List.take_of_length_le (by omega)]
  exact this.symm

theorem tear_head {c s : List Nat} (hc : c.length = 64) (n : Nat) : (tear n c s).take 8 = (c.take 8).take n ++ (s.take 8).drop n := by
  unfold tear
  by_cases h : n ≤ 8
  · rw [List.take_append, List.take_take, List.take_take, List.length_take, hc, Nat.min_eq_right h, Nat.min_eq_left (show n ≤ 64 by omega), Nat.min_eq_left h, List.drop_take]
  · rw [List.take_append, List.take_take, List.take_take, List.length_take, hc, Nat.min_eq_left (show 8 ≤ n by omega), Nat.min_eq_right (show 8 ≤ n by omega), show 8 - min n 64 = 0 by omega, List.take_zero, List.drop_eq_nil_of_le (by rw [List.length_take]; omega)]
theorem tear_tail {c s : List Nat} (hc : c.length = 64) (n : Nat) (hn : n ≤ 64) : (tear n c s).drop 56 = (c.drop 56).take (n - 56) ++ (s.drop 56).drop (n - 56) := by
  unfold tear
  rw [List.drop_append, List.length_take, hc, Nat.min_eq_left hn, List.drop_take, List.drop_drop, List.drop_drop]
  congr 2
  omega
theorem tear_inner_old {c s : List Nat} (hc : c.length = 64) {n : Nat} (hn : n ≤ 8) : innerC (tear n c s) = innerC s := by
  unfold innerC tear
  rw [List.drop_append, List.length_take, hc, Nat.min_eq_left (by omega), List.drop_eq_nil_of_le (by rw [List.length_take]; omega), List.nil_append, List.drop_drop, show n + (8 - n) = 8 by omega]
theorem tear_inner_new {c s : List Nat} (hc : c.length = 64) {n : Nat} (hn : 56 ≤ n) : innerC (tear n c s) = innerC c := by
  unfold innerC tear
  rw [List.drop_append, List.length_take, hc, List.drop_take, List.take_append, List.take_take, List.length_take, List.length_drop, hc, show min 48 (n - 8) = 48 by omega, show 48 - min (n - 8) (64 - 8) = 0 by omega, List.take_zero, List.append_nil]

/-- The bytes of a number of a place: two that tell the place, and the round. -/
theorem mark_bytes {r k : Nat} (hr : r < 256) (hk : k + 1 < 256) : leL 8 (r * 65536 + k + 1) = [k + 1, 0, r, 0, 0, 0, 0, 0] := by
  simp only [leL]
  rw [show (r * 65536 + k + 1) % 256 = k + 1 by omega, show (r * 65536 + k + 1) / 256 = r * 256 by omega, show r * 256 % 256 = 0 by omega, show r * 256 / 256 = r by omega, show r % 256 = r by omega, show r / 256 = 0 by omega]
theorem zero_bytes : leL 8 0 = [0, 0, 0, 0, 0, 0, 0, 0] := rfl
theorem num_of_bytes (x r : Nat) : numLE [x, 0, r, 0, 0, 0, 0, 0] = r * 65536 + x := by
  simp only [numLE]
  omega
theorem mix_bytes (k x r R n : Nat) : [k + 1, 0, R, 0, 0, 0, 0, 0].take n ++ [x, 0, r, 0, 0, 0, 0, 0].drop n = if n = 0 then [x, 0, r, 0, 0, 0, 0, 0] else if n ≤ 2 then [k + 1, 0, r, 0, 0, 0, 0, 0] else [k + 1, 0, R, 0, 0, 0, 0, 0] := by
  match n with
  | 0 => rfl
  | 1 => rfl
  | 2 => rfl
  | 3 => rfl
  | 4 => rfl
  | 5 => rfl
  | 6 => rfl
  | 7 => rfl
  | n + 8 =>
    rw [if_neg (by omega), if_neg (by omega), List.take_of_length_le (by simp), List.drop_eq_nil_of_le (by simp), List.append_nil]

/-- A number that may stand at a place: nothing, no round's, or a round's. -/
def Low (k v : Nat) : Prop := v = 0 ∨ ∃ r, r < 256 ∧ v = r * 65536 + k + 1

/-- What a number comes to that is laid over another one in part. -/
def mixN (k R n v : Nat) : Nat := if n = 0 then v else if n ≤ 2 then (if v = 0 then k + 1 else v) else R * 65536 + k + 1

theorem mix_num {k R v : Nat} (hR : R < 256) (hk : k + 1 < 256) (hv : Low k v) (n : Nat) : numLE ((leL 8 (R * 65536 + k + 1)).take n ++ (leL 8 v).drop n) = mixN k R n v := by
  rw [mark_bytes hR hk]
  unfold mixN
  rcases hv with rfl | ⟨r, hr, rfl⟩
  · rw [zero_bytes, mix_bytes]
    split
    · rw [num_of_bytes]
    · split
      · rw [num_of_bytes, if_pos rfl]; omega
      · rw [num_of_bytes]; omega
  · rw [mark_bytes hr hk, mix_bytes]
    split
    · rw [num_of_bytes]; omega
    · split
      · rw [num_of_bytes, if_neg (by omega)]; omega
      · rw [num_of_bytes]; omega

theorem tear_nums {k R : Nat} {x co : List Nat} (hR : R < 256) (hk : k + 1 < 256) (hx : x.length ≤ 48) (hxb : Bytes x) (hco : IsCell co) (h0 : Low k (numC co 0)) (h56 : Low k (numC co 56)) (n : Nat) (hn : n ≤ 64) :
    numC (tear n (markedC (markN R k) x) co) 0 = mixN k R n (numC co 0) ∧ numC (tear n (markedC (markN R k) x) co) 56 = mixN k R (n - 56) (numC co 56) := by
  have hc := markedC_is (markN R k) hx hxb
  obtain ⟨n1, n2⟩ := numC_marked (show markN R k < 18446744073709551616 by unfold markN; omega) hx
  have hm : markN R k = R * 65536 + k + 1 := rfl
  refine ⟨?_, ?_⟩
  · rw [← mix_num hR hk h0 n, ← hm]
    conv => lhs; unfold numC; rw [List.drop_zero, tear_head hc.len, cell_head hc, n1, cell_head hco]
  · rw [← mix_num hR hk h56 (n - 56), ← hm]
    have hl : ((tear n (markedC (markN R k) x) co).drop 56).length ≤ 8 := by rw [List.length_drop, (tear_is hc hco).len]; omega
    conv => lhs; unfold numC; rw [List.take_of_length_le hl, tear_tail hc.len n hn, cell_tail hc, n2, cell_tail hco]

/-- A torn cell bears what the old one bore, with what it had; or what the new one bears, with what that has. -/
theorem tear_bears {k R : Nat} {x co : List Nat} (hR1 : 1 ≤ R) (hR : R < 256) (hk : k + 1 < 256) (hx : x.length ≤ 48) (hxb : Bytes x) (hco : IsCell co) (h0 : Low k (numC co 0)) (h56 : Low k (numC co 56)) (hf : numC co 56 ≠ markN R k) (n : Nat) (hn : n ≤ 64)
    {r : Nat} (hr : 1 ≤ r) (hb : bearsC (tear n (markedC (markN R k) x) co) (markN r k) = true) :
    (bearsC co (markN r k) = true ∧ innerC (tear n (markedC (markN R k) x) co) = innerC co) ∨ (r = R ∧ innerC (tear n (markedC (markN R k) x) co) = pad x) := by
  obtain ⟨e1, e2⟩ := tear_nums hR hk hx hxb hco h0 h56 n hn
  have hc := markedC_is (markN R k) hx hxb
  simp only [bearsC, Bool.and_eq_true, beq_iff_eq] at hb ⊢
  rw [e1, e2] at hb
  obtain ⟨b1, b2⟩ := hb
  unfold mixN at b1 b2
  unfold markN at b1 b2 hf ⊢
  by_cases h3 : n ≤ 2
  · rw [if_pos (by omega)] at b2
    refine .inl ⟨⟨?_, b2⟩, tear_inner_old hc.len (by omega)⟩
    by_cases hz : n = 0
    · rw [if_pos hz] at b1; exact b1
    · rw [if_neg hz, if_pos h3] at b1
      split at b1
      · omega
      · exact b1
  · rw [if_neg (by omega), if_neg h3] at b1
    have hrR : r = R := by omega
    subst hrR
    by_cases h4 : n ≤ 58
    · by_cases h5 : n ≤ 56
      · rw [if_pos (by omega)] at b2
        exact absurd b2 hf
      · rw [if_neg (by omega), if_pos (by omega)] at b2
        split at b2
        · omega
        · exact absurd b2 hf
    · refine .inr ⟨rfl, ?_⟩
      have := tear_inner_new (c := markedC (markN r k) x) (s := co) hc.len (show 56 ≤ n by omega)
      unfold markN at this
      rw [this]
      exact innerC_marked _ hx
end

/- RlHist: What was put for each round, and what cells tell of it, in plain words. -/
section
set_option maxRecDepth 100000

/-- What was put for a round: on which side, what tale, what words, how many pieces of them. -/
structure Hs where
  side : Nat
  t : List Nat
  ws : List (List Nat)
  m : Nat

def Hs.pc (h : Hs) : List (List Nat) := (piecesT h.t h.ws).take h.m
structure Hs.Ok (h : Hs) : Prop where
  tale : Word h.t
  words : ∀ x ∈ h.ws, Word x
  few : h.m ≤ (piecesT h.t h.ws).length

theorem Hs.Ok.len {h : Hs} (o : h.Ok) : h.pc.length = h.m := by unfold Hs.pc; rw [List.length_take, Nat.min_eq_left o.few]
theorem Hs.Ok.each {h : Hs} (o : h.Ok) : ∀ c ∈ h.pc, c.length ≤ 48 ∧ Bytes c := fun c hc => pieces_each o.tale o.words c (List.mem_of_mem_take hc)

/-- A number that may stand at the place k of the side s. -/
def NumOk (H : Nat → Hs) (s k v : Nat) : Prop := v = 0 ∨ v = k + 1 ∨ ∃ r, 1 ≤ r ∧ r ≤ 200 ∧ v = markN r k ∧ (H r).side = s ∧ k < (H r).m

/-- A cell that may lie at the place k of the side s. -/
structure Lg (H : Nat → Hs) (s k : Nat) (c : List Nat) : Prop where
  is : IsCell c
  b : NumOk H s k (numC c 0)
  e : NumOk H s k (numC c 56)
  own : ∀ r, 1 ≤ r → bearsC c (markN r k) = true → ∃ x, (H r).pc[k]? = some x ∧ innerC c = pad x

theorem NumOk.low {H : Nat → Hs} {s k v : Nat} (h : NumOk H s k v) : Low k v := by
  rcases h with h | h | ⟨r, _, h2, h3, _⟩
  · exact .inl h
  · exact .inr ⟨0, by omega, by omega⟩
  · exact .inr ⟨r, by omega, h3⟩
theorem NumOk.mix {H : Nat → Hs} {s k v R : Nat} (h : NumOk H s k v) (hR1 : 1 ≤ R) (hR : R ≤ 200) (hs : (H R).side = s) (hm : k < (H R).m) (n : Nat) : NumOk H s k (mixN k R n v) := by
  unfold mixN
  split
  · exact h
  · split
    · split
      · exact .inr (.inl rfl)
      · exact h
    · exact .inr (.inr ⟨R, hR1, hR, rfl, hs, hm⟩)

theorem Lg.zero (H : Nat → Hs) (s k : Nat) : Lg H s k zeroC := by
  have h0 : ∀ o, numC zeroC o = 0 := fun o => by
    unfold numC zeroC
    have : ∀ l : List Nat, (∀ x ∈ l, x = 0) → numLE l = 0 := fun l => by
      induction l with
      | nil => intro _; rfl
      | cons x r ih => intro h; simp only [numLE]; rw [ih (fun y hy => h y (by simp [hy])), h x (by simp)]
    exact this _ (fun x hx => (List.mem_replicate.1 (List.mem_of_mem_drop (List.mem_of_mem_take hx))).2)
  refine ⟨zeroC_is, .inl (h0 0), .inl (h0 56), fun r _ hb => ?_⟩
  simp only [bearsC, h0, Bool.and_eq_true, beq_iff_eq] at hb
  unfold markN at hb
  omega

/-- A piece that is put there, or in part. -/
theorem Lg.tear {H : Nat → Hs} {s k R : Nat} {x co : List Nat} (h : Lg H s k co) (hk : k < 200) (hR1 : 1 ≤ R) (hR : R ≤ 200) (hs : (H R).side = s) (ho : (H R).Ok) (hx : (H R).pc[k]? = some x) (hf : numC co 56 ≠ markN R k) (n : Nat) (hn : n ≤ 64) :
    Lg H s k (tear n (markedC (markN R k) x) co) := by
  have hkm : k < (H R).m := by rw [← ho.len]; exact (List.getElem?_eq_some_iff.1 hx).1
  have hxx := ho.each x (List.mem_of_getElem? hx)
  obtain ⟨e1, e2⟩ := tear_nums (show R < 256 by omega) (show k + 1 < 256 by omega) hxx.1 hxx.2 h.is h.b.low h.e.low n hn
  refine ⟨tear_is (markedC_is _ hxx.1 hxx.2) h.is, by rw [e1]; exact h.b.mix hR1 hR hs hkm n, by rw [e2]; exact h.e.mix hR1 hR hs hkm _, fun r hr hb => ?_⟩
  rcases tear_bears hR1 (by omega) (by omega) hxx.1 hxx.2 h.is h.b.low h.e.low hf n hn hr hb with ⟨b1, b2⟩ | ⟨rfl, b2⟩
  · obtain ⟨y, hy1, hy2⟩ := h.own r hr b1
    exact ⟨y, hy1, by rw [b2, hy2]⟩
  · exact ⟨x, hx, b2⟩

/-- More may be put for a round. -/
theorem Lg.mono {H H' : Nat → Hs} {s k : Nat} {c : List Nat} (h : Lg H s k c) (hn : ∀ r, 1 ≤ r → (numC c 0 = markN r k ∨ numC c 56 = markN r k) → (H' r).side = (H r).side ∧ (k < (H r).m → k < (H' r).m) ∧ ((H r).pc[k]? = none ∨ (H' r).pc[k]? = (H r).pc[k]?)) : Lg H' s k c := by
  have hno : ∀ v, (v = numC c 0 ∨ v = numC c 56) → NumOk H s k v → NumOk H' s k v := fun v hv hv2 => by
    rcases hv2 with h0 | h0 | ⟨r, h1, h2, h3, h4, h5⟩
    · exact .inl h0
    · exact .inr (.inl h0)
    · have := hn r h1 (hv.imp (fun e => e.symm.trans h3) (fun e => e.symm.trans h3))
      exact .inr (.inr ⟨r, h1, h2, h3, this.1.trans h4, this.2.1 h5⟩)
  refine ⟨h.is, hno _ (.inl rfl) h.b, hno _ (.inr rfl) h.e, fun r hr hb => ?_⟩
  obtain ⟨x, hx, hi⟩ := h.own r hr hb
  simp only [bearsC, Bool.and_eq_true, beq_iff_eq] at hb
  rcases (hn r hr (.inl hb.1)).2.2 with he | he
  · rw [hx] at he; cases he
  · exact ⟨x, by rw [he]; exact hx, hi⟩

/-- What is read of such cells: a beginning of what was put for a round. -/
theorem run_legit {H : Nat → Hs} {s r : Nat} (hr : 1 ≤ r) : ∀ (S : List (List Nat)) (k : Nat), (∀ i c, S[i]? = some c → Lg H s (k + i) c) → ∃ j, runS r k S = (((H r).pc.drop k).take j).map pad ∧ j ≤ ((H r).pc.drop k).length ∧ j ≤ S.length ∧ (∀ i c, i < j → S[i]? = some c → bearsC c (markN r (k + i)) = true) ∧ (∀ c, S[j]? = some c → bearsC c (markN r (k + j)) = false) := by
  intro S
  induction S with
  | nil => intro k _; exact ⟨0, by simp [runS], Nat.zero_le _, Nat.zero_le _, fun i c h => by omega, fun c h => by simp at h⟩
  | cons d T ih =>
    intro k hS
    cases hb : bearsC d (markN r k) with
    | false => exact ⟨0, by simp [runS, hb], Nat.zero_le _, Nat.zero_le _, fun i c h => by omega, fun c h => by simp at h; subst h; exact hb⟩
    | true =>
      obtain ⟨x, hx, hi⟩ := (hS 0 d rfl).own r hr (by rw [Nat.add_zero]; exact hb)
      rw [Nat.add_zero] at hx
      obtain ⟨j, h1, h2, h3, h4, h5⟩ := ih (k + 1) (fun i c hc => by
        have := hS (i + 1) c (by simpa using hc)
        rw [show k + (i + 1) = k + 1 + i by omega] at this
        exact this)
      have hlt := (List.getElem?_eq_some_iff.1 hx).1
      have hd : (H r).pc.drop k = x :: (H r).pc.drop (k + 1) := by
        rw [List.drop_eq_getElem_cons hlt]
        congr 1
        exact Option.some.inj ((List.getElem?_eq_getElem hlt).symm.trans hx)
      refine ⟨j + 1, ?_, by rw [hd, List.length_cons]; omega, by rw [List.length_cons]; omega, fun i c hi' hc => ?_, fun c hc => ?_⟩
      · simp only [runS, hb, if_true]
        rw [h1, hd, hi, List.take_succ_cons, List.map_cons]
      · cases i with
        | zero => simp at hc; subst hc; exact hb
        | succ i =>
          have := h4 i c (by omega) (by simpa using hc)
          rw [show k + 1 + i = k + (i + 1) by omega] at this
          exact this
      · have := h5 c (by simpa using hc)
        rw [show k + 1 + j = k + (j + 1) by omega] at this
        exact this

theorem read_legit {H : Nat → Hs} {s : Nat} (S : List (List Nat)) (hS : ∀ i c, S[i]? = some c → Lg H s i c) : readS S = (0, []) ∨ ∃ r j, 1 ≤ r ∧ r ≤ 200 ∧ (H r).side = s ∧ 1 ≤ j ∧ j ≤ (H r).pc.length ∧ j ≤ S.length ∧ readS S = (r, ((H r).pc.take j).map pad) ∧ (∀ i c, i < j → S[i]? = some c → bearsC c (markN r i) = true) ∧ (∀ c, S[j]? = some c → bearsC c (markN r j) = false) := by
  by_cases h0 : firstR S = 0
  · exact .inl (by unfold readS; rw [if_pos h0])
  · refine .inr ?_
    obtain ⟨j, h1, h2, h3, h4, h5⟩ := run_legit (H := H) (s := s) (r := firstR S) (by omega) S 0 (fun i c hc => by rw [Nat.zero_add]; exact hS i c hc)
    rw [List.drop_zero] at h1 h2
    cases S with
    | nil => exact absurd rfl h0
    | cons c T =>
      have hf : firstR (c :: T) = if isRoundB (numC c 0 / 65536) && bearsC c (markN (numC c 0 / 65536) 0) then numC c 0 / 65536 else 0 := rfl
      have hcond : (isRoundB (numC c 0 / 65536) && bearsC c (markN (numC c 0 / 65536) 0)) = true := by
        cases hh : (isRoundB (numC c 0 / 65536) && bearsC c (markN (numC c 0 / 65536) 0)) with
        | true => rfl
        | false => rw [hf, hh] at h0; exact absurd rfl h0
      rw [hcond, if_pos rfl] at hf
      have hb : bearsC c (markN (firstR (c :: T)) 0) = true := by rw [hf]; exact (Bool.and_eq_true _ _ ▸ hcond).2
      have hj : 1 ≤ j := by
        rcases Nat.eq_zero_or_pos j with hz | hz
        · subst hz
          have := h5 c rfl
          rw [Nat.add_zero, hb] at this
          cases this
        · exact hz
      have hL := hS 0 c rfl
      have hb0 : numC c 0 = markN (firstR (c :: T)) 0 := by
        simp only [bearsC, Bool.and_eq_true, beq_iff_eq] at hb
        exact hb.1
      have hmk : markN (firstR (c :: T)) 0 = firstR (c :: T) * 65536 + 0 + 1 := rfl
      rcases hL.b with hz | hz | ⟨r, k1, k2, k3, k4, k5⟩
      · omega
      · omega
      · have hrr : firstR (c :: T) = r := by
          have : markN r 0 = r * 65536 + 0 + 1 := rfl
          omega
        refine ⟨firstR (c :: T), j, by omega, by omega, by rw [hrr]; exact k4, hj, h2, h3, ?_, fun i d hi hd => ?_, fun d hd => ?_⟩
        · unfold readS
          rw [if_neg h0, h1]
        · have := h4 i d hi hd
          rwa [Nat.zero_add] at this
        · have := h5 d hd
          rwa [Nat.zero_add] at this

/-- How many frames of these sizes are within so many pieces. -/
def cntF : List Nat → Nat → Nat
  | [], _ => 0
  | c :: r, j => if c ≤ j then 1 + cntF r (j - c) else 0

theorem cntF_le (l : List Nat) : ∀ j, cntF l j ≤ l.length := by
  induction l with
  | nil => intro j; simp [cntF]
  | cons c r ih =>
    intro j
    simp only [cntF, List.length_cons]
    split
    · have := ih (j - c); omega
    · omega
theorem cntF_mono (l : List Nat) : ∀ i j, i ≤ j → cntF l i ≤ cntF l j := by
  induction l with
  | nil => intro i j _; simp [cntF]
  | cons c r ih =>
    intro i j hij
    simp only [cntF]
    split
    · rw [if_pos (by omega)]
      have := ih (i - c) (j - c) (by omega)
      omega
    · omega
theorem cntF_all (l : List Nat) : ∀ j, l.sum ≤ j → cntF l j = l.length := by
  induction l with
  | nil => intro j _; rfl
  | cons c r ih =>
    intro j hj
    rw [List.sum_cons] at hj
    simp only [cntF, List.length_cons]
    rw [if_pos (by omega), ih _ (by omega)]
    omega
/-- A size behind that is not all there does not matter. -/
theorem cntF_snoc (l : List Nat) (c : Nat) : ∀ j, j < l.sum + c → cntF (l ++ [c]) j = cntF l j := by
  induction l with
  | nil =>
    intro j h
    simp only [List.sum_nil, Nat.zero_add] at h
    simp only [List.nil_append, cntF]
    rw [if_neg (by omega)]
  | cons a r ih =>
    intro j h
    rw [List.sum_cons] at h
    simp only [List.cons_append, cntF]
    split
    · rw [ih (j - a) (by omega)]
    · rfl

def sizesT (t : List Nat) (ws : List (List Nat)) : List Nat := cellsN t.length :: ws.map fun x => cellsN x.length

/-- A beginning of pieces of words: the words that are wholly there. -/
theorem parse_part (ws : List (List Nat)) : ∀ (k : Nat) (_hk : k < 256) (t : List Nat) (j : Nat), Word t → (∀ x ∈ ws, Word x) → j ≤ (chunksL (frameL k t) ++ piecesW ws).length →
    (parse k ((((chunksL (frameL k t) ++ piecesW ws).take j).map pad).flatten)).1 = (t :: ws).take (cntF (sizesT t ws) j) := by
  induction ws with
  | nil =>
    intro k hk t j ht _ hj
    simp only [piecesW, List.map_nil, List.flatten_nil, List.append_nil] at hj ⊢
    have hc := frame_cells k ht.1
    simp only [sizesT, List.map_nil, cntF]
    by_cases h : cellsN t.length ≤ j
    · have hje : j = (chunksL (frameL k t)).length := by omega
      rw [if_pos h, hje, List.take_length]
      have := parse_cons (k := k) (r := []) ht.1
      rw [List.append_nil] at this
      rw [this, parse_zero (by rw [frameAt_nil])]
      rfl
    · rw [if_neg h, parse_zero (by rw [frameAt_part hk ht.1 ht.2 (by omega)])]
      rfl
  | cons y r ih =>
    intro k hk t j ht hw hj
    have hc := frame_cells k ht.1
    simp only [sizesT, cntF]
    by_cases h : cellsN t.length ≤ j
    · rw [if_pos h, List.take_append, List.take_of_length_le (by omega), List.map_append, List.flatten_append, parse_cons ht.1, hc]
      have e : piecesW (y :: r) = chunksL (frameL 2 y) ++ piecesW r := by simp [piecesW]
      rw [List.length_append, e] at hj
      have := ih 2 (by omega) y (j - cellsN t.length) (hw y (by simp)) (fun x hx => hw x (by simp [hx])) (by omega)
      rw [e]
      simp only
      rw [this, Nat.add_comm 1, List.take_succ_cons]
      rfl
    · rw [if_neg h, List.take_append_of_le_length (by omega), parse_zero (by rw [frameAt_part hk ht.1 ht.2 (by omega)])]
      rfl

theorem parse_hs {h : Hs} (o : h.Ok) {j : Nat} (hj : j ≤ h.m) : (parse 1 (((h.pc.take j).map pad).flatten)).1 = (h.t :: h.ws).take (cntF (sizesT h.t h.ws) j) := by
  unfold Hs.pc
  rw [List.take_take, Nat.min_eq_left hj]
  exact parse_part h.ws 1 (by omega) h.t j o.tale o.words (Nat.le_trans hj o.few)
end

/- RlInv: What may lie on a plate on which reels were begun, whatever was lost, in plain words. -/
section
set_option maxRecDepth 100000

/-- All cells of both sides may lie there. -/
def LgAll (n : Nat) (H : Nat → Hs) (S : List (List Nat)) : Prop := ∀ s k c, s ≤ 1 → k < n / 2 → S[s * (n / 2) + k]? = some c → Lg H s k c
/-- The cell at a place of a side bears a round. -/
def bearAt (n : Nat) (S : List (List Nat)) (s r k : Nat) : Prop := ∃ c, S[s * (n / 2) + k]? = some c ∧ bearsC c (markN r k) = true

/-- What lies where cells were lost or torn. -/
theorem fail_other (keep : List Nat) (torn at_ : Int) (l : List (Nat × List Nat)) : ∀ (k : Nat) (s : List (List Nat)) (i : Nat), (∀ x ∈ l, x.1 ≠ i) → (failL keep torn at_ k l s)[i]? = s[i]? := by
  induction l with
  | nil => intro k s i _; rfl
  | cons x r ih =>
    intro k s i h
    obtain ⟨j, c⟩ := x
    simp only [failL]
    rw [ih _ _ i (fun y hy => h y (by simp [hy])), List.getElem?_set_ne (h (j, c) (by simp))]
theorem fail_at (keep : List Nat) (torn at_ : Int) (l : List (Nat × List Nat)) : ∀ (k : Nat) (s : List (List Nat)), (l.map (·.1)).Nodup → ∀ x ∈ l, x.1 < s.length → ∃ n, n ≤ 64 ∧ (failL keep torn at_ k l s)[x.1]? = some (tear n x.2 (s.getD x.1 [])) := by
  induction l with
  | nil => intro k s _ x hx; simp at hx
  | cons y r ih =>
    intro k s hn x hx hlt
    obtain ⟨j, c⟩ := y
    rw [List.map_cons, List.nodup_cons] at hn
    simp only [failL]
    rcases List.mem_cons.1 hx with rfl | hx
    · refine ⟨keptN keep torn at_ k, keptN_le _ _ _ _, ?_⟩
      rw [fail_other _ _ _ _ _ _ _ (fun y hy e => hn.1 (List.mem_map.2 ⟨y, hy, e⟩)), List.getElem?_set_self hlt]
    · have hne : j ≠ x.1 := fun e => hn.1 (List.mem_map.2 ⟨x, hx, e.symm⟩)
      obtain ⟨m, h1, h2⟩ := ih (k + 1) (s.set j (tear (keptN keep torn at_ k) c (s.getD j []))) hn.2 x hx (by rw [List.length_set]; exact hlt)
      refine ⟨m, h1, ?_⟩
      rw [h2]
      congr 2
      simp only [List.getD_eq_getElem?_getD, List.getElem?_set_ne hne]
theorem lay_at (l : List (Nat × List Nat)) : ∀ (s : List (List Nat)), (l.map (·.1)).Nodup → ∀ x ∈ l, x.1 < s.length → (layAll s l)[x.1]? = some x.2 := by
  induction l with
  | nil => intro s _ x hx; simp at hx
  | cons y r ih =>
    intro s hn x hx hlt
    obtain ⟨j, c⟩ := y
    rw [List.map_cons, List.nodup_cons] at hn
    simp only [layAll]
    rcases List.mem_cons.1 hx with rfl | hx
    · rw [lay_other _ _ _ (fun y hy e => hn.1 (List.mem_map.2 ⟨y, hy, e⟩)), List.getElem?_set_self hlt]
    · exact ih _ hn.2 x hx (by rw [List.length_set]; exact hlt)

/-- What is put and not sure yet: a piece of a round, where nothing of that round was. -/
structure Loose (n : Nat) (H : Nat → Hs) (sure : List (List Nat)) (x : Nat × List Nat) (s k R : Nat) : Prop where
  s1 : s ≤ 1
  k1 : k < n / 2
  at_ : x.1 = s * (n / 2) + k
  R1 : 1 ≤ R
  R2 : R ≤ 200
  side : (H R).side = s
  few : k < (H R).m
  put : ∃ p, (H R).pc[k]? = some p ∧ x.2 = markedC (markN R k) p
  fresh : ∀ c, sure[x.1]? = some c → numC c 0 ≠ markN R k ∧ numC c 56 ≠ markN R k

/-- What may lie on the plate of a reel. -/
structure Inv (n : Nat) (P : Pl) (H : Nat → Hs) : Prop where
  good : P.Good
  len : P.sure.length = n
  n60 : n ≤ 60
  ok : ∀ q, (H q).Ok
  sync : P.last = layAll P.sure P.loose
  nod : (P.loose.map (·.1)).Nodup
  sureL : LgAll n H P.sure
  looseL : ∀ x ∈ P.loose, ∃ s k R, Loose n H P.sure x s k R
  odd : ∀ c, P.sure[n / 2 + n / 2]? = some c → numC c 0 = 0 ∧ numC c 56 = 0
  top : ∀ c ∈ P.sure, numC c 0 / 65536 ≤ topL P.last ∧ numC c 56 / 65536 ≤ topL P.last

theorem idx_inj {n s s' k k' : Nat} (hs : s ≤ 1) (hs' : s' ≤ 1) (hk : k < n / 2) (hk' : k' < n / 2) (h : s * (n / 2) + k = s' * (n / 2) + k') : s = s' ∧ k = k' := by
  rcases Nat.le_one_iff_eq_zero_or_eq_one.1 hs with rfl | rfl <;> rcases Nat.le_one_iff_eq_zero_or_eq_one.1 hs' with rfl | rfl <;> omega
theorem idx_lt {n s k : Nat} (hs : s ≤ 1) (hk : k < n / 2) : s * (n / 2) + k < n := by
  rcases Nat.le_one_iff_eq_zero_or_eq_one.1 hs with rfl | rfl <;> omega

section
variable {n : Nat} {P : Pl} {H : Nat → Hs}

/-- Whatever is kept, lost or torn may lie there. -/
theorem Inv.outcome (h : Inv n P H) {S : List (List Nat)} (hS1 : ∀ i, (∀ x ∈ P.loose, x.1 ≠ i) → S[i]? = P.sure[i]?) (hS2 : ∀ x ∈ P.loose, ∃ m, m ≤ 64 ∧ S[x.1]? = some (tear m x.2 (P.sure.getD x.1 []))) :
    LgAll n H S ∧ (∀ s k r, s ≤ 1 → k < n / 2 → 1 ≤ r → bearAt n S s r k → bearAt n P.sure s r k ∨ ∃ x ∈ P.loose, Loose n H P.sure x s k r) ∧ (∀ s k r, s ≤ 1 → k < n / 2 → bearAt n P.sure s r k → (∀ x ∈ P.loose, x.1 ≠ s * (n / 2) + k) → bearAt n S s r k) := by
  have hcase : ∀ s k c, s ≤ 1 → k < n / 2 → S[s * (n / 2) + k]? = some c → (P.sure[s * (n / 2) + k]? = some c) ∨ ∃ x ∈ P.loose, ∃ R p co m, Loose n H P.sure x s k R ∧ m ≤ 64 ∧ (H R).pc[k]? = some p ∧ P.sure[s * (n / 2) + k]? = some co ∧ c = tear m (markedC (markN R k) p) co := by
    intro s k c hs hk hc
    by_cases hx : ∀ x ∈ P.loose, x.1 ≠ s * (n / 2) + k
    · exact .inl (by rw [← hS1 _ hx]; exact hc)
    · refine .inr ?_
      have : ∃ x, x ∈ P.loose ∧ x.1 = s * (n / 2) + k := by
        apply Classical.byContradiction
        intro hno
        exact hx (fun x hx e => hno ⟨x, hx, e⟩)
      obtain ⟨x, hx, e⟩ := this
      obtain ⟨s', k', R, hl⟩ := h.looseL x hx
      obtain ⟨rfl, rfl⟩ := idx_inj hs hl.s1 hk hl.k1 (e.symm.trans hl.at_)
      obtain ⟨m, hm, hSx⟩ := hS2 x hx
      rw [e, hc] at hSx
      obtain ⟨p, hp1, hp2⟩ := hl.put
      have hlt : s * (n / 2) + k < P.sure.length := by rw [h.len]; exact idx_lt hs hk
      refine ⟨x, hx, R, p, P.sure.getD (s * (n / 2) + k) [], m, hl, hm, hp1, ?_, ?_⟩
      · rw [List.getD_eq_getElem?_getD, List.getElem?_eq_getElem hlt]; rfl
      · rw [← hp2]; exact Option.some.inj hSx
  refine ⟨fun s k c hs hk hc => ?_, fun s k r hs hk hr hb => ?_, fun s k r hs hk hb hno => ?_⟩
  · rcases hcase s k c hs hk hc with hc | ⟨x, hx, R, p, co, m, hl, hm, hp, hco, rfl⟩
    · exact h.sureL s k c hs hk hc
    · have hn := h.n60
      exact (h.sureL s k co hs hk hco).tear (by omega) hl.R1 hl.R2 hl.side (h.ok R) hp (hl.fresh co (by rw [hl.at_]; exact hco)).2 m hm
  · obtain ⟨c, hc, hb⟩ := hb
    rcases hcase s k c hs hk hc with hc | ⟨x, hx, R, p, co, m, hl, hm, hp, hco, rfl⟩
    · exact .inl ⟨c, hc, hb⟩
    · have hn := h.n60
      have hxx := (h.ok R).each p (List.mem_of_getElem? hp)
      have hL := h.sureL s k co hs hk hco
      rcases tear_bears hl.R1 (by have := hl.R2; omega) (by omega) hxx.1 hxx.2 hL.is hL.b.low hL.e.low (hl.fresh co (by rw [hl.at_]; exact hco)).2 m hm hr hb with ⟨b1, _⟩ | ⟨rfl, _⟩
      · exact .inl ⟨co, hco, b1⟩
      · exact .inr ⟨x, hx, hl⟩
  · obtain ⟨c, hc, hb⟩ := hb
    exact ⟨c, by rw [hS1 _ hno]; exact hc, hb⟩

theorem Inv.fails (h : Inv n P H) (keep : List Nat) (torn at_ : Int) : (∀ i, (∀ x ∈ P.loose, x.1 ≠ i) → (failL keep torn at_ 0 P.loose P.sure)[i]? = P.sure[i]?) ∧ (∀ x ∈ P.loose, ∃ m, m ≤ 64 ∧ (failL keep torn at_ 0 P.loose P.sure)[x.1]? = some (tear m x.2 (P.sure.getD x.1 []))) :=
  ⟨fun _i hi => fail_other _ _ _ _ _ _ _ hi, fun x hx => fail_at _ _ _ _ _ _ h.nod x hx (h.good.lo x hx).1⟩
theorem Inv.lasts (h : Inv n P H) : (∀ i, (∀ x ∈ P.loose, x.1 ≠ i) → P.last[i]? = P.sure[i]?) ∧ (∀ x ∈ P.loose, P.last[x.1]? = some x.2) := by
  rw [h.sync]
  exact ⟨fun i hi => lay_other _ _ _ hi, fun x hx => lay_at _ _ h.nod x hx (h.good.lo x hx).1⟩
theorem Inv.last_out (h : Inv n P H) : ∀ x ∈ P.loose, ∃ m, m ≤ 64 ∧ P.last[x.1]? = some (tear m x.2 (P.sure.getD x.1 [])) := fun x hx => by
  have hx2 := h.good.lo x hx
  exact ⟨64, Nat.le_refl _, by rw [tear_all hx2.2 (getD_cell h.good.cs hx2.1)]; exact h.lasts.2 x hx⟩
theorem Inv.lastL (h : Inv n P H) : LgAll n H P.last := (h.outcome h.lasts.1 h.last_out).1

/-- What stands on a side of such cells. -/
theorem row_legit {S : List (List Nat)} (hl : S.length = n) (_hn : n ≤ 60) (hS : LgAll n H S) (ho : ∀ q, (H q).Ok) {s : Nat} (hs : s ≤ 1) :
    (rowOf S (s : Int) = (0, [], 0) ∧ ∀ r, 1 ≤ r → 0 < n / 2 → ¬ bearAt n S s r 0) ∨ ∃ r j, 1 ≤ r ∧ r ≤ 200 ∧ (H r).side = s ∧ 1 ≤ j ∧ j ≤ (H r).m ∧ j ≤ n / 2 ∧ (rowOf S (s : Int)).1 = r ∧ (rowOf S (s : Int)).2 = parse 1 ((((H r).pc.take j).map pad).flatten) ∧ (rowOf S (s : Int)).2.1 = ((H r).t :: (H r).ws).take (cntF (sizesT (H r).t (H r).ws) j) ∧ (∀ k, k < j → bearAt n S s r k) ∧ (j < n / 2 → ¬ bearAt n S s r j) := by
  have hget : ∀ k, k < n / 2 → (sideL S s)[k]? = S[s * (n / 2) + k]? := fun k hk => by
    rw [sideL_get? S hs (by rw [hl]; exact hk), hl]
  have hlen : (sideL S s).length = n / 2 := by rw [sideL_len S hs, hl]
  have hread := readL_side S hs
  have hone : ∀ r k, k < n / 2 → bearAt n S s r k → ∃ c, (sideL S s)[k]? = some c ∧ bearsC c (markN r k) = true := fun r k hk ⟨c, hc, hb⟩ => ⟨c, by rw [hget k hk]; exact hc, hb⟩
  rcases read_legit (H := H) (s := s) (sideL S s) (fun i c hc => by
    have hi := (List.getElem?_eq_some_iff.1 hc).1
    rw [hlen] at hi
    rw [hget i hi] at hc
    exact hS s i c hs hi hc) with hz | ⟨r, j, h1, h2, h3, h4, h5, h6, h7, h8, h9⟩
  · refine .inl ⟨?_, fun r hr h0 hb => ?_⟩
    · unfold rowOf
      rw [hread, hz]
      simp only [List.flatten_nil]
      rw [parse_zero (by rw [frameAt_nil])]
    · obtain ⟨c, hc, hb⟩ := hb
      rw [← hget 0 h0] at hc
      have hm := hb
      simp only [bearsC, Bool.and_eq_true, beq_iff_eq] at hm
      cases hSS : sideL S s with
      | nil => rw [hSS] at hc; simp at hc
      | cons d T =>
        have hcl := hS s 0 c hs h0 (by rw [← hget 0 h0]; exact hc)
        rw [hSS] at hc hz
        simp at hc
        subst hc
        have hd : numC d 0 / 65536 = r := by rw [hm.1]; unfold markN; omega
        have hr2 : r ≤ 200 := by
          rcases hcl.b with hb0 | hb0 | ⟨r', _, k2, k3, _⟩
          · rw [hm.1] at hb0; unfold markN at hb0; omega
          · rw [hm.1] at hb0; unfold markN at hb0; omega
          · rw [hm.1] at k3; unfold markN at k3; omega
        have hcond : (isRoundB r && bearsC d (markN r 0)) = true := by
          rw [hb, Bool.and_true]
          simp only [isRoundB, Bool.and_eq_true, decide_eq_true_eq]
          omega
        have hf : firstR (d :: T) = r := by
          show (if isRoundB (numC d 0 / 65536) && bearsC d (markN (numC d 0 / 65536) 0) then numC d 0 / 65536 else 0) = r
          rw [hd, if_pos hcond]
        unfold readS at hz
        rw [hf, if_neg (by omega)] at hz
        have := congrArg Prod.fst hz
        simp only at this
        omega
  · rw [hlen] at h6
    rw [(ho r).len] at h5
    have hrow : rowOf S (s : Int) = (r, parse 1 ((((H r).pc.take j).map pad).flatten)) := by
      unfold rowOf
      rw [hread, h7]
    refine .inr ⟨r, j, h1, h2, h3, h4, h5, h6, by rw [hrow], by rw [hrow], by rw [hrow]; exact parse_hs (ho r) h5, fun k hk => ?_, fun hj hb => ?_⟩
    · have hlt : k < (sideL S s).length := by rw [hlen]; omega
      have hc := List.getElem?_eq_getElem hlt
      exact ⟨_, by rw [← hget k (by omega)]; exact hc, h8 k _ hk hc⟩
    · obtain ⟨c, hc, hb⟩ := hone r j hj hb
      rw [h9 c hc] at hb
      cases hb
end
end

/- RlInv2: What is put, made sure and lost keeps to what may lie on a plate, in plain words. -/
section
set_option maxRecDepth 100000

def upH (H : Nat → Hs) (rd : Nat) (h : Hs) : Nat → Hs := fun q => if q = rd then h else H q
theorem upH_same (H : Nat → Hs) (rd : Nat) (h : Hs) : upH H rd h rd = h := by simp [upH]
theorem upH_other (H : Nat → Hs) {rd q : Nat} (h : Hs) (hq : q ≠ rd) : upH H rd h q = H q := by simp [upH, hq]

theorem mkL_mem {base rd : Nat} {cs : List (List Nat)} : ∀ {at_ : Nat} {x : Nat × List Nat}, x ∈ mkL base rd at_ cs → ∃ i c, cs[i]? = some c ∧ x = (base + at_ + i, markedC (markN rd (at_ + i)) c) := by
  intro at_ x hx
  obtain ⟨i, hi⟩ := List.mem_iff_getElem?.1 hx
  have hlt := (List.getElem?_eq_some_iff.1 hi).1
  rw [mkL_len] at hlt
  have := mkL_get base rd cs at_ i _ (List.getElem?_eq_getElem hlt)
  rw [hi] at this
  exact ⟨i, _, List.getElem?_eq_getElem hlt, Option.some.inj this⟩
theorem mkL_nodup (base rd : Nat) (cs : List (List Nat)) : ∀ at_, ((mkL base rd at_ cs).map (·.1)).Nodup := by
  induction cs with
  | nil => intro at_; simp [mkL]
  | cons c r ih =>
    intro at_
    simp only [mkL, List.map_cons, List.nodup_cons]
    refine ⟨fun h => ?_, ih _⟩
    obtain ⟨x, hx, e⟩ := List.mem_map.1 h
    have := mkL_bounds base rd r (at_ + 1) x hx
    omega

section
variable {n : Nat} {P : Pl} {H : Nat → Hs}

theorem topL_get {s : List (List Nat)} {c : List Nat} (h : c ∈ s) : numC c 0 / 65536 ≤ topL s ∧ numC c 56 / 65536 ≤ topL s := by
  have := topM_ge h
  exact ⟨Nat.div_le_div_right this.1, Nat.div_le_div_right this.2⟩

/-- Pieces of a round are put. -/
theorem Inv.puts (h : Inv n P H) {s rd at_ : Nat} {cs : List (List Nat)} {h' : Hs} (hs : s ≤ 1) (hr1 : 1 ≤ rd) (hr2 : rd ≤ 200) (ha : at_ + cs.length ≤ n / 2) (hside : h'.side = s) (hok : h'.Ok) (hm : h'.m = at_ + cs.length) (hpc : ∀ i c, cs[i]? = some c → h'.pc[at_ + i]? = some c)
    (hfresh : ∀ k c, at_ ≤ k → k < n / 2 → P.sure[s * (n / 2) + k]? = some c → numC c 0 ≠ markN rd k ∧ numC c 56 ≠ markN rd k) (hno : ∀ k, at_ ≤ k → k < n / 2 → ∀ x ∈ P.loose, x.1 ≠ s * (n / 2) + k)
    (hmono : ∀ s' k, s' ≤ 1 → k < n / 2 → ((∃ c, P.sure[s' * (n / 2) + k]? = some c ∧ (numC c 0 = markN rd k ∨ numC c 56 = markN rd k)) ∨ ∃ x ∈ P.loose, Loose n H P.sure x s' k rd) → h'.side = (H rd).side ∧ (k < (H rd).m → k < h'.m) ∧ ((H rd).pc[k]? = none ∨ h'.pc[k]? = (H rd).pc[k]?))
    (htop : topL P.last ≤ rd) {P' : Pl} (hg : P'.Good) (e1 : P'.sure = P.sure) (e2 : P'.last = layAll P.last (mkL (s * (n / 2)) rd at_ cs)) (e3 : P'.loose = P.loose ++ mkL (s * (n / 2)) rd at_ cs) : Inv n P' (upH H rd h') := by
  have hfew : ∀ k, k < h'.m → ∃ p, h'.pc[k]? = some p := fun k hk => ⟨_, List.getElem?_eq_getElem (by rw [hok.len]; exact hk)⟩
  have hLg : LgAll n (upH H rd h') P.sure := fun s' k c hs' hk hc => by
    refine (h.sureL s' k c hs' hk hc).mono (fun r _ hn => ?_)
    by_cases hrr : r = rd
    · subst hrr
      rw [upH_same]
      exact hmono s' k hs' hk (.inl ⟨c, hc, hn⟩)
    · rw [upH_other H h' hrr]
      exact ⟨rfl, fun h => h, .inr rfl⟩
  have hlay : P'.last = layAll P'.sure P'.loose := by rw [e1, e2, e3, layAll_append, ← h.sync]
  refine ⟨hg, by rw [e1]; exact h.len, h.n60, fun q => ?_, hlay, ?_, by rw [e1]; exact hLg, fun x hx => ?_, by rw [e1]; exact h.odd, fun c hc => ?_⟩
  · by_cases hq : q = rd
    · subst hq; rw [upH_same]; exact hok
    · rw [upH_other H h' hq]; exact h.ok q
  · rw [e3, List.map_append, List.nodup_append]
    refine ⟨h.nod, mkL_nodup _ _ _ _, fun a ha1 b hb1 hab => ?_⟩
    obtain ⟨x, hx, rfl⟩ := List.mem_map.1 ha1
    obtain ⟨y, hy, rfl⟩ := List.mem_map.1 hb1
    obtain ⟨i, c, hi, rfl⟩ := mkL_mem hy
    have hil := (List.getElem?_eq_some_iff.1 hi).1
    exact hno (at_ + i) (by omega) (by omega) x hx (by rw [hab]; simp only; omega)
  · rw [e3] at hx
    rw [e1]
    rcases List.mem_append.1 hx with hxl | hxm
    · obtain ⟨s', k, R, hl⟩ := h.looseL x hxl
      refine ⟨s', k, R, hl.s1, hl.k1, hl.at_, hl.R1, hl.R2, ?_, ?_, ?_, hl.fresh⟩
      · by_cases hq : R = rd
        · subst hq; rw [upH_same]; exact (hmono s' k hl.s1 hl.k1 (.inr ⟨x, hxl, hl⟩)).1.trans hl.side
        · rw [upH_other H h' hq]; exact hl.side
      · by_cases hq : R = rd
        · subst hq; rw [upH_same]; exact (hmono s' k hl.s1 hl.k1 (.inr ⟨x, hxl, hl⟩)).2.1 hl.few
        · rw [upH_other H h' hq]; exact hl.few
      · obtain ⟨p, hp1, hp2⟩ := hl.put
        refine ⟨p, ?_, hp2⟩
        by_cases hq : R = rd
        · subst hq
          rw [upH_same]
          rcases (hmono s' k hl.s1 hl.k1 (.inr ⟨x, hxl, hl⟩)).2.2 with he | he
          · rw [hp1] at he; cases he
          · rw [he]; exact hp1
        · rw [upH_other H h' hq]; exact hp1
    · obtain ⟨i, c, hi, rfl⟩ := mkL_mem hxm
      have hil := (List.getElem?_eq_some_iff.1 hi).1
      refine ⟨s, at_ + i, rd, hs, by omega, by simp only; omega, hr1, hr2, by rw [upH_same]; exact hside, by rw [upH_same, hm]; omega, ⟨c, by rw [upH_same]; exact hpc i c hi, rfl⟩, fun d hd => hfresh (at_ + i) d (by omega) (by omega) (by rw [← hd]; simp only [Nat.add_assoc])⟩
  · rw [e1] at hc
    have h1 := h.top c hc
    have hle : topL P.last ≤ topL P'.last := by
      rw [e2]
      by_cases hz : cs = []
      · subst hz; exact Nat.le_refl _
      · obtain ⟨d, hd⟩ : ∃ d, cs[0]? = some d := by
          cases cs with
          | nil => exact absurd rfl hz
          | cons d r => exact ⟨d, rfl⟩
        have hcl := (hok.each d (List.mem_of_getElem? (hpc 0 d hd))).1
        have hget := lay_mkL (s * (n / 2)) rd cs at_ P.last 0 d (by rw [h.good.size, h.len]; rcases Nat.le_one_iff_eq_zero_or_eq_one.1 hs with rfl | rfl <;> omega) hd
        have := (topL_get (List.mem_of_getElem? hget)).1
        have hn := h.n60
        rw [(numC_marked (show markN rd (at_ + 0) < 18446744073709551616 by unfold markN; omega) hcl).1] at this
        unfold markN at this
        omega
    omega

theorem Inv.same (h : Inv n P H) {P' : Pl} (hg : P'.Good) (e1 : P'.sure = P.sure) (e2 : P'.last = P.last) (e3 : P'.loose = P.loose) : Inv n P' H :=
  ⟨hg, by rw [e1]; exact h.len, h.n60, h.ok, by rw [e1, e2, e3]; exact h.sync, by rw [e3]; exact h.nod, by rw [e1]; exact h.sureL, by rw [e3, e1]; exact h.looseL, by rw [e1]; exact h.odd, by rw [e1, e2]; exact h.top⟩

/-- All is one: made sure, or behind a loss. -/
theorem Inv.settled (h : Inv n P H) {P' : Pl} (hg : P'.Good) {S : List (List Nat)} (e1 : P'.sure = S) (e2 : P'.last = S) (e3 : P'.loose = []) (hl : S.length = n) (hS1 : ∀ i, (∀ x ∈ P.loose, x.1 ≠ i) → S[i]? = P.sure[i]?) (hS2 : ∀ x ∈ P.loose, ∃ m, m ≤ 64 ∧ S[x.1]? = some (tear m x.2 (P.sure.getD x.1 []))) : Inv n P' H := by
  refine ⟨hg, by rw [e1]; exact hl, h.n60, h.ok, by rw [e1, e2, e3]; rfl, by rw [e3]; exact List.nodup_nil, by rw [e1]; exact (h.outcome hS1 hS2).1, fun x hx => by rw [e3] at hx; simp at hx, fun c hc => ?_, fun c hc => ?_⟩
  · rw [e1, hS1 _ (fun x hx e => by
      obtain ⟨s, k, R, hl⟩ := h.looseL x hx
      have h1 := hl.at_
      have h2 := hl.k1
      rcases Nat.le_one_iff_eq_zero_or_eq_one.1 hl.s1 with h3 | h3 <;> rw [h3] at h1 <;> omega)] at hc
    exact h.odd c hc
  · rw [e1] at hc
    rw [e2]
    exact topL_get hc
theorem Inv.flushed (h : Inv n P H) (ho : P.flush.1 = 0) : Inv n P.flush.2 H ∧ P.flush.2.sure = P.last ∧ P.flush.2.last = P.last ∧ P.flush.2.loose = [] ∧ P.flush.2.off = false ∧ P.off = false := by
  have hg := h.good.flush
  rcases P.spend_cases with ⟨e1, eo, _, e2⟩ | ⟨e1, _⟩
  · have hf : P.flush = (0, { P.spend.2 with sure := layAll P.sure P.loose, loose := [] }) := by unfold Pl.flush; rw [e1]; rfl
    have s1 : P.flush.2.sure = P.last := by rw [hf, h.sync]
    have s2 : P.flush.2.last = P.last := by rw [hf]; exact P.spend_kept.2.1
    have s3 : P.flush.2.loose = [] := by rw [hf]
    have s4 : P.flush.2.off = false := by rw [hf]; simp only [e2]; exact eo
    exact ⟨h.settled hg s1 s2 s3 (by rw [h.good.size, h.len]) h.lasts.1 h.last_out, s1, s2, s3, s4, eo⟩
  · have : P.flush.1 = 72 := by unfold Pl.flush; rw [e1]; rfl
    rw [this] at ho
    cases ho
theorem flush_fails {P : Pl} (ho : P.flush.1 ≠ 0) : P.flush.1 = 72 ∧ P.flush.2.sure = P.sure ∧ P.flush.2.last = P.last ∧ P.flush.2.loose = P.loose ∧ P.flush.2.off = true := by
  rcases P.spend_cases with ⟨e1, _, _, e2⟩ | ⟨e1, e2⟩
  · have : P.flush.1 = 0 := by unfold Pl.flush; rw [e1]; rfl
    exact absurd this ho
  · have hf : P.flush = (72, P.spend.2) := by unfold Pl.flush; rw [e1]; rfl
    rw [hf]
    exact ⟨rfl, P.spend_kept.1, P.spend_kept.2.1, P.spend_kept.2.2, by rw [e2]⟩
theorem Inv.failed (h : Inv n P H) (keep : List Nat) (torn at_ : Int) : Inv n (P.fail keep torn at_) H :=
  h.settled (h.good.fail keep torn at_) rfl rfl rfl (by show (failL keep torn at_ 0 P.loose P.sure).length = n; rw [failL_len, h.len]) (h.fails keep torn at_).1 (h.fails keep torn at_).2
theorem Inv.new {n : Nat} (hn : n ≤ 60) : Inv n (Pl.new n) (fun _ => ⟨0, [], [], 0⟩) := by
  have hz : ∀ i c, (List.replicate n zeroC)[i]? = some c → c = zeroC := fun i c hc => (List.mem_replicate.1 (List.mem_of_getElem? hc)).2
  have hzero := Lg.zero (fun _ => ⟨0, [], [], 0⟩)
  refine ⟨Pl.Good.new (by omega), by simp [Pl.new], hn, fun q => ⟨⟨by simp, fun _ h => by simp at h⟩, fun x hx => by simp at hx, Nat.zero_le _⟩, rfl, List.nodup_nil, fun s k c _ _ hc => by rw [hz _ c hc]; exact hzero s k, fun x hx => by simp [Pl.new] at hx, fun c hc => ?_, fun c hc => topL_get hc⟩
  have h1 := (hzero 0 0).b
  rw [hz _ c hc]
  have h0 : ∀ o, numC zeroC o = 0 := fun o => by
    unfold numC zeroC
    have : ∀ l : List Nat, (∀ x ∈ l, x = 0) → numLE l = 0 := fun l => by
      induction l with
      | nil => intro _; rfl
      | cons x r ih => intro h; simp only [numLE]; rw [ih (fun y hy => h y (by simp [hy])), h x (by simp)]
    exact this _ (fun x hx => (List.mem_replicate.1 (List.mem_of_mem_drop (List.mem_of_mem_take hx))).2)
  exact ⟨h0 0, h0 56⟩

/-- Whatever stands there bears no round above the top, and none stands on both sides. -/
theorem Inv.bear_top (h : Inv n P H) {s k r : Nat} (hb : bearAt n P.sure s r k) : r ≤ topL P.last := by
  obtain ⟨c, hc, hb⟩ := hb
  simp only [bearsC, Bool.and_eq_true, beq_iff_eq] at hb
  have := (h.top c (List.mem_of_getElem? hc)).1
  by_cases hk : k < 65535
  · rw [hb.1] at this
    unfold markN at this
    omega
  · rw [hb.1] at this
    unfold markN at this
    omega
theorem bear_legit {S : List (List Nat)} (hS : LgAll n H S) {s k r : Nat} (hs : s ≤ 1) (hk : k < n / 2) (hr : 1 ≤ r) (hb : bearAt n S s r k) : (H r).side = s ∧ k < (H r).m ∧ r ≤ 200 := by
  obtain ⟨c, hc, hb⟩ := hb
  simp only [bearsC, Bool.and_eq_true, beq_iff_eq] at hb
  rcases (hS s k c hs hk hc).b with h0 | h0 | ⟨q, h1, h2, h3, h4, h5⟩
  · rw [hb.1] at h0; unfold markN at h0; omega
  · rw [hb.1] at h0; unfold markN at h0; omega
  · have : r = q := by rw [hb.1] at h3; unfold markN at h3; omega
    subst this
    exact ⟨h4, h5, h2⟩
end
end

/- RlHold: What was sure is there, in plain words. -/
section
set_option maxRecDepth 100000

theorem nodup_len : ∀ (n : Nat) (l : List Nat), l.Nodup → (∀ x ∈ l, x < n) → l.length ≤ n := by
  intro n
  induction n with
  | zero =>
    intro l _ h
    cases l with
    | nil => simp
    | cons x r => exact absurd (h x (by simp)) (by omega)
  | succ n ih =>
    intro l hn h
    have h1 := ih (l.erase n) (hn.erase n) (fun x hx => by
      have h2 := (hn.mem_erase_iff).1 hx
      have := h x h2.2
      omega)
    rw [List.length_erase] at h1
    split at h1 <;> omega
theorem Inv.few {n : Nat} {P : Pl} {H : Nat → Hs} (h : Inv n P H) : P.loose.length ≤ n := by
  have := nodup_len n (P.loose.map (·.1)) h.nod (fun x hx => by
    obtain ⟨y, hy, rfl⟩ := List.mem_map.1 hx
    have := (h.good.lo y hy).1
    rw [h.len] at this
    exact this)
  rwa [List.length_map] at this

theorem putC_good (side : Int) (rd : Nat) (cs : List (List Nat)) : ∀ (P : Pl) (at_ : Nat), P.Good → (∀ c ∈ cs, Bytes c) → P.loose.length + cs.length ≤ 100000 → (P.putC side rd at_ cs).2.Good := by
  induction cs with
  | nil => intro P at_ h _ _; exact h
  | cons c r ih =>
    intro P at_ h hb hl
    simp only [List.length_cons] at hl
    have hg := mput_good h side rd (at_ : Int) (hb c (by simp)) (by omega)
    have hf := mput_few P side rd (at_ : Int) c
    simp only [Pl.putC]
    split
    · exact ih _ _ hg (fun d hd => hb d (by simp [hd])) (by omega)
    · exact hg

/-- What the pieces of a frame that are put come to. -/
theorem Inv.putC {n : Nat} {P : Pl} {H : Nat → Hs} (h : Inv n P H) {s rd at_ : Nat} {cs : List (List Nat)} (hs : s ≤ 1) (hr1 : 1 ≤ rd) (hr2 : rd ≤ 200) (ha : at_ + cs.length ≤ n / 2) (hc : ∀ c ∈ cs, c.length ≤ 48 ∧ Bytes c) :
    ∃ j, j ≤ cs.length ∧ (P.putC (s : Int) rd at_ cs).2.Good ∧ (P.putC (s : Int) rd at_ cs).2.sure = P.sure ∧ (P.putC (s : Int) rd at_ cs).2.last = layAll P.last (mkL (s * (n / 2)) rd at_ (cs.take j)) ∧ (P.putC (s : Int) rd at_ cs).2.loose = P.loose ++ mkL (s * (n / 2)) rd at_ (cs.take j) ∧
      (((P.putC (s : Int) rd at_ cs).1 = 0 ∧ j = cs.length ∧ (P.putC (s : Int) rd at_ cs).2.off = P.off) ∨ ((P.putC (s : Int) rd at_ cs).1 = 72 ∧ (P.putC (s : Int) rd at_ cs).2.off = true ∧ (P.off = true → j = 0))) := by
  have hn := h.n60
  have hfew := h.few
  obtain ⟨j, l', o', hj, h3, h4, _⟩ := putC_runs s rd hs hr1 (by omega) cs P at_ (by rw [h.len]; exact ha) (fun c hcc => (hc c hcc).1)
  rw [h.len] at h3
  refine ⟨j, hj, putC_good _ _ cs P at_ h.good (fun c hcc => (hc c hcc).2) (by omega), by rw [h3], by rw [h3], by rw [h3], ?_⟩
  rcases h4 with ⟨a1, a2, a3, _⟩ | ⟨a1, a2, a3⟩
  · exact .inl ⟨a1, a2, by rw [h3]; exact a3⟩
  · exact .inr ⟨a1, by rw [h3]; exact a2, a3⟩

/-- Whatever round stands at the beginning of a side, it is an older one, or a part of its tale is not there. -/
def OS (n : Nat) (H : Nat → Hs) (S : List (List Nat)) (s b : Nat) : Prop := ∀ q, 1 ≤ q → bearAt n S s q 0 → q < b ∨ ∃ k, k < cellsN (H q).t.length ∧ k < n / 2 ∧ ¬ bearAt n S s q k

/-- A tale that is sure, with so many pieces at least and at most. -/
structure Base (n : Nat) (r : Rl) (H : Nat → Hs) (nt : List Nat) (nw : List (List Nat)) (su rb j0 hi : Nat) : Prop where
  rb1 : 1 ≤ rb
  hside : (H rb).side = r.side
  tale : (H rb).t = nt
  j0hi : j0 ≤ hi
  him : hi ≤ (H rb).m
  hin : hi ≤ n / 2
  there : ∀ k, k < j0 → bearAt n r.P.sure r.side rb k
  ends : hi < n / 2 → ¬ bearAt n r.P.sure r.side rb hi
  loose : ∀ x ∈ r.P.loose, ∀ k R, Loose n H r.P.sure x r.side k R → R = rb ∧ j0 ≤ k ∧ k < hi
  least : 1 + su ≤ cntF (sizesT (H rb).t (H rb).ws) j0
  most : (H rb).ws.take (cntF (sizesT (H rb).t (H rb).ws) hi - 1) <+: nw
  oth : OS n H r.P.sure (1 - r.side) rb
  ready : r.ready = true → (H rb).m = hi ∧ hi = (piecesT (H rb).t (H rb).ws).length ∧ (H rb).ws = nw ∧ (∀ k, k < hi → bearAt n r.P.last r.side rb k) ∧ topL r.P.last ≤ rb

/-- No tale is whole. -/
structure None (n : Nat) (r : Rl) (H : Nat → Hs) (nt : List Nat) (nw : List (List Nat)) (su : Nat) : Prop where
  tale : nt = []
  words : nw = []
  least : su = 0
  ready : r.ready = false
  side : r.side = 1
  zero : OS n H r.P.sure 0 0
  one : OS n H r.P.sure 1 0
  loose : ∀ x ∈ r.P.loose, ∀ k R, ¬ Loose n H r.P.sure x 1 k R

structure Hold (n : Nat) (r : Rl) (H : Nat → Hs) (T : Nat) (nt : List Nat) (nw : List (List Nat)) (su : Nat) (nx : List Nat) (bg : Bool) : Prop where
  inv : Inv n r.P H
  n4 : 4 ≤ n
  side : r.side ≤ 1
  top : topL r.P.last ≤ T
  fitT : ∀ q, cellsN (H q).t.length ≤ n / 2
  offb : bg = true → r.P.off = true
  loose : ∀ x ∈ r.P.loose, ∀ k R, Loose n H r.P.sure x (1 - r.side) k R → bg = true ∧ (H R).t = nx ∧ (H R).ws = []
  base : None n r H nt nw su ∨ ∃ rb j0 hi, Base n r H nt nw su rb j0 hi

section
variable {n : Nat} {r : Rl} {H : Nat → Hs} {T : Nat} {nt nx : List Nat} {nw : List (List Nat)} {su : Nat} {bg : Bool}

theorem Hold.new (hn : n ≤ 60) (h4 : 4 ≤ n) : Hold n ⟨Pl.new n, 1, false⟩ (fun _ => ⟨0, [], [], 0⟩) 0 [] [] 0 [] false := by
  have hi := Inv.new hn
  have hno : ∀ s q, 1 ≤ q → s ≤ 1 → ¬ bearAt n (Pl.new n).sure s q 0 := fun s q hq hs hb => by
    have := (bear_legit hi.sureL hs (by omega) hq hb).2.1
    simp at this
  refine ⟨hi, h4, Nat.le_refl _, ?_, fun q => ?_, (fun h => by cases h), fun x hx => by simp [Pl.new] at hx, .inl ⟨rfl, rfl, rfl, rfl, rfl, fun q hq hb => absurd hb (hno 0 q hq (by omega)), fun q hq hb => absurd hb (hno 1 q hq (by omega)), fun x hx => by simp [Pl.new] at hx⟩⟩
  · have : topM (List.replicate n zeroC) ≤ 0 := topM_le (fun c hc => by
      rw [(List.mem_replicate.1 hc).2]
      exact ⟨Nat.le_of_eq (by decide +kernel), Nat.le_of_eq (by decide +kernel)⟩)
    show topM (List.replicate n zeroC) / 65536 ≤ 0
    omega
  · show cellsN 0 ≤ n / 2
    unfold cellsN
    rw [if_pos (by omega), numL_small (by omega)]
    simp
    omega

theorem Hold.limit (h : Hold n r H T nt nw su nx bg) {m : Int} (hm : m ≤ 9223372036854775807) : Hold n ⟨r.P.limit m, r.side, r.ready⟩ H T nt nw su nx bg := by
  refine ⟨h.inv.same (h.inv.good.limit hm) rfl rfl rfl, h.n4, h.side, h.top, h.fitT, h.offb, h.loose, ?_⟩
  rcases h.base with b | ⟨rb, j0, hi, b⟩
  · exact .inl ⟨b.tale, b.words, b.least, b.ready, b.side, b.zero, b.one, b.loose⟩
  · exact .inr ⟨rb, j0, hi, b.rb1, b.hside, b.tale, b.j0hi, b.him, b.hin, b.there, b.ends, b.loose, b.least, b.most, b.oth, b.ready⟩
/-- The power ends, or the reel isn't ready any more. -/
theorem Hold.off (h : Hold n r H T nt nw su nx bg) {P' : Pl} (hg : P'.Good) (e1 : P'.sure = r.P.sure) (e2 : P'.last = r.P.last) (e3 : P'.loose = r.P.loose) (ho : P'.off = true) : Hold n ⟨P', r.side, false⟩ H T nt nw su nx bg := by
  refine ⟨h.inv.same hg e1 e2 e3, h.n4, h.side, by rw [e2]; exact h.top, h.fitT, fun _ => ho, by rw [e1, e3]; exact h.loose, ?_⟩
  rcases h.base with b | ⟨rb, j0, hi, b⟩
  · exact .inl ⟨b.tale, b.words, b.least, rfl, b.side, by rw [e1]; exact b.zero, by rw [e1]; exact b.one, by rw [e1, e3]; exact b.loose⟩
  · exact .inr ⟨rb, j0, hi, b.rb1, b.hside, b.tale, b.j0hi, b.him, b.hin, by rw [e1]; exact b.there, by rw [e1]; exact b.ends, by rw [e1, e3]; exact b.loose, b.least, b.most, by rw [e1]; exact b.oth, (fun h => by cases h)⟩

theorem Hold.more (h : Hold n r H T nt nw su nx bg) {T' : Nat} (hT : T ≤ T') : Hold n r H T' nt nw su nx bg := ⟨h.inv, h.n4, h.side, Nat.le_trans h.top hT, h.fitT, h.offb, h.loose, h.base⟩

theorem sizes_sum {t : List Nat} {ws : List (List Nat)} (ht : Word t) (hw : ∀ x ∈ ws, Word x) : (sizesT t ws).sum = (piecesT t ws).length := by
  have h2 : (piecesW ws).length = (ws.map fun x => cellsN x.length).sum := by
    induction ws with
    | nil => rfl
    | cons x r ih =>
      have e : piecesW (x :: r) = chunksL (frameL 2 x) ++ piecesW r := by simp [piecesW]
      rw [e, List.length_append, frame_cells 2 (hw x (by simp)).1, ih (fun y hy => hw y (by simp [hy])), List.map_cons, List.sum_cons]
  rw [sizesT, List.sum_cons, piecesT, List.length_append, frame_cells 1 ht.1, h2]

/-- Flush. -/
theorem Hold.flush (h : Hold n r H T nt nw su nx bg) : ((r.flush).1 = 0 ∧ Hold n r.flush.2 H T nt nw nw.length nx bg) ∨ ((r.flush).1 ≠ 0 ∧ Hold n r.flush.2 H T nt nw su nx bg) := by
  unfold Rl.flush
  cases hr : r.ready with
  | false => exact .inr ⟨by simp, h⟩
  | true =>
    rw [if_pos rfl]
    by_cases hf : r.P.flush.1 = 0
    · refine .inl ⟨hf, ?_⟩
      obtain ⟨hi, e1, e2, e3, e4, e5⟩ := h.inv.flushed hf
      have hbg : bg = false := by
        cases hb : bg with
        | false => rfl
        | true => have := h.offb hb; rw [e5] at this; cases this
      rcases h.base with b | ⟨rb, j0, hi', b⟩
      · rw [b.ready] at hr; cases hr
      · obtain ⟨q1, q2, q3, q4, q5⟩ := b.ready hr
        have hlo : ∀ k, k < n / 2 → ∀ x ∈ r.P.loose, x.1 ≠ (1 - r.side) * (n / 2) + k := fun k hk x hx e => by
          obtain ⟨s, k', R, hl⟩ := h.inv.looseL x hx
          obtain ⟨rfl, rfl⟩ := idx_inj (by omega) hl.s1 hk hl.k1 (e.symm.trans hl.at_)
          have := (h.loose x hx k R hl).1
          rw [hbg] at this
          cases this
        have hsame : ∀ q k, k < n / 2 → (bearAt n r.P.last (1 - r.side) q k ↔ bearAt n r.P.sure (1 - r.side) q k) := fun q k hk => by
          unfold bearAt
          rw [h.inv.lasts.1 _ (hlo k hk)]
        have hn4 := h.n4
        simp only
        rw [show (r.P.flush.1 == 0) = true by rw [hf]; rfl]
        refine ⟨hi, h.n4, h.side, by rw [e2]; exact h.top, h.fitT, (fun hb => by rw [hbg] at hb; cases hb), fun x hx => by rw [e3] at hx; simp at hx, .inr ⟨rb, hi', hi', b.rb1, b.hside, b.tale, Nat.le_refl _, b.him, b.hin, by rw [e1]; exact q4, ?_, fun x hx => by rw [e3] at hx; simp at hx, ?_, ?_, ?_, fun _ => ⟨q1, q2, q3, by rw [e2]; exact q4, by rw [e2]; exact q5⟩⟩⟩
        · intro hlt hb
          rw [e1] at hb
          have := (bear_legit h.inv.lastL h.side hlt b.rb1 hb).2.1
          omega
        · rw [q2, ← sizes_sum (h.inv.ok rb).tale (h.inv.ok rb).words, cntF_all _ _ (Nat.le_refl _)]
          simp only [sizesT, List.length_cons, List.length_map, q3]
          omega
        · rw [← q3]
          exact List.take_prefix _ _
        · intro q hq hb
          rw [e1] at hb ⊢
          have hb' := (hsame q 0 (by omega)).1 hb
          rcases b.oth q hq hb' with hlt | ⟨k, k1, k2, k3⟩
          · exact .inl hlt
          · exact .inr ⟨k, k1, k2, fun hb => k3 ((hsame q k k2).1 hb)⟩
    · obtain ⟨e0, e1, e2, e3, e4⟩ := flush_fails hf
      refine .inr ⟨hf, ?_⟩
      simp only
      rw [show (r.P.flush.1 == 0) = false by rw [e0]; rfl]
      exact h.off h.inv.good.flush e1 e2 e3 e4
end
end

/- RlHold2: What was sure is there behind a loss of power, in plain words. -/
section
set_option maxRecDepth 100000

theorem told_one {S : List (List Nat)} {s : Nat} (hs : s ≤ 1) (hb : (rowOf S (s : Int)).2.1 ≠ []) (h0 : 0 < (rowOf S (s : Int)).1) (ho : (rowOf S ((1 - s : Nat) : Int)).2.1 = [] ∨ (rowOf S ((1 - s : Nat) : Int)).1 < (rowOf S (s : Int)).1) : toldL S = (s, (rowOf S (s : Int)).1, (rowOf S (s : Int)).2.1) := by
  rcases Nat.le_one_iff_eq_zero_or_eq_one.1 hs with rfl | rfl
  · have e : told0 S = (0, (rowOf S 0).1, (rowOf S 0).2.1) := by unfold told0; rw [if_pos ⟨hb, h0⟩]
    unfold toldL
    rw [e, if_neg (fun hh => by
      rcases ho with ho | ho
      · exact hh.1 ho
      · have := hh.2
        simp only at this
        have ho' : (rowOf S 1).1 < (rowOf S 0).1 := ho
        omega)]
    rfl
  · unfold toldL
    have e0 : (told0 S).2.1 < (rowOf S 1).1 := by
      unfold told0
      split
      · rename_i hh
        rcases ho with ho | ho
        · exact absurd ho hh.1
        · exact ho
      · exact h0
    rw [if_pos ⟨hb, e0⟩]
    rfl
theorem told_none {S : List (List Nat)} (h0 : (rowOf S 0).2.1 = []) (h1 : (rowOf S 1).2.1 = []) : toldL S = (1, 0, []) := by
  unfold toldL told0
  rw [if_neg (fun hh => hh.1 h1), if_neg (fun hh => hh.1 h0)]

theorem bear_one {n : Nat} {S : List (List Nat)} {s k q r : Nat} (h1 : bearAt n S s q k) (h2 : bearAt n S s r k) : q = r := by
  obtain ⟨c, hc, hb⟩ := h1
  obtain ⟨d, hd, hb2⟩ := h2
  rw [hc] at hd
  injection hd with hd
  subst hd
  simp only [bearsC, Bool.and_eq_true, beq_iff_eq] at hb hb2
  have := hb.1.symm.trans hb2.1
  unfold markN at this
  omega

theorem cnt_zero {t : List Nat} {ws : List (List Nat)} {j : Nat} (h : j < cellsN t.length) : cntF (sizesT t ws) j = 0 := by
  simp only [sizesT, cntF]
  rw [if_neg (by omega)]
theorem cnt_pos {t : List Nat} {ws : List (List Nat)} {j : Nat} (h : 1 ≤ cntF (sizesT t ws) j) : cellsN t.length ≤ j := by
  rcases Nat.lt_or_ge j (cellsN t.length) with hlt | hge
  · rw [cnt_zero hlt] at h; omega
  · exact hge

section
variable {n : Nat} {H : Nat → Hs} {S : List (List Nat)}

/-- A side that is told nothing, or an older round. -/
theorem os_row (hl : S.length = n) (hn : n ≤ 60) (h4 : 4 ≤ n) (hS : LgAll n H S) (ho : ∀ q, (H q).Ok) (hfit : ∀ q, cellsN (H q).t.length ≤ n / 2) {s b : Nat} (hs : s ≤ 1) (h : (rowOf S (s : Int)).2.1 = [] ∨ (rowOf S (s : Int)).1 < b) : OS n H S s b := by
  intro q hq hb
  rcases row_legit hl hn hS ho hs with ⟨_, hno⟩ | ⟨r, j, h1, h2, h3, h5, h6, h7, h8, _, h10, h11, h12⟩
  · exact absurd hb (hno q hq (by omega))
  · have e := bear_one hb (h11 0 (by omega))
    subst e
    rcases h with h | h
    · rw [h10] at h
      have hc : cntF (sizesT (H q).t (H q).ws) j = 0 := by
        rcases Nat.eq_zero_or_pos (cntF (sizesT (H q).t (H q).ws) j) with hz | hz
        · exact hz
        · obtain ⟨m, hm⟩ : ∃ m, cntF (sizesT (H q).t (H q).ws) j = m + 1 := ⟨_, (Nat.succ_pred_eq_of_pos hz).symm⟩
          rw [hm, List.take_succ_cons] at h
          cases h
      have hlt : j < cellsN (H q).t.length := by
        rcases Nat.lt_or_ge j (cellsN (H q).t.length) with hlt | hge
        · exact hlt
        · simp only [sizesT, cntF] at hc
          rw [if_pos hge] at hc
          omega
      have := hfit q
      exact .inr ⟨j, hlt, by omega, h12 (by omega)⟩
    · rw [h8] at h
      exact .inl h
end

/-- What is told behind a loss of power. -/
theorem Hold.fail {n : Nat} {r : Rl} {H : Nat → Hs} {T : Nat} {nt nx : List Nat} {nw : List (List Nat)} {su : Nat} {bg : Bool} (h : Hold n r H T nt nw su nx bg) (keep : List Nat) (torn at_ : Int) (hT : topL (r.P.fail keep torn at_).last ≤ T) {sd rd : Nat} {bo : List (List Nat)} (ht : toldL (r.P.fail keep torn at_).last = (sd, rd, bo)) :
    ((bo.headD [] = nt ∧ su ≤ bo.tail.length ∧ bo.tail <+: nw) ∨ (bg = true ∧ bo.headD [] = nx ∧ bo.tail = [])) ∧ Hold n ⟨r.P.fail keep torn at_, sd, false⟩ H T (bo.headD []) bo.tail bo.tail.length nx false := by
  have hinv := h.inv.failed keep torn at_
  obtain ⟨hS, hS2, hS3⟩ := h.inv.outcome (h.inv.fails keep torn at_).1 (h.inv.fails keep torn at_).2
  have hn4 := h.n4
  have hn60 := h.inv.n60
  obtain ⟨S, hSe⟩ : ∃ S, failL keep torn at_ 0 r.P.loose r.P.sure = S := ⟨_, rfl⟩
  have es : (r.P.fail keep torn at_).sure = S := hSe
  have el : (r.P.fail keep torn at_).last = S := hSe
  have eo : (r.P.fail keep torn at_).loose = [] := rfl
  rw [hSe] at hS hS2 hS3
  rw [el] at ht hT
  have hl : S.length = n := by rw [← es]; exact hinv.len
  have hok := h.inv.ok
  -- a side on which a round is told
  have hwhole : ∀ s : Nat, s ≤ 1 → (rowOf S (s : Int)).2.1 ≠ [] → ∃ q j, 1 ≤ q ∧ (H q).side = s ∧ j ≤ (H q).m ∧ j ≤ n / 2 ∧ (rowOf S (s : Int)).1 = q ∧ (rowOf S (s : Int)).2.1 = ((H q).t :: (H q).ws).take (cntF (sizesT (H q).t (H q).ws) j) ∧ 1 ≤ cntF (sizesT (H q).t (H q).ws) j ∧ (∀ k, k < j → bearAt n S s q k) ∧ (j < n / 2 → ¬ bearAt n S s q j) := by
    intro s hs hne
    rcases row_legit hl hn60 hS hok hs with ⟨h0, _⟩ | ⟨q, j, h1, h2, h3, h5, h6, h7, h8, _, h10, h11, h12⟩
    · rw [h0] at hne; exact absurd rfl hne
    · refine ⟨q, j, h1, h3, h6, h7, h8, h10, ?_, h11, h12⟩
      rcases Nat.eq_zero_or_pos (cntF (sizesT (H q).t (H q).ws) j) with hz | hz
      · rw [h10, hz] at hne; exact absurd rfl hne
      · exact hz
  -- on the other side only the tale that was begun
  have hfresh : ∀ b, OS n H r.P.sure (1 - r.side) b → (rowOf S ((1 - r.side : Nat) : Int)).2.1 ≠ [] → b ≤ (rowOf S ((1 - r.side : Nat) : Int)).1 → bg = true ∧ (rowOf S ((1 - r.side : Nat) : Int)).2.1 = [nx] := by
    intro b hos hne hle
    obtain ⟨q, j, q1, q2, q3, q4, q5, q6, q7, q8, q9⟩ := hwhole (1 - r.side) (by omega) hne
    have hcj := cnt_pos q7
    have hpos : 0 < cellsN (H q).t.length := cellsN_pos (hok q).tale.1
    have hnx : bg = true ∧ (H q).t = nx ∧ (H q).ws = [] := by
      rcases hS2 (1 - r.side) 0 q (by omega) (by omega) q1 (q8 0 (by omega)) with hb | ⟨x, hx, hlo⟩
      · rcases hos q q1 hb with hlt | ⟨k, k1, k2, k3⟩
        · rw [q5] at hle; omega
        · rcases hS2 (1 - r.side) k q (by omega) k2 q1 (q8 k (by omega)) with hb | ⟨x, hx, hlo⟩
          · exact absurd hb k3
          · exact h.loose x hx k q hlo
      · exact h.loose x hx 0 q hlo
    refine ⟨hnx.1, ?_⟩
    rw [q6, hnx.2.2, hnx.2.1]
    have := cntF_le (sizesT (H q).t (H q).ws) j
    rw [hnx.2.2] at this q7
    simp only [sizesT, List.map_nil, List.length_cons, List.length_nil] at this
    rw [hnx.2.1] at this q7
    rw [show cntF (sizesT nx []) j = 1 by simp only [sizesT, List.map_nil] at q7 this ⊢; omega]
    rfl
  have mkBase : ∀ s : Nat, s ≤ 1 → (rowOf S (s : Int)).2.1 ≠ [] → ((rowOf S ((1 - s : Nat) : Int)).2.1 = [] ∨ (rowOf S ((1 - s : Nat) : Int)).1 < (rowOf S (s : Int)).1) → Hold n ⟨r.P.fail keep torn at_, s, false⟩ H T ((rowOf S (s : Int)).2.1.headD []) (rowOf S (s : Int)).2.1.tail (rowOf S (s : Int)).2.1.tail.length nx false := by
    intro s hs hne hoo
    obtain ⟨q, j, q1, q2, q3, q4, q5, q6, q7, q8, q9⟩ := hwhole s hs hne
    obtain ⟨m, hm⟩ : ∃ m, cntF (sizesT (H q).t (H q).ws) j = m + 1 := ⟨_, (Nat.succ_pred_eq_of_pos q7).symm⟩
    rw [hm, List.take_succ_cons] at q6
    have hml : m ≤ (H q).ws.length := by
      have := cntF_le (sizesT (H q).t (H q).ws) j
      simp only [sizesT, List.length_cons, List.length_map] at this
      simp only [sizesT] at hm
      omega
    rw [q6]
    refine ⟨hinv, h.n4, hs, by rw [el]; exact hT, h.fitT, (fun hb => by cases hb), fun x hx => by rw [eo] at hx; simp at hx, .inr ⟨q, j, j, q1, q2, rfl, Nat.le_refl _, q3, q4, by rw [es]; exact q8, by rw [es]; exact q9, fun x hx => by rw [eo] at hx; simp at hx, ?_, ?_, ?_, (fun hb => by cases hb)⟩⟩
    · simp only [List.tail_cons, List.length_take]
      rw [hm]
      omega
    · rw [hm]
      simp only [List.tail_cons, Nat.add_sub_cancel]
      exact List.prefix_rfl
    · rw [es]
      exact os_row hl hn60 hn4 hS hok h.fitT (by simp only; omega) (by
        rcases hoo with hoo | hoo
        · exact .inl hoo
        · exact .inr (by rw [← q5]; exact hoo))
  rcases h.base with b | ⟨rb, j0, hi, b⟩
  · -- no tale was sure
    have hsd := b.side
    have h1 : (rowOf S 1).2.1 = [] := by
      apply Classical.byContradiction
      intro hne
      obtain ⟨q, j, q1, q2, q3, q4, q5, q6, q7, q8, q9⟩ := hwhole 1 (Nat.le_refl _) hne
      have hcj := cnt_pos q7
      have hpos : 0 < cellsN (H q).t.length := cellsN_pos (hok q).tale.1
      have hsure : ∀ k, k < j → bearAt n r.P.sure 1 q k := fun k hk => by
        rcases hS2 1 k q (Nat.le_refl _) (by omega) q1 (q8 k hk) with hb | ⟨x, hx, hlo⟩
        · exact hb
        · exact absurd hlo (b.loose x hx k q)
      rcases b.one q q1 (hsure 0 (by omega)) with hlt | ⟨k, k1, k2, k3⟩
      · omega
      · exact k3 (hsure k (by omega))
    by_cases h0 : (rowOf S 0).2.1 = []
    · rw [told_none h0 h1] at ht
      injection ht with e1 e2
      injection e2 with e2 e3
      subst e1 e2 e3
      refine ⟨.inl ⟨b.tale.symm, by rw [b.least]; exact Nat.zero_le _, by simp⟩, hinv, h.n4, Nat.le_refl _, by rw [el]; exact hT, h.fitT, (fun hb => by cases hb), fun x hx => by rw [eo] at hx; simp at hx, .inl ⟨rfl, rfl, rfl, rfl, rfl, ?_, ?_, fun x hx => by rw [eo] at hx; simp at hx⟩⟩
      · rw [es]; exact os_row hl hn60 hn4 hS hok h.fitT (by omega) (.inl h0)
      · rw [es]; exact os_row hl hn60 hn4 hS hok h.fitT (by omega) (.inl h1)
    · have hf := hfresh 0 (by rw [hsd]; exact b.zero) (by rw [hsd]; exact h0) (Nat.zero_le _)
      rw [hsd] at hf
      have hq0 : 0 < (rowOf S ((0 : Nat) : Int)).1 := by
        obtain ⟨q, j, q1, _, _, _, q5, _⟩ := hwhole 0 (by omega) h0
        rw [q5]; omega
      have hbs := mkBase 0 (by omega) h0 (.inl h1)
      rw [told_one (s := 0) (by omega) h0 hq0 (.inl h1)] at ht
      injection ht with e1 e2
      injection e2 with e2 e3
      subst e1 e2 e3
      have hfe : (rowOf S ((0 : Nat) : Int)).2.1 = [nx] := hf.2
      exact ⟨.inr ⟨hf.1, by rw [hfe]; rfl, by rw [hfe]; rfl⟩, hbs⟩
  · -- a tale was sure
    have hside := h.side
    have hc0 := cnt_pos (Nat.le_trans (Nat.le_add_right 1 su) b.least)
    have hpos : 0 < cellsN (H rb).t.length := cellsN_pos (hok rb).tale.1
    have hj0n : j0 ≤ n / 2 := Nat.le_trans b.j0hi b.hin
    have hkeep : ∀ k, k < j0 → bearAt n S r.side rb k := fun k hk => hS3 r.side k rb hside (by omega) (b.there k hk) (fun x hx e => by
      obtain ⟨s', k', R, hlo⟩ := h.inv.looseL x hx
      obtain ⟨rfl, rfl⟩ := idx_inj hside hlo.s1 (by omega) hlo.k1 (e.symm.trans hlo.at_)
      have := (b.loose x hx k R hlo).2.1
      omega)
    rcases row_legit hl hn60 hS hok hside with ⟨_, hno⟩ | ⟨q, j, h1, h2, h3, h5, h6, h7, h8, _, h10, h11, h12⟩
    · exact absurd (hkeep 0 (by omega)) (hno rb b.rb1 (by omega))
    · have e := bear_one (hkeep 0 (by omega)) (h11 0 (by omega))
      subst e
      have hj1 : j0 ≤ j := by
        rcases Nat.lt_or_ge j j0 with hlt | hge
        · exact absurd (hkeep j hlt) (h12 (by omega))
        · exact hge
      have hj2 : j ≤ hi := by
        rcases Nat.lt_or_ge hi j with hlt | hge
        · rcases hS2 r.side hi rb hside (by omega) b.rb1 (h11 hi hlt) with hb | ⟨x, hx, hlo⟩
          · exact absurd hb (b.ends (by omega))
          · have := (b.loose x hx hi rb hlo).2.2
            omega
        · exact hge
      have hc1 := cntF_mono (sizesT (H rb).t (H rb).ws) j0 j hj1
      have hc2 := cntF_mono (sizesT (H rb).t (H rb).ws) j hi hj2
      have hb1 := b.least
      obtain ⟨m, hm⟩ : ∃ m, cntF (sizesT (H rb).t (H rb).ws) j = m + 1 := ⟨cntF (sizesT (H rb).t (H rb).ws) j - 1, by omega⟩
      have hml : m ≤ (H rb).ws.length := by
        have := cntF_le (sizesT (H rb).t (H rb).ws) j
        rw [hm] at this
        simp only [sizesT, List.length_cons, List.length_map] at this
        omega
      rw [hm, List.take_succ_cons] at h10
      have hne : (rowOf S (r.side : Int)).2.1 ≠ [] := by rw [h10]; simp
      have hq0 : 0 < (rowOf S (r.side : Int)).1 := by rw [h8]; exact b.rb1
      by_cases hoo : (rowOf S ((1 - r.side : Nat) : Int)).2.1 = [] ∨ (rowOf S ((1 - r.side : Nat) : Int)).1 < (rowOf S (r.side : Int)).1
      · have hbs := mkBase r.side hside hne hoo
        rw [told_one hside hne hq0 hoo] at ht
        injection ht with e1 e2
        injection e2 with e2 e3
        subst e1 e2 e3
        refine ⟨.inl ?_, hbs⟩
        rw [h10]
        refine ⟨b.tale, ?_, ?_⟩
        · simp only [List.tail_cons, List.length_take]
          omega
        · simp only [List.tail_cons]
          refine List.IsPrefix.trans ?_ b.most
          have : m ≤ cntF (sizesT (H rb).t (H rb).ws) hi - 1 := by omega
          exact List.take_prefix_take_left this
      · have hone : (rowOf S ((1 - r.side : Nat) : Int)).2.1 ≠ [] := fun e => hoo (.inl e)
        have hge : (rowOf S (r.side : Int)).1 ≤ (rowOf S ((1 - r.side : Nat) : Int)).1 := Nat.le_of_not_lt (fun e => hoo (.inr e))
        have hf := hfresh rb b.oth hone (by rw [← h8]; exact hge)
        have hlt : (rowOf S (r.side : Int)).1 < (rowOf S ((1 - r.side : Nat) : Int)).1 := by
          obtain ⟨q, j', q1, q2, _, _, q5, _⟩ := hwhole (1 - r.side) (by omega) hone
          rw [q5, h8] at hge ⊢
          rcases Nat.lt_or_ge rb q with hlt | hge2
          · exact hlt
          · have : rb = q := by omega
            subst this
            rw [h3] at q2
            omega
        have hu : 1 - (1 - r.side) = r.side := by omega
        have hoo2 : (rowOf S ((1 - (1 - r.side) : Nat) : Int)).2.1 = [] ∨ (rowOf S ((1 - (1 - r.side) : Nat) : Int)).1 < (rowOf S ((1 - r.side : Nat) : Int)).1 := by rw [hu]; exact .inr hlt
        have hbs := mkBase (1 - r.side) (by omega) hone hoo2
        rw [told_one (s := 1 - r.side) (by omega) hone (by omega) hoo2] at ht
        injection ht with e1 e2
        injection e2 with e2 e3
        subst e1 e2 e3
        exact ⟨.inr ⟨hf.1, by rw [hf.2]; rfl, by rw [hf.2]; rfl⟩, hbs⟩
end

/- RlHold3: Begin and Add keep what holds, in plain words. -/
section
set_option maxRecDepth 100000

section
variable {n : Nat} {r : Rl} {H : Nat → Hs} {T : Nat} {nt nx : List Nat} {nw : List (List Nat)} {su : Nat} {bg : Bool}

theorem Hold.bgOff (h : Hold n r H T nt nw su nx bg) (ho : r.P.off = true) {nx' : List Nat} (hx : bg = true → nx' = nx) : Hold n r H T nt nw su nx' true :=
  ⟨h.inv, h.n4, h.side, h.top, h.fitT, fun _ => ho, fun x hx' k R hl => by
    obtain ⟨a, b, c⟩ := h.loose x hx' k R hl
    exact ⟨rfl, by rw [hx a]; exact b, c⟩, h.base⟩

/-- What is put and not sure is there at last. -/
theorem Inv.loose_last {P : Pl} (h : Inv n P H) {x : Nat × List Nat} (hx : x ∈ P.loose) {s k R : Nat} {S : List (List Nat)} (hl : Loose n H S x s k R) : R ≤ topL P.last := by
  obtain ⟨p, hp1, hp2⟩ := hl.put
  have hpl := ((h.ok R).each p (List.mem_of_getElem? hp1)).1
  have h1 := (topL_get (List.mem_of_getElem? (h.lasts.2 x hx))).1
  have h2 := hl.R2
  have h3 := hl.k1
  have h4 := h.n60
  rw [hp2, (numC_marked (show markN R k < 18446744073709551616 by unfold markN; omega) hpl).1] at h1
  unfold markN at h1
  omega
/-- A thing that is put has one side, one place, one round. -/
theorem loose_one {H' : Nat → Hs} {S S' : List (List Nat)} {x : Nat × List Nat} {s s' k k' R R' : Nat} (ho : ∀ q, (H q).Ok) (ho' : ∀ q, (H' q).Ok) (hn : n ≤ 60) (h1 : Loose n H S x s k R) (h2 : Loose n H' S' x s' k' R') : s = s' ∧ k = k' ∧ R = R' := by
  obtain ⟨rfl, rfl⟩ := idx_inj h1.s1 h2.s1 h1.k1 h2.k1 (h1.at_.symm.trans h2.at_)
  obtain ⟨p, hp1, hp2⟩ := h1.put
  obtain ⟨q, hq1, hq2⟩ := h2.put
  have hpl := ((ho R).each p (List.mem_of_getElem? hp1)).1
  have hql := ((ho' R').each q (List.mem_of_getElem? hq1)).1
  have a1 := h1.R2
  have a2 := h2.R2
  have a3 := h1.k1
  have e := congrArg (fun c => numC c 0) (hp2.symm.trans hq2)
  rw [(numC_marked (show markN R k < 18446744073709551616 by unfold markN; omega) hpl).1, (numC_marked (show markN R' k < 18446744073709551616 by unfold markN; omega) hql).1] at e
  unfold markN at e
  exact ⟨rfl, rfl, by omega⟩
theorem loose_mkL {H' : Nat → Hs} {S : List (List Nat)} {x : Nat × List Nat} {s s' k rd R at_ : Nat} {cs : List (List Nat)} (ho' : ∀ q, (H' q).Ok) (hn : n ≤ 60) (hs : s ≤ 1) (hr : rd ≤ 200) (ha : at_ + cs.length ≤ n / 2) (hc : ∀ c ∈ cs, c.length ≤ 48) (hx : x ∈ mkL (s * (n / 2)) rd at_ cs) (h2 : Loose n H' S x s' k R) : s = s' ∧ at_ ≤ k ∧ k < at_ + cs.length ∧ R = rd := by
  obtain ⟨i, c, hi, rfl⟩ := mkL_mem hx
  have hil := (List.getElem?_eq_some_iff.1 hi).1
  have e := h2.at_
  obtain ⟨rfl, rfl⟩ := idx_inj (k := at_ + i) hs h2.s1 (by omega) h2.k1 (by omega)
  obtain ⟨q, hq1, hq2⟩ := h2.put
  have hql := ((ho' R).each q (List.mem_of_getElem? hq1)).1
  have a2 := h2.R2
  have e := congrArg (fun c => numC c 0) hq2
  simp only at e
  rw [(numC_marked (show markN rd (at_ + i) < 18446744073709551616 by unfold markN; omega) (hc c (List.mem_of_getElem? hi))).1, (numC_marked (show markN R (at_ + i) < 18446744073709551616 by unfold markN; omega) hql).1] at e
  unfold markN at e
  exact ⟨rfl, by omega, by omega, by omega⟩

theorem OS.up {S : List (List Nat)} {s b rd : Nat} {h' : Hs} (h : OS n H S s b) (hq : ∀ q, bearAt n S s q 0 → q ≠ rd) : OS n (upH H rd h') S s b := by
  intro q h1 hb
  rw [upH_other H h' (hq q hb)]
  exact h q h1 hb

theorem fits_of {m c : Nat} (h : fitsB m c = true) : 0 < cellsN m ∧ cellsN m ≤ c := by
  unfold fitsB at h
  rw [Bool.and_eq_true, decide_eq_true_eq, decide_eq_true_eq] at h
  exact h

theorem bear_laid {S cs : List (List Nat)} {s rd at_ k : Nat} (hs : s ≤ 1) (hS : S.length = n) (hn : n ≤ 60) (hr : rd ≤ 200) (ha : at_ + cs.length ≤ n / 2) (hc : ∀ c ∈ cs, c.length ≤ 48) (hk : at_ ≤ k) (hk2 : k < at_ + cs.length) : bearAt n (layAll S (mkL (s * (n / 2)) rd at_ cs)) s rd k := by
  obtain ⟨i, rfl⟩ : ∃ i, k = at_ + i := ⟨k - at_, by omega⟩
  have hi : i < cs.length := by omega
  have := lay_mkL (s * (n / 2)) rd cs at_ S i cs[i] (by rw [hS]; rcases Nat.le_one_iff_eq_zero_or_eq_one.1 hs with rfl | rfl <;> omega) (List.getElem?_eq_getElem hi)
  rw [Nat.add_assoc] at this
  refine ⟨_, this, ?_⟩
  obtain ⟨n1, n2⟩ := numC_marked (show markN rd (at_ + i) < 18446744073709551616 by unfold markN; omega) (hc _ (List.getElem_mem hi))
  simp [bearsC, n1, n2]
theorem bear_kept {S cs : List (List Nat)} {s s' rd at_ k q : Nat} (h : s' * (n / 2) + k < s * (n / 2) + at_ ∨ s * (n / 2) + at_ + cs.length ≤ s' * (n / 2) + k) : bearAt n (layAll S (mkL (s * (n / 2)) rd at_ cs)) s' q k ↔ bearAt n S s' q k := by
  unfold bearAt
  rw [layAll_get_other h]

/-- The piece of a tale that was put for the next round, with all that stays as it was. -/
theorem Hold.begun (h : Hold n r H T nt nw su nx false) (hT : T + 1 ≤ 200) {t : List Nat} (ht : Word t) (hf : cellsN t.length ≤ n / 2) {j : Nat} (hj : j ≤ (chunksL (frameL 1 t)).length) {P' : Pl} (hg : P'.Good) (e1 : P'.sure = r.P.sure) (e2 : P'.last = layAll r.P.last (mkL ((1 - r.side) * (n / 2)) (topL r.P.last + 1) 0 ((chunksL (frameL 1 t)).take j))) (e3 : P'.loose = r.P.loose ++ mkL ((1 - r.side) * (n / 2)) (topL r.P.last + 1) 0 ((chunksL (frameL 1 t)).take j)) :
    Inv n P' (upH H (topL r.P.last + 1) ⟨1 - r.side, t, [], j⟩) ∧ topL P'.last ≤ topL r.P.last + 1 ∧ (P'.off = true → Hold n ⟨P', r.side, false⟩ (upH H (topL r.P.last + 1) ⟨1 - r.side, t, [], j⟩) (T + 1) nt nw su t true) := by
  have hside := h.side
  have hn := h.inv.n60
  have hn4 := h.n4
  have hTop := h.top
  have hc := frame_cells 1 ht.1
  have hpT : piecesT t [] = chunksL (frameL 1 t) := by simp [piecesT, piecesW]
  have hch : ∀ c ∈ (chunksL (frameL 1 t)).take j, c.length ≤ 48 ∧ Bytes c := fun c hcc => chop_each _ _ (frameL_bytes (by decide) ht.2) c (List.mem_of_mem_take hcc)
  have hok : Hs.Ok ⟨1 - r.side, t, [], j⟩ := ⟨ht, fun x hx => by simp at hx, by simp only; rw [hpT]; exact hj⟩
  have hlen : ((chunksL (frameL 1 t)).take j).length = j := by rw [List.length_take]; omega
  have hnoloose : ∀ k, k < n / 2 → ∀ x ∈ r.P.loose, x.1 ≠ (1 - r.side) * (n / 2) + k := fun k hk x hx e => by
    obtain ⟨s, k', R, hl⟩ := h.inv.looseL x hx
    obtain ⟨rfl, rfl⟩ := idx_inj (by omega) hl.s1 hk hl.k1 (e.symm.trans hl.at_)
    have := (h.loose x hx k R hl).1
    cases this
  have hnew : ∀ s' k, k < n / 2 → ¬ ((∃ c, r.P.sure[s' * (n / 2) + k]? = some c ∧ (numC c 0 = markN (topL r.P.last + 1) k ∨ numC c 56 = markN (topL r.P.last + 1) k)) ∨ ∃ x ∈ r.P.loose, Loose n H r.P.sure x s' k (topL r.P.last + 1)) := by
    rintro s' k hk (⟨c, hc, hm⟩ | ⟨x, hx, hl⟩)
    · have := h.inv.top c (List.mem_of_getElem? hc)
      unfold markN at hm
      omega
    · have := h.inv.loose_last hx hl
      omega
  have hinv := h.inv.puts (s := 1 - r.side) (rd := topL r.P.last + 1) (at_ := 0) (h' := ⟨1 - r.side, t, [], j⟩) (by omega) (by omega) (by omega) (by rw [hlen]; omega) rfl hok (by rw [hlen]; simp) (fun i c hi => by rw [Nat.zero_add]; unfold Hs.pc; simp only; rw [hpT]; exact hi)
    (fun k c _ hk hcc => by
      have := h.inv.top c (List.mem_of_getElem? hcc)
      unfold markN
      omega) (fun k _ hk => hnoloose k hk) (fun s' k _ hk hh => absurd hh (hnew s' k hk)) (by omega) hg e1 e2 e3
  have htop : topL P'.last ≤ topL r.P.last + 1 := by
    rw [e2]
    exact top_lay (by omega) (by omega) (by rw [hlen]; omega) (fun c hcc => (hch c hcc).1)
  refine ⟨hinv, htop, fun ho => ?_⟩
  have hneq : ∀ s q k, bearAt n r.P.sure s q k → q ≠ topL r.P.last + 1 := fun s q k hb e => by
    have := h.inv.bear_top hb
    omega
  have hold : ∀ x ∈ r.P.loose, ∀ s k R, Loose n (upH H (topL r.P.last + 1) ⟨1 - r.side, t, [], j⟩) r.P.sure x s k R → Loose n H r.P.sure x s k R := fun x hx s k R hl => by
    obtain ⟨s0, k0, R0, hl0⟩ := h.inv.looseL x hx
    obtain ⟨rfl, rfl, rfl⟩ := loose_one h.inv.ok hinv.ok hn hl0 hl
    exact hl0
  have hin : ∀ x ∈ mkL ((1 - r.side) * (n / 2)) (topL r.P.last + 1) 0 ((chunksL (frameL 1 t)).take j), ∀ s k R, Loose n (upH H (topL r.P.last + 1) ⟨1 - r.side, t, [], j⟩) r.P.sure x s k R → 1 - r.side = s ∧ R = topL r.P.last + 1 := fun x hx s k R hl => by
    obtain ⟨a, _, _, b⟩ := loose_mkL hinv.ok hn (by omega) (by omega) (by rw [hlen]; omega) (fun c hcc => (hch c hcc).1) hx hl
    exact ⟨a, b⟩
  refine ⟨hinv, h.n4, hside, by simp only; omega, fun q => ?_, fun _ => ho, fun x hx k R hl => ?_, ?_⟩
  · by_cases hq : q = topL r.P.last + 1
    · rw [hq, upH_same]; exact hf
    · rw [upH_other H _ hq]; exact h.fitT q
  · rw [e1] at hl
    rw [e3] at hx
    rcases List.mem_append.1 hx with hx | hx
    · have := (h.loose x hx k R (hold x hx _ k R hl)).1
      cases this
    · obtain ⟨_, e⟩ := hin x hx _ k R hl
      rw [e, upH_same]
      exact ⟨rfl, rfl, rfl⟩
  · rcases h.base with b | ⟨rb, j0, hi, b⟩
    · refine .inl ⟨b.tale, b.words, b.least, rfl, b.side, ?_, ?_, fun x hx k R hl => ?_⟩
      · rw [e1]; exact b.zero.up (fun q hb => hneq _ q _ hb)
      · rw [e1]; exact b.one.up (fun q hb => hneq _ q _ hb)
      · rw [e1] at hl
        rw [e3] at hx
        rcases List.mem_append.1 hx with hx | hx
        · exact b.loose x hx k R (hold x hx _ k R hl)
        · have := (hin x hx _ k R hl).1
          rw [b.side] at this
          omega
    · have hc0 := cnt_pos (Nat.le_trans (Nat.le_add_right 1 su) b.least)
      have hpos : 0 < cellsN (H rb).t.length := cellsN_pos (h.inv.ok rb).tale.1
      have hrb : rb ≠ topL r.P.last + 1 := hneq _ rb 0 (b.there 0 (by omega))
      refine .inr ⟨rb, j0, hi, b.rb1, ?_, ?_, b.j0hi, ?_, b.hin, ?_, ?_, fun x hx k R hl => ?_, ?_, ?_, ?_, (fun hb => by cases hb)⟩
      · rw [upH_other H _ hrb]; exact b.hside
      · rw [upH_other H _ hrb]; exact b.tale
      · rw [upH_other H _ hrb]; exact b.him
      · rw [e1]; exact b.there
      · rw [e1]; exact b.ends
      · rw [e1] at hl
        rw [e3] at hx
        rcases List.mem_append.1 hx with hx | hx
        · exact b.loose x hx k R (hold x hx _ k R hl)
        · have := (hin x hx _ k R hl).1
          simp only at this
          omega
      · rw [upH_other H _ hrb]; exact b.least
      · rw [upH_other H _ hrb]; exact b.most
      · rw [e1]; exact b.oth.up (fun q hb => hneq _ q _ hb)

/-- Begin. -/
theorem Hold.begin (h : Hold n r H T nt nw su nx bg) (hT : T + 1 ≤ 200) {t : List Nat} (ht : Word t) :
    ((r.begin t).1 = 0 ∧ ∃ H', Hold n (r.begin t).2 H' (T + 1) t [] 0 nx false) ∨ ((r.begin t).1 = 92 ∧ (r.begin t).2 = r) ∨ ((r.begin t).1 = 72 ∧ ∃ H', Hold n (r.begin t).2 H' (T + 1) nt nw su (if bg then nx else t) true) := by
  have hside := h.side
  have hn := h.inv.n60
  have hn4 := h.n4
  have hTop := h.top
  have hroom : r.room = n / 2 := by unfold Rl.room; rw [h.inv.len]
  unfold Rl.begin
  by_cases hfit : (fitsB t.length r.room && decide (topL r.P.last < 1099511627776)) = true
  · rw [if_pos hfit]
    rw [Bool.and_eq_true] at hfit
    obtain ⟨hpos, hf⟩ := fits_of hfit.1
    rw [hroom] at hf
    have hc := frame_cells 1 ht.1
    have hch : ∀ c ∈ chunksL (frameL 1 t), c.length ≤ 48 ∧ Bytes c := chop_each _ _ (frameL_bytes (by decide) ht.2)
    obtain ⟨j, hj, g0, g1, g2, g3, g4⟩ := h.inv.putC (s := 1 - r.side) (rd := topL r.P.last + 1) (at_ := 0) (cs := chunksL (frameL 1 t)) (by omega) (by omega) (by omega) (by omega) hch
    generalize hP : r.P.putC ((1 - r.side : Nat) : Int) (topL r.P.last + 1) 0 (chunksL (frameL 1 t)) = X at *
    obtain ⟨e, P'⟩ := X
    simp only at g0 g1 g2 g3 g4 ⊢
    cases hoff : r.P.off with
    | true =>
      -- no power: nothing is put
      have hj0 : e = 72 ∧ j = 0 ∧ P'.off = true := by
        rcases g4 with ⟨a1, a2, a3⟩ | ⟨a1, a2, a3⟩
        · exfalso
          have hne : chunksL (frameL 1 t) ≠ [] := by intro e; rw [e] at hc; simp at hc; omega
          obtain ⟨j', l', o', _, _, h4, _⟩ := putC_runs (1 - r.side) (topL r.P.last + 1) (by omega) (by omega) (by omega) (chunksL (frameL 1 t)) r.P 0 (by rw [h.inv.len]; omega) (fun c hcc => (hch c hcc).1)
          rw [hP] at h4
          rcases h4 with ⟨_, _, _, b4⟩ | ⟨b1, _⟩
          · rw [b4 hne] at hoff; cases hoff
          · simp only at b1; rw [a1] at b1; cases b1
        · exact ⟨a1, a3 hoff, a2⟩
      obtain ⟨rfl, rfl, ho⟩ := hj0
      refine .inr (.inr ?_)
      rw [if_neg (by decide)]
      refine ⟨rfl, H, ?_⟩
      have h1 : Hold n ⟨P', r.side, false⟩ H T nt nw su nx bg := h.off g0 g1 (by rw [g2]; rfl) (by rw [g3]; simp [mkL]) ho
      exact (h1.bgOff ho (fun hb => by rw [hb]; rfl)).more (by omega)
    | false =>
      have hbg : bg = false := by
        cases hb : bg with
        | false => rfl
        | true => have := h.offb hb; rw [hoff] at this; cases this
      subst hbg
      obtain ⟨hinv, htop, hof⟩ := h.begun hT ht hf hj g0 g1 g2 g3
      rcases g4 with ⟨a1, a2, a3⟩ | ⟨a1, a2, a3⟩
      · subst a1
        rw [if_pos (by decide)]
        by_cases hfl : P'.flush.1 = 0
        · refine .inl ?_
          rw [if_pos (by rw [hfl]; rfl)]
          refine ⟨rfl, upH H (topL r.P.last + 1) ⟨1 - r.side, t, [], j⟩, ?_⟩
          obtain ⟨hi, f1, f2, f3, f4, f5⟩ := hinv.flushed hfl
          have hpT : piecesT t [] = chunksL (frameL 1 t) := by simp [piecesT, piecesW]
          rw [a2, List.take_length] at g2
          have hu : 1 - (1 - r.side) = r.side := by omega
          have hlaid : ∀ k, k < j → bearAt n P'.last (1 - r.side) (topL r.P.last + 1) k := fun k hk => by
            rw [g2]
            exact bear_laid (by omega) (by rw [h.inv.good.size, h.inv.len]) hn (by omega) (by omega) (fun c hcc => (hch c hcc).1) (Nat.zero_le _) (by omega)
          refine ⟨hi, hn4, by simp only; omega, by simp only; rw [f2]; omega, fun q => ?_, (fun hb => by cases hb), fun x hx => by simp only at hx; rw [f3] at hx; simp at hx, .inr ⟨topL r.P.last + 1, j, j, by omega, by rw [upH_same], by rw [upH_same], Nat.le_refl _, by rw [upH_same]; exact Nat.le_refl _, by omega, by simp only; rw [f1]; exact hlaid, fun hlt hb => ?_, fun x hx => by simp only at hx; rw [f3] at hx; simp at hx, ?_, ?_, fun q hq hb => .inl ?_, fun _ => ⟨by rw [upH_same], by rw [upH_same]; simp only; rw [hpT]; exact a2, by rw [upH_same], by simp only; rw [f2]; exact hlaid, by simp only; rw [f2]; exact htop⟩⟩⟩
          · by_cases hq : q = topL r.P.last + 1
            · rw [hq, upH_same]; exact hf
            · rw [upH_other H _ hq]; exact h.fitT q
          · simp only at hb
            rw [f1] at hb
            have := (bear_legit hinv.lastL (by omega) hlt (by omega) hb).2.1
            rw [upH_same] at this
            simp only at this
            omega
          · rw [upH_same, cntF_all _ _ (by simp [sizesT]; omega)]
            simp [sizesT]
          · rw [upH_same]
            simp
          · simp only at hb
            rw [f1, hu, g2] at hb
            have hb' := (bear_kept (by
              rcases Nat.le_one_iff_eq_zero_or_eq_one.1 hside with hs | hs <;> rw [hs] <;> simp only [Nat.zero_mul, Nat.one_mul, Nat.sub_self, Nat.sub_zero] <;> omega)).1 hb
            obtain ⟨c, hcc, hbb⟩ := hb'
            have := (topL_get (List.mem_of_getElem? hcc)).1
            simp only [bearsC, Bool.and_eq_true, beq_iff_eq] at hbb
            rw [hbb.1] at this
            unfold markN at this
            omega
        · refine .inr (.inr ?_)
          obtain ⟨f0, f1, f2, f3, f4⟩ := flush_fails hfl
          rw [if_neg (by rw [f0]; decide)]
          obtain ⟨_, _, hof2⟩ := h.begun hT ht hf hj g0.flush (f1.trans g1) (f2.trans g2) (f3.trans g3)
          exact ⟨f0, _, hof2 f4⟩
      · subst a1
        rw [if_neg (by decide)]
        exact .inr (.inr ⟨rfl, _, hof a2⟩)
  · rw [if_neg hfit]
    exact .inr (.inl ⟨rfl, rfl⟩)
end
end

/- RlHold4: Add keeps what holds; the top behind a loss of power, in plain words. -/
section
set_option maxRecDepth 100000

theorem mixN_top (k R n v : Nat) (hk : k < 1000) : mixN k R n v / 65536 ≤ v / 65536 ∨ mixN k R n v / 65536 ≤ R := by
  unfold mixN
  split
  · exact .inl (Nat.le_refl _)
  · split
    · split
      · exact .inr (by omega)
      · exact .inl (Nat.le_refl _)
    · exact .inr (by omega)

section
variable {n : Nat} {r : Rl} {H : Nat → Hs} {T : Nat} {nt nx : List Nat} {nw : List (List Nat)} {su : Nat} {bg : Bool}

/-- No round is above the top behind a loss. -/
theorem Inv.fail_top {P : Pl} (h : Inv n P H) (keep : List Nat) (torn at_ : Int) : topL (P.fail keep torn at_).last ≤ topL P.last := by
  obtain ⟨hS1, hS2⟩ := h.fails keep torn at_
  have el : (P.fail keep torn at_).last = failL keep torn at_ 0 P.loose P.sure := rfl
  rw [el]
  generalize failL keep torn at_ 0 P.loose P.sure = S at *
  have hn := h.n60
  have hall : ∀ c ∈ S, numC c 0 / 65536 ≤ topL P.last ∧ numC c 56 / 65536 ≤ topL P.last := fun c hc => by
    obtain ⟨i, hi⟩ := List.mem_iff_getElem?.1 hc
    by_cases hx : ∀ x ∈ P.loose, x.1 ≠ i
    · rw [hS1 i hx] at hi
      exact h.top c (List.mem_of_getElem? hi)
    · obtain ⟨x, hx, e⟩ : ∃ x, x ∈ P.loose ∧ x.1 = i := by
        apply Classical.byContradiction
        intro hno
        exact hx (fun x hx e => hno ⟨x, hx, e⟩)
      obtain ⟨s, k, R, hl⟩ := h.looseL x hx
      have hR := h.loose_last hx hl
      obtain ⟨m, hm, hSx⟩ := hS2 x hx
      rw [e, hi] at hSx
      obtain ⟨p, hp1, hp2⟩ := hl.put
      have hlt : s * (n / 2) + k < P.sure.length := by rw [h.len]; exact idx_lt hl.s1 hl.k1
      have hpl := (h.ok R).each p (List.mem_of_getElem? hp1)
      have hk := hl.k1
      have hR2 := hl.R2
      have hco : P.sure[s * (n / 2) + k]? = some (P.sure.getD i []) := by
        rw [← e, hl.at_, List.getD_eq_getElem?_getD, List.getElem?_eq_getElem hlt]; rfl
      have hL := h.sureL s k _ hl.s1 hl.k1 hco
      have hT := h.top _ (List.mem_of_getElem? hco)
      rw [hp2] at hSx
      obtain ⟨n1, n2⟩ := tear_nums (show R < 256 by omega) (show k + 1 < 256 by omega) hpl.1 hpl.2 hL.is hL.b.low hL.e.low m hm
      injection hSx with hSx
      rw [hSx, n1, n2]
      have m1 := mixN_top k R m (numC (P.sure.getD i []) 0) (by omega)
      have m2 := mixN_top k R (m - 56) (numC (P.sure.getD i []) 56) (by omega)
      omega
  have : topM S ≤ topL P.last * 65536 + 65535 := topM_le (fun c hc => by have := hall c hc; omega)
  unfold topL at this ⊢
  omega

/-- What a reel that is ready has on its side. -/
theorem Hold.rowR {rb j0 hi : Nat} (h : Hold n r H T nt nw su nx bg) (b : Base n r H nt nw su rb j0 hi) (hr : r.ready = true) : r.row = (rb, nt :: nw, hi) ∧ rb ≤ topL r.P.last := by
  obtain ⟨q1, q2, q3, q4, q5⟩ := b.ready hr
  have hn4 := h.n4
  have hhi : 1 ≤ hi := by
    have := pieces_pos (H rb).t (H rb).ws
    rcases Nat.eq_zero_or_pos hi with hz | hz
    · rw [hz] at q2
      exact absurd (List.eq_nil_of_length_eq_zero q2.symm) this
    · exact hz
  rcases row_legit (h.inv.good.size.trans h.inv.len) h.inv.n60 h.inv.lastL h.inv.ok h.side with ⟨_, hno⟩ | ⟨q, j, h1, h2, h3, h5, h6, h7, h8, h9, h10, h11, h12⟩
  · exact absurd (q4 0 hhi) (hno rb b.rb1 (by omega))
  · have e := bear_one (q4 0 hhi) (h11 0 (by omega))
    subst e
    have hj : j = hi := by
      have hle : j ≤ hi := by rw [← q1]; exact h6
      rcases Nat.lt_or_ge j hi with hlt | hge
      · have := b.hin
        exact absurd (q4 j hlt) (h12 (by omega))
      · omega
    subst hj
    refine ⟨?_, ?_⟩
    · unfold Rl.row
      have hpc : (H rb).pc.take j = piecesT (H rb).t (H rb).ws := by
        unfold Hs.pc
        rw [q1, List.take_take, Nat.min_self, q2, List.take_length]
      have hp := parse_tale (h.inv.ok rb).tale (h.inv.ok rb).words (b := []) (by rw [frameAt_nil])
      rw [List.append_nil, ← hpc, hpc, ← q2, b.tale, q3] at hp
      have e9 := h9
      rw [hpc, b.tale, q3] at e9
      rw [hp] at e9
      exact Prod.ext h8 e9
    · obtain ⟨c, hc, hb⟩ := q4 0 hhi
      have := (topL_get (List.mem_of_getElem? hc)).1
      simp only [bearsC, Bool.and_eq_true, beq_iff_eq] at hb
      rw [hb.1] at this
      unfold markN at this
      omega

/-- Add. -/
theorem Hold.add (h : Hold n r H T nt nw su nx bg) (hT : T ≤ 200) {x : List Nat} (hx : Word x) :
    (((r.add x).1 = 91 ∨ (r.add x).1 = 92) ∧ (r.add x).2 = r) ∨ (((r.add x).1 = 0 ∨ (r.add x).1 = 72) ∧ ∃ H', Hold n (r.add x).2 H' T nt (nw ++ [x]) su nx bg) := by
  have hside := h.side
  have hn := h.inv.n60
  have hn4 := h.n4
  have hTop := h.top
  have hroom : r.room = n / 2 := by unfold Rl.room; rw [h.inv.len]
  unfold Rl.add
  cases hr : r.ready with
  | false => exact .inl ⟨.inl rfl, rfl⟩
  | true =>
    rw [if_pos rfl]
    rcases h.base with b | ⟨rb, j0, hi, b⟩
    · rw [b.ready] at hr; cases hr
    obtain ⟨hrow, hrb⟩ := h.rowR b hr
    obtain ⟨q1, q2, q3, q4, q5⟩ := b.ready hr
    have hrb1 := b.rb1
    have hin := b.hin
    rw [hrow]
    simp only
    by_cases hfit : fitsB x.length (r.room - hi) = true
    · rw [if_pos hfit]
      refine .inr ?_
      obtain ⟨hpos, hf⟩ := fits_of hfit
      rw [hroom] at hf
      have hc := frame_cells 2 hx.1
      have hch : ∀ c ∈ chunksL (frameL 2 x), c.length ≤ 48 ∧ Bytes c := chop_each _ _ (frameL_bytes (by decide) hx.2)
      obtain ⟨j, hj, g0, g1, g2, g3, g4⟩ := h.inv.putC (s := r.side) (rd := rb) (at_ := hi) (cs := chunksL (frameL 2 x)) hside hrb1 (by omega) (by omega) hch
      generalize hP : r.P.putC (r.side : Int) rb hi (chunksL (frameL 2 x)) = X at *
      obtain ⟨e, P'⟩ := X
      simp only at g0 g1 g2 g3 g4 ⊢
      have hpT : piecesT nt (nw ++ [x]) = piecesT nt nw ++ chunksL (frameL 2 x) := piecesT_snoc nt nw x
      have hq2 : hi = (piecesT nt nw).length := by rw [q2, b.tale, q3]
      have hpc : (H rb).pc = piecesT nt nw := by
        unfold Hs.pc
        rw [q1, b.tale, q3, hq2, List.take_length]
      have hW : Word nt := by rw [← b.tale]; exact (h.inv.ok rb).tale
      have hWs : ∀ y ∈ nw, Word y := by rw [← q3]; exact (h.inv.ok rb).words
      have hok : Hs.Ok ⟨r.side, nt, nw ++ [x], hi + j⟩ := ⟨hW, fun y hy => by
        rcases List.mem_append.1 hy with hy | hy
        · exact hWs y hy
        · simp at hy; subst hy; exact hx, by simp only; rw [hpT, List.length_append]; omega⟩
      have hpc' : (Hs.mk r.side nt (nw ++ [x]) (hi + j)).pc = piecesT nt nw ++ (chunksL (frameL 2 x)).take j := by
        unfold Hs.pc
        simp only
        rw [hpT, List.take_append, List.take_of_length_le (by omega), show hi + j - (piecesT nt nw).length = j by omega]
      have hlen : ((chunksL (frameL 2 x)).take j).length = j := by rw [List.length_take]; omega
      have hinv := h.inv.puts (s := r.side) (rd := rb) (at_ := hi) (h' := ⟨r.side, nt, nw ++ [x], hi + j⟩) hside hrb1 (by omega) (by rw [hlen]; omega) rfl hok (by rw [hlen]) (fun i c hi' => by rw [hpc', hq2, List.getElem?_append_right (by omega), Nat.add_sub_cancel_left]; exact hi')
        (fun k c hk hk2 hcc => by
          have hL := h.inv.sureL r.side k c hside hk2 hcc
          refine ⟨fun e => ?_, fun e => ?_⟩
          · rcases hL.b with h0 | h0 | ⟨q, _, _, k3, _, k5⟩
            · rw [e] at h0; unfold markN at h0; omega
            · rw [e] at h0; unfold markN at h0; omega
            · rw [e] at k3
              have : q = rb := by unfold markN at k3; omega
              subst this
              omega
          · rcases hL.e with h0 | h0 | ⟨q, _, _, k3, _, k5⟩
            · rw [e] at h0; unfold markN at h0; omega
            · rw [e] at h0; unfold markN at h0; omega
            · rw [e] at k3
              have : q = rb := by unfold markN at k3; omega
              subst this
              omega)
        (fun k hk hk2 y hy e => by
          obtain ⟨s, k', R, hl⟩ := h.inv.looseL y hy
          obtain ⟨rfl, rfl⟩ := idx_inj hside hl.s1 hk2 hl.k1 (e.symm.trans hl.at_)
          have := (b.loose y hy k R hl).2.2
          omega)
        (fun s' k _ _ _ => ⟨b.hside.symm, fun hk => by simp only; omega, by
          rw [hpc, hpc']
          by_cases hk : k < (piecesT nt nw).length
          · exact .inr (List.getElem?_append_left hk)
          · exact .inl (List.getElem?_eq_none (by omega))⟩) q5 g0 g1 g2 g3
      refine ⟨?_, upH H rb ⟨r.side, nt, nw ++ [x], hi + j⟩, ?_⟩
      · rcases g4 with ⟨a1, _⟩ | ⟨a1, _⟩
        · exact .inl a1
        · exact .inr a1
      have hold : ∀ y ∈ r.P.loose, ∀ s k R, Loose n (upH H rb ⟨r.side, nt, nw ++ [x], hi + j⟩) r.P.sure y s k R → Loose n H r.P.sure y s k R := fun y hy s k R hl => by
        obtain ⟨s0, k0, R0, hl0⟩ := h.inv.looseL y hy
        obtain ⟨rfl, rfl, rfl⟩ := loose_one h.inv.ok hinv.ok hn hl0 hl
        exact hl0
      have hnew : ∀ y ∈ mkL (r.side * (n / 2)) rb hi ((chunksL (frameL 2 x)).take j), ∀ s k R, Loose n (upH H rb ⟨r.side, nt, nw ++ [x], hi + j⟩) r.P.sure y s k R → r.side = s ∧ hi ≤ k ∧ k < hi + j ∧ R = rb := fun y hy s k R hl => by
        have := loose_mkL hinv.ok hn hside (by omega) (by rw [hlen]; omega) (fun c hcc => (hch c (List.mem_of_mem_take hcc)).1) hy hl
        rw [hlen] at this
        exact this
      have htop : topL P'.last ≤ rb := by
        rw [g2]
        exact top_lay q5 (by omega) (by rw [hlen]; omega) (fun c hcc => (hch c (List.mem_of_mem_take hcc)).1)
      have hz : sizesT nt (nw ++ [x]) = sizesT nt nw ++ [cellsN x.length] := by simp [sizesT]
      have hsum := sizes_sum hW hWs
      have hj0 := b.j0hi
      refine ⟨hinv, hn4, hside, by simp only; omega, fun q => ?_, fun hb => ?_, fun y hy k R hl => ?_, .inr ⟨rb, j0, hi + j, hrb1, by rw [upH_same], by rw [upH_same], by omega, by rw [upH_same]; exact Nat.le_refl _, by omega, by simp only; rw [g1]; exact b.there, fun hlt hb => ?_, fun y hy k R hl => ?_, ?_, ?_, ?_, fun hrd => ?_⟩⟩
      · by_cases hq : q = rb
        · rw [hq, upH_same]
          simp only
          have := h.fitT rb
          rw [b.tale] at this
          exact this
        · rw [upH_other H _ hq]; exact h.fitT q
      · have := h.offb hb
        rcases g4 with ⟨_, _, a3⟩ | ⟨_, a2, _⟩
        · exact a3.trans this
        · exact a2
      · simp only at hy hl
        rw [g1] at hl
        rw [g3] at hy
        rcases List.mem_append.1 hy with hy | hy
        · have hl' := hold y hy _ k R hl
          have hR : R ≠ rb := fun e => by
            have := hl'.side
            rw [e, b.hside] at this
            omega
          rw [upH_other H _ hR]
          exact h.loose y hy k R hl'
        · have := (hnew y hy _ k R hl).1
          omega
      · simp only at hb
        rw [g1] at hb
        have := (bear_legit h.inv.sureL hside hlt hrb1 hb).2.1
        omega
      · simp only at hy hl
        rw [g1] at hl
        rw [g3] at hy
        rcases List.mem_append.1 hy with hy | hy
        · have := b.loose y hy k R (hold y hy _ k R hl)
          exact ⟨this.1, this.2.1, by omega⟩
        · have := hnew y hy _ k R hl
          exact ⟨this.2.2.2, by omega, this.2.2.1⟩
      · rw [upH_same]
        simp only
        rw [hz, cntF_snoc _ _ _ (by omega)]
        have := b.least
        rw [b.tale, q3] at this
        exact this
      · rw [upH_same]
        exact List.take_prefix _ _
      · simp only
        rw [g1]
        refine b.oth.up (fun q hb e => ?_)
        subst e
        have := (bear_legit h.inv.sureL (by omega) (by omega) hrb1 hb).1
        rw [b.hside] at this
        omega
      · simp only at hrd
        have ha1 : e = 0 := by simpa using hrd
        rcases g4 with ⟨_, a2, _⟩ | ⟨a1, _⟩
        · refine ⟨by rw [upH_same], by rw [upH_same]; simp only; rw [hpT, List.length_append, ← hq2, a2], by rw [upH_same], fun k hk => ?_, htop⟩
          simp only
          rw [g2]
          by_cases hk2 : k < hi
          · exact (bear_kept (by omega)).2 (q4 k hk2)
          · exact bear_laid hside (by rw [h.inv.good.size, h.inv.len]) hn (by omega) (by rw [hlen]; omega) (fun c hcc => (hch c (List.mem_of_mem_take hcc)).1) (by omega) (by rw [hlen]; omega)
        · rw [a1] at ha1; cases ha1
    · rw [if_neg hfit]
      exact .inl ⟨.inr rfl, rfl⟩
end
end

end Go.Proofs.Ytipikkniookanaa
