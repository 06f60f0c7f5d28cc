/- What becomes of a reel, in plain words: pieces that are put, what is read of them, a reel that is ready. -/
import Derived.Test.YtipikkniookanaaRlPut
namespace Go.Proofs.Ytipikkniookanaa
set_option maxRecDepth 100000

/-- Pieces as cells, from a place on. -/
def mkL (base rd : Nat) : Nat → List (List Nat) → List (Nat × List Nat)
  | _, [] => []
  | at_, c :: r => (base + at_, markedC (markN rd at_) c) :: mkL base rd (at_ + 1) r

theorem mkL_len (base rd : Nat) (cs : List (List Nat)) : ∀ at_, (mkL base rd at_ cs).length = cs.length := by
  induction cs with
  | nil => intro at_; rfl
  | cons c r ih => intro at_; simp [mkL, ih]
theorem mkL_get (base rd : Nat) (cs : List (List Nat)) : ∀ at_ (i : Nat) (c : List Nat), cs[i]? = some c → (mkL base rd at_ cs)[i]? = some (base + at_ + i, markedC (markN rd (at_ + i)) c) := by
  induction cs with
  | nil => intro at_ i c h; simp at h
  | cons d r ih =>
    intro at_ i c h
    cases i with
    | zero => simp at h; subst h; rfl
    | succ i =>
      simp only [List.getElem?_cons_succ] at h
      simp only [mkL, List.getElem?_cons_succ]
      rw [ih (at_ + 1) i c h, show base + (at_ + 1) + i = base + at_ + (i + 1) by omega, show at_ + 1 + i = at_ + (i + 1) by omega]
theorem mkL_app (base rd : Nat) (xs ys : List (List Nat)) : ∀ at_, mkL base rd at_ (xs ++ ys) = mkL base rd at_ xs ++ mkL base rd (at_ + xs.length) ys := by
  induction xs with
  | nil => intro at_; rfl
  | cons c r ih =>
    intro at_
    simp only [List.cons_append, mkL, ih, List.length_cons]
    rw [show at_ + 1 + r.length = at_ + (r.length + 1) by omega]

/-- What lies where pieces were laid. -/
theorem lay_other (l : List (Nat × List Nat)) : ∀ (s : List (List Nat)) (i : Nat), (∀ x ∈ l, x.1 ≠ i) → (layAll s l)[i]? = s[i]? := by
  induction l with
  | nil => intro s i _; rfl
  | cons x r ih =>
    intro s i h
    obtain ⟨j, c⟩ := x
    simp only [layAll]
    rw [ih _ i (fun y hy => h y (by simp [hy])), List.getElem?_set_ne (h (j, c) (by simp))]
theorem mkL_bounds (base rd : Nat) (cs : List (List Nat)) : ∀ at_, ∀ x ∈ mkL base rd at_ cs, base + at_ ≤ x.1 ∧ x.1 < base + at_ + cs.length := by
  induction cs with
  | nil => intro at_ x hx; simp [mkL] at hx
  | cons c r ih =>
    intro at_ x hx
    simp only [mkL, List.mem_cons] at hx
    rcases hx with rfl | hx
    · simp
    · have := ih (at_ + 1) x hx
      simp only [List.length_cons]
      omega
theorem lay_mkL (base rd : Nat) (cs : List (List Nat)) : ∀ (at_ : Nat) (s : List (List Nat)) (i : Nat) (c : List Nat), base + at_ + cs.length ≤ s.length → cs[i]? = some c → (layAll s (mkL base rd at_ cs))[base + at_ + i]? = some (markedC (markN rd (at_ + i)) c) := by
  induction cs with
  | nil => intro at_ s i c _ h; simp at h
  | cons d r ih =>
    intro at_ s i c hs h
    simp only [List.length_cons] at hs
    simp only [mkL, layAll]
    cases i with
    | zero =>
      simp at h
      subst h
      rw [lay_other _ _ _ (fun x hx => by have := mkL_bounds base rd r (at_ + 1) x hx; omega), Nat.add_zero, List.getElem?_set_self (by omega), Nat.add_zero]
    | succ i =>
      simp only [List.getElem?_cons_succ] at h
      have := ih (at_ + 1) (s.set (base + at_) (markedC (markN rd at_) d)) i c (by rw [List.length_set]; omega) h
      rw [show base + (at_ + 1) + i = base + at_ + (i + 1) by omega, show at_ + 1 + i = at_ + (i + 1) by omega] at this
      exact this

theorem mput_ok {P : Pl} {side rd at_ : Nat} {c : List Nat} (hs : side ≤ 1) (h1 : 1 ≤ rd) (h2 : rd ≤ 1099511627776) (ha : at_ < P.sure.length / 2) (hc : c.length ≤ 48) :
    P.mput (side : Int) rd (at_ : Int) c = if P.spend.1 == 0 then (0, { P.spend.2 with last := P.last.set (side * (P.sure.length / 2) + at_) (markedC (markN rd at_) c), loose := P.loose ++ [(side * (P.sure.length / 2) + at_, markedC (markN rd at_) c)] }) else (72, P.spend.2) := by
  have hin : side * (P.sure.length / 2) + at_ < P.sure.length := by
    rcases Nat.le_one_iff_eq_zero_or_eq_one.1 hs with rfl | rfl <;> omega
  unfold Pl.mput
  rw [if_pos (by simp only [okPut, isSideB, isRoundB, Bool.and_eq_true, decide_eq_true_eq]; omega)]
  simp only [Int.toNat_natCast]
  unfold Pl.put
  rw [if_pos (by simp only [Pl.has, Bool.and_eq_true, decide_eq_true_eq]; exact ⟨Int.natCast_nonneg _, Int.ofNat_lt.2 hin⟩)]
  simp only [Int.toNat_natCast]

theorem Pl.spend_kept (P : Pl) : P.spend.2.sure = P.sure ∧ P.spend.2.last = P.last ∧ P.spend.2.loose = P.loose := by
  rcases P.spend_cases with ⟨_, _, _, e⟩ | ⟨_, e⟩ <;> rw [e] <;> exact ⟨rfl, rfl, rfl⟩

/-- Pieces are put: a beginning of them, if there is no power for more. -/
theorem putC_runs (side rd : Nat) (hs : side ≤ 1) (h1 : 1 ≤ rd) (h2 : rd ≤ 1099511627776) (cs : List (List Nat)) : ∀ (P : Pl) (at_ : Nat), at_ + cs.length ≤ P.sure.length / 2 → (∀ c ∈ cs, c.length ≤ 48) →
    ∃ j l' o', j ≤ cs.length ∧ (P.putC (side : Int) rd at_ cs).2 = ⟨P.sure, layAll P.last (mkL (side * (P.sure.length / 2)) rd at_ (cs.take j)), P.loose ++ mkL (side * (P.sure.length / 2)) rd at_ (cs.take j), l', o'⟩ ∧
      (((P.putC (side : Int) rd at_ cs).1 = 0 ∧ j = cs.length ∧ o' = P.off ∧ (cs ≠ [] → P.off = false)) ∨ ((P.putC (side : Int) rd at_ cs).1 = 72 ∧ o' = true ∧ (P.off = true → j = 0))) ∧ (P.off = false → P.left = -1 → (P.putC (side : Int) rd at_ cs).1 = 0 ∧ l' = -1) := by
  induction cs with
  | nil =>
    intro P at_ _ _
    exact ⟨0, P.left, P.off, Nat.le_refl _, by simp [Pl.putC, mkL, layAll], .inl ⟨rfl, rfl, rfl, fun h => absurd rfl h⟩, fun _ h => ⟨rfl, h⟩⟩
  | cons c r ih =>
    intro P at_ ha hc
    simp only [List.length_cons] at ha
    have hm := mput_ok hs h1 h2 (show at_ < P.sure.length / 2 by omega) (hc c (by simp))
    obtain ⟨k1, k2, k3⟩ := P.spend_kept
    rcases P.spend_cases with ⟨e1, eo, el, e2⟩ | ⟨e1, e2⟩
    · rw [e1, if_pos (by decide)] at hm
      have hz : (P.mput (side : Int) rd (at_ : Int) c).1 = 0 := by rw [hm]
      obtain ⟨j, l', o', hj, h3, h4, h5⟩ := ih (P.mput (side : Int) rd (at_ : Int) c).2 (at_ + 1) (by rw [hm]; simp only [k1]; omega) (fun d hd => hc d (by simp [hd]))
      have hP : (P.putC (side : Int) rd at_ (c :: r)) = (P.mput (side : Int) rd (at_ : Int) c).2.putC (side : Int) rd (at_ + 1) r := by
        simp only [Pl.putC]
        rw [if_pos (by rw [hz]; decide)]
      rw [hP]
      have s1 : (P.mput (side : Int) rd (at_ : Int) c).2.sure = P.sure := by rw [hm]; exact k1
      have s2 : (P.mput (side : Int) rd (at_ : Int) c).2.last = P.last.set (side * (P.sure.length / 2) + at_) (markedC (markN rd at_) c) := by rw [hm]
      have s3 : (P.mput (side : Int) rd (at_ : Int) c).2.loose = P.loose ++ [(side * (P.sure.length / 2) + at_, markedC (markN rd at_) c)] := by rw [hm]
      have s4 : (P.mput (side : Int) rd (at_ : Int) c).2.off = P.off := by rw [hm]; simp only [e2]
      have s5 : P.left = -1 → (P.mput (side : Int) rd (at_ : Int) c).2.left = -1 := fun h => by rw [hm]; simp only [e2]; rw [if_neg (by omega)]; exact h
      refine ⟨j + 1, l', o', by simp only [List.length_cons]; omega, ?_, ?_, fun ho hl => h5 (s4.trans ho) (s5 hl)⟩
      · rw [h3, s1, s2, s3]
        simp only [List.take_succ_cons, mkL, layAll, List.append_assoc, List.singleton_append]
      · rcases h4 with ⟨a1, a2, a3, _⟩ | ⟨a1, a2, a3⟩
        · exact .inl ⟨a1, by simp only [List.length_cons]; omega, a3.trans s4, fun _ => eo⟩
        · exact .inr ⟨a1, a2, fun h => by rw [eo] at h; cases h⟩
    · rw [e1, if_neg (by decide)] at hm
      have hP : (P.putC (side : Int) rd at_ (c :: r)) = (72, P.spend.2) := by
        simp only [Pl.putC]
        rw [if_neg (by rw [hm]; simp), hm]
      rw [hP]
      refine ⟨0, P.left, true, Nat.zero_le _, ?_, .inr ⟨rfl, rfl, fun _ => rfl⟩, fun ho hl => ?_⟩
      · rw [e2]
        simp [mkL, layAll]
      · exfalso
        have : P.spend.1 = 0 := by
          unfold Pl.spend
          rw [ho, if_neg (by rw [hl]; decide)]
        rw [e1] at this
        cases this

/-- What is read of pieces that lie there. -/
theorem runS_exact (r : Nat) : ∀ (S cs : List (List Nat)) (k : Nat), (∀ i c, cs[i]? = some c → S[i]? = some (markedC (markN r (k + i)) c)) → (∀ c, S[cs.length]? = some c → bearsC c (markN r (k + cs.length)) = false) → (∀ c ∈ cs, c.length ≤ 48) → r ≤ 1099511627776 → k + S.length ≤ 5000 → cs.length ≤ S.length → runS r k S = cs.map pad := by
  intro S
  induction S with
  | nil =>
    intro cs k _ _ _ _ _ hl
    have : cs = [] := List.eq_nil_of_length_eq_zero (by simpa using hl)
    subst this
    rfl
  | cons d T ih =>
    intro cs k h1 h2 h3 hr hk hl
    simp only [List.length_cons] at hk hl
    cases cs with
    | nil =>
      have := h2 d rfl
      simp only [List.length_nil, Nat.add_zero] at this
      simp [runS, this]
    | cons c rest =>
      have h0 := h1 0 c rfl
      simp only [List.getElem?_cons_zero, Nat.add_zero, Option.some.injEq] at h0
      subst h0
      have hc := h3 c (by simp)
      obtain ⟨n1, n2⟩ := numC_marked (show markN r k < 18446744073709551616 by unfold markN; omega) hc
      have hb : bearsC (markedC (markN r k) c) (markN r k) = true := by simp [bearsC, n1, n2]
      have hrest := ih rest (k + 1) (fun i x hx => by
        have := h1 (i + 1) x (by simpa using hx)
        rw [List.getElem?_cons_succ] at this
        rw [this, show k + (i + 1) = k + 1 + i by omega]) (fun x hx => by
        have := h2 x (by simpa using hx)
        rw [List.length_cons, show k + (rest.length + 1) = k + 1 + rest.length by omega] at this
        exact this) (fun x hx => h3 x (by simp [hx])) hr (by omega) (by simpa using hl)
      simp only [runS, hb, if_true, List.map_cons]
      rw [hrest, innerC_marked _ hc]
      rfl

theorem readS_exact {r : Nat} {S cs : List (List Nat)} (h1 : ∀ i c, cs[i]? = some c → S[i]? = some (markedC (markN r i) c)) (h2 : ∀ c, S[cs.length]? = some c → bearsC c (markN r cs.length) = false) (h3 : ∀ c ∈ cs, c.length ≤ 48) (hr1 : 1 ≤ r) (hr : r ≤ 1099511627776) (hk : S.length ≤ 5000) (hl : cs.length ≤ S.length) (hne : cs ≠ []) : readS S = (r, cs.map pad) := by
  have hrun := runS_exact r S cs 0 (fun i c h => by rw [Nat.zero_add]; exact h1 i c h) (fun c h => by rw [Nat.zero_add]; exact h2 c h) h3 hr (by omega) hl
  cases cs with
  | nil => exact absurd rfl hne
  | cons c rest =>
    have h0 := h1 0 c rfl
    cases S with
    | nil => simp at h0
    | cons d T =>
      simp only [List.getElem?_cons_zero, Option.some.injEq] at h0
      subst h0
      obtain ⟨n1, n2⟩ := numC_marked (show markN r 0 < 18446744073709551616 by unfold markN; omega) (h3 c (by simp))
      have hd : numC (markedC (markN r 0) c) 0 / 65536 = r := by rw [n1]; unfold markN; omega
      have hf : firstR (markedC (markN r 0) c :: T) = r := by
        show (if isRoundB (numC (markedC (markN r 0) c) 0 / 65536) && bearsC (markedC (markN r 0) c) (markN (numC (markedC (markN r 0) c) 0 / 65536) 0) then numC (markedC (markN r 0) c) 0 / 65536 else 0) = r
        rw [hd, if_pos (by simp only [isRoundB, bearsC, n1, n2, Bool.and_eq_true, decide_eq_true_eq, beq_self_eq_true]; exact ⟨⟨hr1, hr⟩, trivial, trivial⟩)]
      unfold readS
      rw [hf, if_neg (by omega), hrun]

theorem topM_ge {s : List (List Nat)} {c : List Nat} (h : c ∈ s) : numC c 0 ≤ topM s ∧ numC c 56 ≤ topM s := by
  induction s with
  | nil => simp at h
  | cons d t ih =>
    simp only [topM]
    rcases List.mem_cons.1 h with rfl | h
    · omega
    · have := ih h
      omega
theorem topM_le {s : List (List Nat)} {B : Nat} (h : ∀ c ∈ s, numC c 0 ≤ B ∧ numC c 56 ≤ B) : topM s ≤ B := by
  induction s with
  | nil => simp [topM]
  | cons d t ih =>
    have h1 := h d (by simp)
    have h2 := ih (fun c hc => h c (by simp [hc]))
    simp only [topM]
    omega
theorem mem_lay (l : List (Nat × List Nat)) : ∀ (s : List (List Nat)) (c : List Nat), c ∈ layAll s l → c ∈ s ∨ ∃ x ∈ l, x.2 = c := by
  induction l with
  | nil => intro s c h; exact .inl h
  | cons x r ih =>
    intro s c h
    obtain ⟨j, d⟩ := x
    rcases ih _ c h with h | ⟨y, hy, e⟩
    · rcases List.mem_or_eq_of_mem_set h with h | rfl
      · exact .inl h
      · exact .inr ⟨_, List.mem_cons_self .., rfl⟩
    · exact .inr ⟨y, List.mem_cons_of_mem _ hy, e⟩
theorem mkL_nums {base rd : Nat} {cs : List (List Nat)} {at_ : Nat} (hr : rd ≤ 1099511627776) (ha : at_ + cs.length ≤ 5000) (hc : ∀ c ∈ cs, c.length ≤ 48) : ∀ x ∈ mkL base rd at_ cs, numC x.2 0 / 65536 = rd ∧ numC x.2 56 / 65536 = rd := by
  intro x hx
  obtain ⟨i, hi⟩ := List.mem_iff_getElem?.1 hx
  have hlt := (List.getElem?_eq_some_iff.1 hi).1
  rw [mkL_len] at hlt
  have := mkL_get base rd cs at_ i _ (List.getElem?_eq_getElem hlt)
  rw [hi] at this
  injection this with this
  subst this
  obtain ⟨n1, n2⟩ := numC_marked (show markN rd (at_ + i) < 18446744073709551616 by unfold markN; omega) (hc _ (List.getElem_mem hlt))
  simp only [n1, n2]
  unfold markN
  omega
theorem top_lay {s : List (List Nat)} {base rd at_ : Nat} {cs : List (List Nat)} (hs : topL s ≤ rd) (hr : rd ≤ 1099511627776) (ha : at_ + cs.length ≤ 5000) (hc : ∀ c ∈ cs, c.length ≤ 48) : topL (layAll s (mkL base rd at_ cs)) ≤ rd := by
  have h1 : topM s ≤ rd * 65536 + 65535 := by unfold topL at hs; omega
  have : topM (layAll s (mkL base rd at_ cs)) ≤ rd * 65536 + 65535 := topM_le (fun c hcm => by
    rcases mem_lay _ s c hcm with h | ⟨x, hx, rfl⟩
    · have := topM_ge h
      omega
    · have := mkL_nums hr ha hc x hx
      omega)
  unfold topL
  omega
/-- No round of a side is above the top. -/
theorem firstR_top (S : List (List Nat)) (s : List (List Nat)) (h : ∀ c ∈ S, c ∈ s) : firstR S ≤ topL s := by
  cases S with
  | nil => simp [firstR]
  | cons c t =>
    show (if isRoundB (numC c 0 / 65536) && bearsC c (markN (numC c 0 / 65536) 0) then numC c 0 / 65536 else 0) ≤ _
    have := (topM_ge (h c (by simp))).1
    unfold topL
    split
    · exact Nat.div_le_div_right this
    · omega
theorem readL_top (s : List (List Nat)) (side : Int) : (readL s side).1 ≤ topL s := by
  unfold readL
  split
  · unfold readS
    split
    · simp
    · exact firstR_top _ s (fun c hc => List.mem_of_mem_drop (List.mem_of_mem_take hc))
  · simp

theorem sideL_get? (s : List (List Nat)) {side k : Nat} (_h : side ≤ 1) (hk : k < s.length / 2) : (sideL s side)[k]? = s[side * (s.length / 2) + k]? := by
  unfold sideL
  rw [List.getElem?_take, if_pos hk, List.getElem?_drop]
theorem sideL_ext {s t : List (List Nat)} {side : Nat} (hs : side ≤ 1) (hl : s.length = t.length) (h : ∀ k, k < s.length / 2 → s[side * (s.length / 2) + k]? = t[side * (s.length / 2) + k]?) : sideL s side = sideL t side := by
  apply List.ext_getElem?
  intro k
  by_cases hk : k < s.length / 2
  · rw [sideL_get? s hs hk, sideL_get? t hs (by rw [← hl]; exact hk), ← hl]
    exact h k hk
  · rw [List.getElem?_eq_none (by rw [sideL_len s hs]; omega), List.getElem?_eq_none (by rw [sideL_len t hs, ← hl]; omega)]
theorem readL_side (s : List (List Nat)) {side : Nat} (hs : side ≤ 1) : readL s (side : Int) = readS (sideL s side) := by
  unfold readL
  rw [if_pos (by simp only [isSideB, Bool.and_eq_true, decide_eq_true_eq]; omega), Int.toNat_natCast]

/-- A reel that is ready, on a plate on which nobody counts: its round, its tale and its words. -/
structure Rdy (r : Rl) (rd : Nat) (t : List Nat) (ws : List (List Nat)) : Prop where
  good : r.P.Good
  off : r.P.off = false
  left : r.P.left = -1
  side : r.side ≤ 1
  ready : r.ready = true
  rd1 : 1 ≤ rd
  rd2 : rd ≤ 1099511627776
  tale : Word t
  words : ∀ x ∈ ws, Word x
  fit : (piecesT t ws).length ≤ r.room
  here : ∀ k c, (piecesT t ws)[k]? = some c → r.P.last[r.side * r.room + k]? = some (markedC (markN rd k) c)
  free : ∀ k c, (piecesT t ws).length ≤ k → k < r.room → r.P.last[r.side * r.room + k]? = some c → numC c 0 ≠ markN rd k
  oth : (readL r.P.last ((1 - r.side : Nat) : Int)).1 < rd
  top : topL r.P.last ≤ rd

theorem pieces_pos (t : List Nat) (ws : List (List Nat)) : piecesT t ws ≠ [] := by
  intro e
  have := congrArg List.length e
  simp only [piecesT, List.length_append, chunksL_len, frameL_len, List.length_nil] at this
  omega

theorem puts_mkL {side n at_ rd : Nat} {cs : List (List Nat)} (hs : side ≤ 1) (ha : at_ + cs.length ≤ n / 2) (hc : ∀ c ∈ cs, c.length ≤ 48 ∧ Bytes c) : Puts n (mkL (side * (n / 2)) rd at_ cs) := by
  intro x hx
  have hb := mkL_bounds _ _ _ _ x hx
  obtain ⟨i, hi⟩ := List.mem_iff_getElem?.1 hx
  have hlt := (List.getElem?_eq_some_iff.1 hi).1
  rw [mkL_len] at hlt
  have := mkL_get (side * (n / 2)) rd cs at_ i _ (List.getElem?_eq_getElem hlt)
  rw [hi] at this
  injection this with this
  subst this
  have hcc := hc _ (List.getElem_mem hlt)
  refine ⟨?_, markedC_is _ hcc.1 hcc.2⟩
  rcases Nat.le_one_iff_eq_zero_or_eq_one.1 hs with rfl | rfl <;> simp only [Nat.zero_mul, Nat.one_mul] at hb ⊢ <;> omega

section
variable {r : Rl} {rd : Nat} {t : List Nat} {ws : List (List Nat)}

theorem Rdy.read (h : Rdy r rd t ws) : readL r.P.last (r.side : Int) = (rd, (piecesT t ws).map pad) := by
  have hsz := h.good.size
  have hm := h.good.most
  have hf := h.fit
  unfold Rl.room at hf
  rw [readL_side _ h.side]
  refine readS_exact (fun i c hc => ?_) (fun c hc => ?_) (fun c hc => (pieces_each h.tale h.words c hc).1) h.rd1 h.rd2 (by rw [sideL_len _ h.side]; omega) (by rw [sideL_len _ h.side, hsz]; exact hf) (pieces_pos t ws)
  · have hi := (List.getElem?_eq_some_iff.1 hc).1
    rw [sideL_get? _ h.side (by rw [hsz]; omega), hsz]
    exact h.here i c hc
  · have hi := (List.getElem?_eq_some_iff.1 hc).1
    rw [sideL_len _ h.side, hsz] at hi
    rw [sideL_get? _ h.side (by rw [hsz]; omega), hsz] at hc
    have := h.free _ c (Nat.le_refl _) hi hc
    simp only [bearsC, Bool.and_eq_false_iff, beq_eq_false_iff_ne]
    exact .inl this
theorem Rdy.row (h : Rdy r rd t ws) : r.row = (rd, t :: ws, (piecesT t ws).length) := by
  unfold Rl.row rowOf
  rw [h.read]
  have := parse_tale h.tale h.words (b := []) (by rw [frameAt_nil])
  rw [List.append_nil] at this
  simp only [this]
theorem Rdy.told (h : Rdy r rd t ws) : toldL r.P.last = (r.side, rd, t :: ws) := by
  have hr := h.row
  have ho := h.oth
  unfold Rl.row at hr
  have h1 := h.rd1
  rcases Nat.le_one_iff_eq_zero_or_eq_one.1 h.side with hs | hs
  · rw [hs] at hr ho ⊢
    have e : told0 r.P.last = (0, rd, t :: ws) := by
      unfold told0
      rw [show rowOf r.P.last 0 = _ from hr, if_pos ⟨by simp, by show 0 < rd; omega⟩]
    unfold toldL
    rw [e, if_neg (fun hh => by have : (rowOf r.P.last 1).1 < rd := ho; have := hh.2; simp only at this; omega)]
  · rw [hs] at hr ho ⊢
    unfold toldL
    have e0 : (told0 r.P.last).2.1 < rd := by
      unfold told0
      split
      · exact ho
      · simp only; omega
    rw [show rowOf r.P.last 1 = _ from hr, if_pos ⟨by simp, e0⟩]
theorem Rdy.leftN (h : Rdy r rd t ws) : r.left = r.room - (piecesT t ws).length := by
  unfold Rl.left
  rw [h.ready, if_pos rfl, h.row]

theorem layAll_get_other {base rd at_ : Nat} {cs s : List (List Nat)} {i : Nat} (h : i < base + at_ ∨ base + at_ + cs.length ≤ i) : (layAll s (mkL base rd at_ cs))[i]? = s[i]? :=
  lay_other _ s i (fun x hx => by have := mkL_bounds base rd cs at_ x hx; omega)

theorem Rdy.add (h : Rdy r rd t ws) {x : List Nat} (hx : Word x) (hf : cellsN x.length ≤ r.room - (piecesT t ws).length) (hl : r.P.loose.length + cellsN x.length ≤ 100000) :
    ∃ r', r.add x = (0, r') ∧ Rdy r' rd t (ws ++ [x]) ∧ r'.P.sure.length = r.P.sure.length ∧ r'.side = r.side ∧ r'.P.loose.length = r.P.loose.length + cellsN x.length := by
  have hc := frame_cells 2 hx.1
  have hfit := h.fit
  have hpos := cellsN_pos hx.1
  have hch : ∀ c ∈ chunksL (frameL 2 x), c.length ≤ 48 ∧ Bytes c := chop_each _ _ (frameL_bytes (by decide) hx.2)
  obtain ⟨j, l', o', hj, h3, h4, h5⟩ := putC_runs r.side rd h.side h.rd1 h.rd2 (chunksL (frameL 2 x)) r.P (piecesT t ws).length (by rw [hc]; unfold Rl.room at hf hfit; omega) (fun c hc => (hch c hc).1)
  obtain ⟨e0, el⟩ := h5 h.off h.left
  rcases h4 with ⟨_, hj2, ho', _⟩ | ⟨e1, _⟩
  · subst hj2
    rw [List.take_length] at h3
    have hadd : r.add x = (0, ⟨(r.P.putC (r.side : Int) rd (piecesT t ws).length (chunksL (frameL 2 x))).2, r.side, true⟩) := by
      unfold Rl.add
      rw [h.ready, if_pos rfl, h.row]
      simp only
      rw [if_pos (by simp only [fitsB, Bool.and_eq_true, decide_eq_true_eq]; exact ⟨hpos, hf⟩), e0]
      rfl
    rw [h3] at hadd
    have hgood : (r.P.putC (r.side : Int) rd (piecesT t ws).length (chunksL (frameL 2 x))).2.Good := by
      rw [h3]
      have hps : Puts r.P.sure.length (mkL (r.side * (r.P.sure.length / 2)) rd (piecesT t ws).length (chunksL (frameL 2 x))) := puts_mkL h.side (by rw [hc]; unfold Rl.room at hf hfit; omega) hch
      exact ⟨by rw [layAll_len]; exact h.good.size, h.good.most, h.good.cs, cells_layAll _ _ h.good.cl hps, fun y hy => (List.mem_append.1 hy).elim (h.good.lo y) (hps y), by simp only [List.length_append, mkL_len, hc]; exact hl, by show -1 ≤ l'; omega, by show l' ≤ _; omega⟩
    rw [h3] at hgood
    have hroom : r.room = r.P.sure.length / 2 := rfl
    refine ⟨_, hadd, ⟨hgood, by rw [← h.off, ← ho'], el, h.side, rfl, h.rd1, h.rd2, h.tale, fun y hy => ?_, ?_, fun k c hk => ?_, fun k c hk hk2 hkc => ?_, ?_, ?_⟩, rfl, rfl, by simp only [List.length_append, mkL_len, hc]⟩
    · rcases List.mem_append.1 hy with hy | hy
      · exact h.words y hy
      · simp at hy; subst hy; exact hx
    · rw [piecesT_snoc, List.length_append, hc]
      show _ ≤ r.P.sure.length / 2
      rw [← hroom]
      omega
    · simp only [Rl.room] at *
      rw [piecesT_snoc] at hk
      by_cases hlt : k < (piecesT t ws).length
      · rw [List.getElem?_append_left hlt] at hk
        rw [layAll_get_other (by omega)]
        exact h.here k c hk
      · rw [List.getElem?_append_right (by omega)] at hk
        have hki := (List.getElem?_eq_some_iff.1 hk).1
        have := lay_mkL (r.side * (r.P.sure.length / 2)) rd (chunksL (frameL 2 x)) (piecesT t ws).length r.P.last (k - (piecesT t ws).length) c (by
          rw [h.good.size, hc]
          rcases Nat.le_one_iff_eq_zero_or_eq_one.1 h.side with hs | hs <;> rw [hs] <;> omega) hk
        rw [show r.side * (r.P.sure.length / 2) + (piecesT t ws).length + (k - (piecesT t ws).length) = r.side * (r.P.sure.length / 2) + k by omega, show (piecesT t ws).length + (k - (piecesT t ws).length) = k by omega] at this
        exact this
    · simp only [Rl.room] at *
      rw [piecesT_snoc, List.length_append] at hk
      rw [layAll_get_other (by omega)] at hkc
      exact h.free k c (by omega) hk2 hkc
    · have := h.oth
      have e : readL (layAll r.P.last (mkL (r.side * (r.P.sure.length / 2)) rd (piecesT t ws).length (chunksL (frameL 2 x)))) ((1 - r.side : Nat) : Int) = readL r.P.last ((1 - r.side : Nat) : Int) := by
        rw [readL_side _ (by omega), readL_side _ (by omega)]
        congr 1
        refine sideL_ext (by omega) (layAll_len _ _) (fun k hk => ?_)
        rw [layAll_len, h.good.size] at hk ⊢
        refine layAll_get_other ?_
        unfold Rl.room at hf hfit
        have := h.side
        rcases Nat.le_one_iff_eq_zero_or_eq_one.1 h.side with hs | hs <;> rw [hs] <;> simp only [Nat.zero_mul, Nat.one_mul, Nat.sub_self, Nat.sub_zero] <;> omega
      simp only
      rw [e]
      exact this
    · have hm := h.good.most
      exact top_lay h.top h.rd2 (by rw [hc]; unfold Rl.room at hf hfit; omega) (fun c hc => (hch c hc).1)
  · rw [e0] at e1
    cases e1

theorem flush_calm {P : Pl} (ho : P.off = false) (hl : P.left = -1) : P.flush = (0, ⟨layAll P.sure P.loose, P.last, [], -1, false⟩) := by
  have hsp : P.spend = (0, { P with left := -1 }) := by
    unfold Pl.spend
    rw [ho, hl]
    rfl
  unfold Pl.flush
  rw [hsp]
  simp [ho]
theorem Rdy.flush (h : Rdy r rd t ws) : ∃ r', r.flush = (0, r') ∧ Rdy r' rd t ws ∧ r'.P.sure.length = r.P.sure.length ∧ r'.side = r.side ∧ r'.P.loose.length = 0 := by
  have hf := flush_calm h.off h.left
  have hg := h.good.flush
  rw [hf] at hg
  have e : r.flush = (0, ⟨⟨layAll r.P.sure r.P.loose, r.P.last, [], -1, false⟩, r.side, true⟩) := by
    unfold Rl.flush
    rw [h.ready, if_pos rfl, hf]
    rfl
  have hroom : (layAll r.P.sure r.P.loose).length / 2 = r.room := by rw [layAll_len]; rfl
  refine ⟨_, e, ⟨hg, rfl, rfl, h.side, rfl, h.rd1, h.rd2, h.tale, h.words, ?_, ?_, ?_, h.oth, h.top⟩, by simp [layAll_len], rfl, rfl⟩
  · show _ ≤ (layAll r.P.sure r.P.loose).length / 2
    rw [hroom]; exact h.fit
  · show ∀ k c, _ → r.P.last[r.side * ((layAll r.P.sure r.P.loose).length / 2) + k]? = _
    rw [hroom]; exact h.here
  · show ∀ k c, _ → k < (layAll r.P.sure r.P.loose).length / 2 → r.P.last[r.side * ((layAll r.P.sure r.P.loose).length / 2) + k]? = _ → _
    rw [hroom]; exact h.free

theorem begin_rdy (good : r.P.Good) (off : r.P.off = false) (left : r.P.left = -1) (side : r.side ≤ 1) (ht : Word t) (hf : cellsN t.length ≤ r.room) (htop : topL r.P.last < 1099511627776) (hl : r.P.loose.length + cellsN t.length ≤ 100000) :
    ∃ r', r.begin t = (0, r') ∧ Rdy r' (topL r.P.last + 1) t [] ∧ r'.P.sure.length = r.P.sure.length ∧ r'.side = 1 - r.side ∧ r'.P.loose.length = 0 := by
  have hc := frame_cells 1 ht.1
  have hpos := cellsN_pos ht.1
  have hch : ∀ c ∈ chunksL (frameL 1 t), c.length ≤ 48 ∧ Bytes c := chop_each _ _ (frameL_bytes (by decide) ht.2)
  have hsz := good.size
  obtain ⟨j, l', o', hj, h3, h4, h5⟩ := putC_runs (1 - r.side) (topL r.P.last + 1) (by omega) (by omega) (by omega) (chunksL (frameL 1 t)) r.P 0 (by rw [hc]; unfold Rl.room at hf; omega) (fun c hc => (hch c hc).1)
  obtain ⟨e0, el⟩ := h5 off left
  rcases h4 with ⟨_, hj2, ho', _⟩ | ⟨e1, _⟩
  · subst hj2
    rw [List.take_length] at h3
    have hps : Puts r.P.sure.length (mkL ((1 - r.side) * (r.P.sure.length / 2)) (topL r.P.last + 1) 0 (chunksL (frameL 1 t))) := puts_mkL (by omega) (by rw [hc]; unfold Rl.room at hf; omega) hch
    have hgood : (r.P.putC ((1 - r.side : Nat) : Int) (topL r.P.last + 1) 0 (chunksL (frameL 1 t))).2.Good := by
      rw [h3]
      exact ⟨by rw [layAll_len]; exact good.size, good.most, good.cs, cells_layAll _ _ good.cl hps, fun y hy => (List.mem_append.1 hy).elim (good.lo y) (hps y), by simp only [List.length_append, mkL_len, hc]; exact hl, by show -1 ≤ l'; omega, by show l' ≤ _; omega⟩
    have hff := flush_calm (P := (r.P.putC ((1 - r.side : Nat) : Int) (topL r.P.last + 1) 0 (chunksL (frameL 1 t))).2) (by rw [h3]; exact ho'.trans off) (by rw [h3]; exact el)
    have hgf := hgood.flush
    have hbeg : r.begin t = (0, ⟨(r.P.putC ((1 - r.side : Nat) : Int) (topL r.P.last + 1) 0 (chunksL (frameL 1 t))).2.flush.2, 1 - r.side, true⟩) := by
      unfold Rl.begin
      rw [if_pos (by simp only [fitsB, Bool.and_eq_true, decide_eq_true_eq]; exact ⟨⟨hpos, hf⟩, htop⟩), e0, if_pos (by decide), hff]
      rfl
    rw [hff] at hgf
    rw [hff, h3] at hbeg
    rw [h3] at hgf
    simp only at hbeg hgf
    have hlen : (layAll r.P.sure (r.P.loose ++ mkL ((1 - r.side) * (r.P.sure.length / 2)) (topL r.P.last + 1) 0 (chunksL (frameL 1 t)))).length = r.P.sure.length := layAll_len _ _
    have hpT : piecesT t [] = chunksL (frameL 1 t) := by simp [piecesT, piecesW]
    have hlow : ∀ (k : Nat) (c : List Nat), r.P.last[k]? = some c → numC c 0 / 65536 ≤ topL r.P.last := fun k c hk => by
      have := (topM_ge (List.mem_of_getElem? hk)).1
      exact Nat.div_le_div_right this
    refine ⟨_, hbeg, ⟨hgf, rfl, rfl, by simp only; omega, rfl, by omega, by omega, ht, fun y hy => by simp at hy, ?_, fun k c hk => ?_, fun k c hk hk2 hkc => ?_, ?_, ?_⟩, hlen, rfl, rfl⟩
    · rw [hpT, hc]
      simp only [Rl.room, hlen]
      exact hf
    · rw [hpT] at hk
      simp only [Rl.room, hlen]
      have := lay_mkL ((1 - r.side) * (r.P.sure.length / 2)) (topL r.P.last + 1) (chunksL (frameL 1 t)) 0 r.P.last k c (by
        rw [hsz, hc]
        unfold Rl.room at hf
        rcases Nat.le_one_iff_eq_zero_or_eq_one.1 side with hs | hs <;> rw [hs] <;> omega) hk
      rw [Nat.add_zero, Nat.zero_add] at this
      exact this
    · rw [hpT] at hk
      simp only [Rl.room, hlen] at hk2 hkc
      rw [layAll_get_other (by omega)] at hkc
      have := hlow _ c hkc
      unfold markN
      omega
    · have hu : 1 - (1 - r.side) = r.side := by omega
      have e : readL (layAll r.P.last (mkL ((1 - r.side) * (r.P.sure.length / 2)) (topL r.P.last + 1) 0 (chunksL (frameL 1 t)))) (r.side : Int) = readL r.P.last (r.side : Int) := by
        rw [readL_side _ side, readL_side _ side]
        congr 1
        refine sideL_ext side (layAll_len _ _) (fun k hk => ?_)
        rw [layAll_len, hsz] at hk ⊢
        refine layAll_get_other ?_
        unfold Rl.room at hf
        rcases Nat.le_one_iff_eq_zero_or_eq_one.1 side with hs | hs <;> rw [hs] <;> simp only [Nat.zero_mul, Nat.one_mul, Nat.sub_self, Nat.sub_zero] <;> omega
      simp only
      rw [hu, e]
      have := readL_top r.P.last (r.side : Int)
      omega
    · have hm := good.most
      exact top_lay (by omega) (by omega) (by rw [hc]; unfold Rl.room at hf; omega) (fun c hc => (hch c hc).1)
  · rw [e0] at e1
    cases e1
end

end Go.Proofs.Ytipikkniookanaa
