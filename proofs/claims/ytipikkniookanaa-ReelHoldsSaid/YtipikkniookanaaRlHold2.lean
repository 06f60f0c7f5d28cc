/- What was sure is there behind a loss of power, in plain words. -/
import Derived.Test.YtipikkniookanaaRlHold
namespace Go.Proofs.Ytipikkniookanaa
set_option maxRecDepth 100000

theorem told_one {S : List (List Nat)} {s : Nat} (hs : s ≤ 1) (hb : (rowOf S (s : Int)).2.1 ≠ []) (h0 : 0 < (rowOf S (s : Int)).1) (ho : (rowOf S ((1 - s : Nat) : Int)).2.1 = [] ∨ (rowOf S ((1 - s : Nat) : Int)).1 < (rowOf S (s : Int)).1) : toldL S = (s, (rowOf S (s : Int)).1, (rowOf S (s : Int)).2.1) := by
  rcases Nat.le_one_iff_eq_zero_or_eq_one.1 hs with rfl | rfl
  · have e : told0 S = (0, (rowOf S 0).1, (rowOf S 0).2.1) := by unfold told0; rw [if_pos ⟨hb, h0⟩]
    unfold toldL
    rw [e, if_neg (fun hh => by
      rcases ho with ho | ho
      · exact hh.1 ho
      · have := hh.2
        simp only at this
        have ho' : (rowOf S 1).1 < (rowOf S 0).1 := ho
        omega)]
    rfl
  · unfold toldL
    have e0 : (told0 S).2.1 < (rowOf S 1).1 := by
      unfold told0
      split
      · rename_i hh
        rcases ho with ho | ho
        · exact absurd ho hh.1
        · exact ho
      · exact h0
    rw [if_pos ⟨hb, e0⟩]
    rfl
theorem told_none {S : List (List Nat)} (h0 : (rowOf S 0).2.1 = []) (h1 : (rowOf S 1).2.1 = []) : toldL S = (1, 0, []) := by
  unfold toldL told0
  rw [if_neg (fun hh => hh.1 h1), if_neg (fun hh => hh.1 h0)]

theorem bear_one {n : Nat} {S : List (List Nat)} {s k q r : Nat} (h1 : bearAt n S s q k) (h2 : bearAt n S s r k) : q = r := by
  obtain ⟨c, hc, hb⟩ := h1
  obtain ⟨d, hd, hb2⟩ := h2
  rw [hc] at hd
  injection hd with hd
  subst hd
  simp only [bearsC, Bool.and_eq_true, beq_iff_eq] at hb hb2
  have := hb.1.symm.trans hb2.1
  unfold markN at this
  omega

theorem cnt_zero {t : List Nat} {ws : List (List Nat)} {j : Nat} (h : j < cellsN t.length) : cntF (sizesT t ws) j = 0 := by
  simp only [sizesT, cntF]
  rw [if_neg (by omega)]
theorem cnt_pos {t : List Nat} {ws : List (List Nat)} {j : Nat} (h : 1 ≤ cntF (sizesT t ws) j) : cellsN t.length ≤ j := by
  rcases Nat.lt_or_ge j (cellsN t.length) with hlt | hge
  · rw [cnt_zero hlt] at h; omega
  · exact hge

section
variable {n : Nat} {H : Nat → Hs} {S : List (List Nat)}

/-- A side that is told nothing, or an older round. -/
theorem os_row (hl : S.length = n) (hn : n ≤ 60) (h4 : 4 ≤ n) (hS : LgAll n H S) (ho : ∀ q, (H q).Ok) (hfit : ∀ q, cellsN (H q).t.length ≤ n / 2) {s b : Nat} (hs : s ≤ 1) (h : (rowOf S (s : Int)).2.1 = [] ∨ (rowOf S (s : Int)).1 < b) : OS n H S s b := by
  intro q hq hb
  rcases row_legit hl hn hS ho hs with ⟨_, hno⟩ | ⟨r, j, h1, h2, h3, h5, h6, h7, h8, _, h10, h11, h12⟩
  · exact absurd hb (hno q hq (by omega))
  · have e := bear_one hb (h11 0 (by omega))
    subst e
    rcases h with h | h
    · rw [h10] at h
      have hc : cntF (sizesT (H q).t (H q).ws) j = 0 := by
        rcases Nat.eq_zero_or_pos (cntF (sizesT (H q).t (H q).ws) j) with hz | hz
        · exact hz
        · obtain ⟨m, hm⟩ : ∃ m, cntF (sizesT (H q).t (H q).ws) j = m + 1 := ⟨_, (Nat.succ_pred_eq_of_pos hz).symm⟩
          rw [hm, List.take_succ_cons] at h
          cases h
      have hlt : j < cellsN (H q).t.length := by
        rcases Nat.lt_or_ge j (cellsN (H q).t.length) with hlt | hge
        · exact hlt
        · simp only [sizesT, cntF] at hc
          rw [if_pos hge] at hc
          omega
      have := hfit q
      exact .inr ⟨j, hlt, by omega, h12 (by omega)⟩
    · rw [h8] at h
      exact .inl h
end

/-- What is told behind a loss of power. -/
theorem Hold.fail {n : Nat} {r : Rl} {H : Nat → Hs} {T : Nat} {nt nx : List Nat} {nw : List (List Nat)} {su : Nat} {bg : Bool} (h : Hold n r H T nt nw su nx bg) (keep : List Nat) (torn at_ : Int) (hT : topL (r.P.fail keep torn at_).last ≤ T) {sd rd : Nat} {bo : List (List Nat)} (ht : toldL (r.P.fail keep torn at_).last = (sd, rd, bo)) :
    ((bo.headD [] = nt ∧ su ≤ bo.tail.length ∧ bo.tail <+: nw) ∨ (bg = true ∧ bo.headD [] = nx ∧ bo.tail = [])) ∧ Hold n ⟨r.P.fail keep torn at_, sd, false⟩ H T (bo.headD []) bo.tail bo.tail.length nx false := by
  have hinv := h.inv.failed keep torn at_
  obtain ⟨hS, hS2, hS3⟩ := h.inv.outcome (h.inv.fails keep torn at_).1 (h.inv.fails keep torn at_).2
  have hn4 := h.n4
  have hn60 := h.inv.n60
  obtain ⟨S, hSe⟩ : ∃ S, failL keep torn at_ 0 r.P.loose r.P.sure = S := ⟨_, rfl⟩
  have es : (r.P.fail keep torn at_).sure = S := hSe
  have el : (r.P.fail keep torn at_).last = S := hSe
  have eo : (r.P.fail keep torn at_).loose = [] := rfl
  rw [hSe] at hS hS2 hS3
  rw [el] at ht hT
  have hl : S.length = n := by rw [← es]; exact hinv.len
  have hok := h.inv.ok
  -- a side on which a round is told
  have hwhole : ∀ s : Nat, s ≤ 1 → (rowOf S (s : Int)).2.1 ≠ [] → ∃ q j, 1 ≤ q ∧ (H q).side = s ∧ j ≤ (H q).m ∧ j ≤ n / 2 ∧ (rowOf S (s : Int)).1 = q ∧ (rowOf S (s : Int)).2.1 = ((H q).t :: (H q).ws).take (cntF (sizesT (H q).t (H q).ws) j) ∧ 1 ≤ cntF (sizesT (H q).t (H q).ws) j ∧ (∀ k, k < j → bearAt n S s q k) ∧ (j < n / 2 → ¬ bearAt n S s q j) := by
    intro s hs hne
    rcases row_legit hl hn60 hS hok hs with ⟨h0, _⟩ | ⟨q, j, h1, h2, h3, h5, h6, h7, h8, _, h10, h11, h12⟩
    · rw [h0] at hne; exact absurd rfl hne
    · refine ⟨q, j, h1, h3, h6, h7, h8, h10, ?_, h11, h12⟩
      rcases Nat.eq_zero_or_pos (cntF (sizesT (H q).t (H q).ws) j) with hz | hz
      · rw [h10, hz] at hne; exact absurd rfl hne
      · exact hz
  -- on the other side only the tale that was begun
  have hfresh : ∀ b, OS n H r.P.sure (1 - r.side) b → (rowOf S ((1 - r.side : Nat) : Int)).2.1 ≠ [] → b ≤ (rowOf S ((1 - r.side : Nat) : Int)).1 → bg = true ∧ (rowOf S ((1 - r.side : Nat) : Int)).2.1 = [nx] := by
    intro b hos hne hle
    obtain ⟨q, j, q1, q2, q3, q4, q5, q6, q7, q8, q9⟩ := hwhole (1 - r.side) (by omega) hne
    have hcj := cnt_pos q7
    have hpos : 0 < cellsN (H q).t.length := cellsN_pos (hok q).tale.1
    have hnx : bg = true ∧ (H q).t = nx ∧ (H q).ws = [] := by
      rcases hS2 (1 - r.side) 0 q (by omega) (by omega) q1 (q8 0 (by omega)) with hb | ⟨x, hx, hlo⟩
      · rcases hos q q1 hb with hlt | ⟨k, k1, k2, k3⟩
        · rw [q5] at hle; omega
        · rcases hS2 (1 - r.side) k q (by omega) k2 q1 (q8 k (by omega)) with hb | ⟨x, hx, hlo⟩
          · exact absurd hb k3
          · exact h.loose x hx k q hlo
      · exact h.loose x hx 0 q hlo
    refine ⟨hnx.1, ?_⟩
    rw [q6, hnx.2.2, hnx.2.1]
    have := cntF_le (sizesT (H q).t (H q).ws) j
    rw [hnx.2.2] at this q7
    simp only [sizesT, List.map_nil, List.length_cons, List.length_nil] at this
    rw [hnx.2.1] at this q7
    rw [show cntF (sizesT nx []) j = 1 by simp only [sizesT, List.map_nil] at q7 this ⊢; omega]
    rfl
  have mkBase : ∀ s : Nat, s ≤ 1 → (rowOf S (s : Int)).2.1 ≠ [] → ((rowOf S ((1 - s : Nat) : Int)).2.1 = [] ∨ (rowOf S ((1 - s : Nat) : Int)).1 < (rowOf S (s : Int)).1) → Hold n ⟨r.P.fail keep torn at_, s, false⟩ H T ((rowOf S (s : Int)).2.1.headD []) (rowOf S (s : Int)).2.1.tail (rowOf S (s : Int)).2.1.tail.length nx false := by
    intro s hs hne hoo
    obtain ⟨q, j, q1, q2, q3, q4, q5, q6, q7, q8, q9⟩ := hwhole s hs hne
    obtain ⟨m, hm⟩ : ∃ m, cntF (sizesT (H q).t (H q).ws) j = m + 1 := ⟨_, (Nat.succ_pred_eq_of_pos q7).symm⟩
    rw [hm, List.take_succ_cons] at q6
    have hml : m ≤ (H q).ws.length := by
      have := cntF_le (sizesT (H q).t (H q).ws) j
      simp only [sizesT, List.length_cons, List.length_map] at this
      simp only [sizesT] at hm
      omega
    rw [q6]
    refine ⟨hinv, h.n4, hs, by rw [el]; exact hT, h.fitT, (fun hb => by cases hb), fun x hx => by rw [eo] at hx; simp at hx, .inr ⟨q, j, j, q1, q2, rfl, Nat.le_refl _, q3, q4, by rw [es]; exact q8, by rw [es]; exact q9, fun x hx => by rw [eo] at hx; simp at hx, ?_, ?_, ?_, (fun hb => by cases hb)⟩⟩
    · simp only [List.tail_cons, List.length_take]
      rw [hm]
      omega
    · rw [hm]
      simp only [List.tail_cons, Nat.add_sub_cancel]
      exact List.prefix_rfl
    · rw [es]
      exact os_row hl hn60 hn4 hS hok h.fitT (by simp only; omega) (by
        rcases hoo with hoo | hoo
        · exact .inl hoo
        · exact .inr (by rw [← q5]; exact hoo))
  rcases h.base with b | ⟨rb, j0, hi, b⟩
  · -- no tale was sure
    have hsd := b.side
    have h1 : (rowOf S 1).2.1 = [] := by
      apply Classical.byContradiction
      intro hne
      obtain ⟨q, j, q1, q2, q3, q4, q5, q6, q7, q8, q9⟩ := hwhole 1 (Nat.le_refl _) hne
      have hcj := cnt_pos q7
      have hpos : 0 < cellsN (H q).t.length := cellsN_pos (hok q).tale.1
      have hsure : ∀ k, k < j → bearAt n r.P.sure 1 q k := fun k hk => by
        rcases hS2 1 k q (Nat.le_refl _) (by omega) q1 (q8 k hk) with hb | ⟨x, hx, hlo⟩
        · exact hb
        · exact absurd hlo (b.loose x hx k q)
      rcases b.one q q1 (hsure 0 (by omega)) with hlt | ⟨k, k1, k2, k3⟩
      · omega
      · exact k3 (hsure k (by omega))
    by_cases h0 : (rowOf S 0).2.1 = []
    · rw [told_none h0 h1] at ht
      injection ht with e1 e2
      injection e2 with e2 e3
      subst e1 e2 e3
      refine ⟨.inl ⟨b.tale.symm, by rw [b.least]; exact Nat.zero_le _, by simp⟩, hinv, h.n4, Nat.le_refl _, by rw [el]; exact hT, h.fitT, (fun hb => by cases hb), fun x hx => by rw [eo] at hx; simp at hx, .inl ⟨rfl, rfl, rfl, rfl, rfl, ?_, ?_, fun x hx => by rw [eo] at hx; simp at hx⟩⟩
      · rw [es]; exact os_row hl hn60 hn4 hS hok h.fitT (by omega) (.inl h0)
      · rw [es]; exact os_row hl hn60 hn4 hS hok h.fitT (by omega) (.inl h1)
    · have hf := hfresh 0 (by rw [hsd]; exact b.zero) (by rw [hsd]; exact h0) (Nat.zero_le _)
      rw [hsd] at hf
      have hq0 : 0 < (rowOf S ((0 : Nat) : Int)).1 := by
        obtain ⟨q, j, q1, _, _, _, q5, _⟩ := hwhole 0 (by omega) h0
        rw [q5]; omega
      have hbs := mkBase 0 (by omega) h0 (.inl h1)
      rw [told_one (s := 0) (by omega) h0 hq0 (.inl h1)] at ht
      injection ht with e1 e2
      injection e2 with e2 e3
      subst e1 e2 e3
      have hfe : (rowOf S ((0 : Nat) : Int)).2.1 = [nx] := hf.2
      exact ⟨.inr ⟨hf.1, by rw [hfe]; rfl, by rw [hfe]; rfl⟩, hbs⟩
  · -- a tale was sure
    have hside := h.side
    have hc0 := cnt_pos (Nat.le_trans (Nat.le_add_right 1 su) b.least)
    have hpos : 0 < cellsN (H rb).t.length := cellsN_pos (hok rb).tale.1
    have hj0n : j0 ≤ n / 2 := Nat.le_trans b.j0hi b.hin
    have hkeep : ∀ k, k < j0 → bearAt n S r.side rb k := fun k hk => hS3 r.side k rb hside (by omega) (b.there k hk) (fun x hx e => by
      obtain ⟨s', k', R, hlo⟩ := h.inv.looseL x hx
      obtain ⟨rfl, rfl⟩ := idx_inj hside hlo.s1 (by omega) hlo.k1 (e.symm.trans hlo.at_)
      have := (b.loose x hx k R hlo).2.1
      omega)
    rcases row_legit hl hn60 hS hok hside with ⟨_, hno⟩ | ⟨q, j, h1, h2, h3, h5, h6, h7, h8, _, h10, h11, h12⟩
    · exact absurd (hkeep 0 (by omega)) (hno rb b.rb1 (by omega))
    · have e := bear_one (hkeep 0 (by omega)) (h11 0 (by omega))
      subst e
      have hj1 : j0 ≤ j := by
        rcases Nat.lt_or_ge j j0 with hlt | hge
        · exact absurd (hkeep j hlt) (h12 (by omega))
        · exact hge
      have hj2 : j ≤ hi := by
        rcases Nat.lt_or_ge hi j with hlt | hge
        · rcases hS2 r.side hi rb hside (by omega) b.rb1 (h11 hi hlt) with hb | ⟨x, hx, hlo⟩
          · exact absurd hb (b.ends (by omega))
          · have := (b.loose x hx hi rb hlo).2.2
            omega
        · exact hge
      have hc1 := cntF_mono (sizesT (H rb).t (H rb).ws) j0 j hj1
      have hc2 := cntF_mono (sizesT (H rb).t (H rb).ws) j hi hj2
      have hb1 := b.least
      obtain ⟨m, hm⟩ : ∃ m, cntF (sizesT (H rb).t (H rb).ws) j = m + 1 := ⟨cntF (sizesT (H rb).t (H rb).ws) j - 1, by omega⟩
      have hml : m ≤ (H rb).ws.length := by
        have := cntF_le (sizesT (H rb).t (H rb).ws) j
        rw [hm] at this
        simp only [sizesT, List.length_cons, List.length_map] at this
        omega
      rw [hm, List.take_succ_cons] at h10
      have hne : (rowOf S (r.side : Int)).2.1 ≠ [] := by rw [h10]; simp
      have hq0 : 0 < (rowOf S (r.side : Int)).1 := by rw [h8]; exact b.rb1
      by_cases hoo : (rowOf S ((1 - r.side : Nat) : Int)).2.1 = [] ∨ (rowOf S ((1 - r.side : Nat) : Int)).1 < (rowOf S (r.side : Int)).1
      · have hbs := mkBase r.side hside hne hoo
        rw [told_one hside hne hq0 hoo] at ht
        injection ht with e1 e2
        injection e2 with e2 e3
        subst e1 e2 e3
        refine ⟨.inl ?_, hbs⟩
        rw [h10]
        refine ⟨b.tale, ?_, ?_⟩
        · simp only [List.tail_cons, List.length_take]
          omega
        · simp only [List.tail_cons]
          refine List.IsPrefix.trans ?_ b.most
          have : m ≤ cntF (sizesT (H rb).t (H rb).ws) hi - 1 := by omega
          exact List.take_prefix_take_left this
      · have hone : (rowOf S ((1 - r.side : Nat) : Int)).2.1 ≠ [] := fun e => hoo (.inl e)
        have hge : (rowOf S (r.side : Int)).1 ≤ (rowOf S ((1 - r.side : Nat) : Int)).1 := Nat.le_of_not_lt (fun e => hoo (.inr e))
        have hf := hfresh rb b.oth hone (by rw [← h8]; exact hge)
        have hlt : (rowOf S (r.side : Int)).1 < (rowOf S ((1 - r.side : Nat) : Int)).1 := by
          obtain ⟨q, j', q1, q2, _, _, q5, _⟩ := hwhole (1 - r.side) (by omega) hone
          rw [q5, h8] at hge ⊢
          rcases Nat.lt_or_ge rb q with hlt | hge2
          · exact hlt
          · have : rb = q := by omega
            subst this
            rw [h3] at q2
            omega
        have hu : 1 - (1 - r.side) = r.side := by omega
        have hoo2 : (rowOf S ((1 - (1 - r.side) : Nat) : Int)).2.1 = [] ∨ (rowOf S ((1 - (1 - r.side) : Nat) : Int)).1 < (rowOf S ((1 - r.side : Nat) : Int)).1 := by rw [hu]; exact .inr hlt
        have hbs := mkBase (1 - r.side) (by omega) hone hoo2
        rw [told_one (s := 1 - r.side) (by omega) hone (by omega) hoo2] at ht
        injection ht with e1 e2
        injection e2 with e2 e3
        subst e1 e2 e3
        exact ⟨.inr ⟨hf.1, by rw [hf.2]; rfl, by rw [hf.2]; rfl⟩, hbs⟩

end Go.Proofs.Ytipikkniookanaa
