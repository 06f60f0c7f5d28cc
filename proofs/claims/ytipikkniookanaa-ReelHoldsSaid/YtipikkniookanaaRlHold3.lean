/- Begin and Add keep what holds, in plain words. -/
import Derived.Test.YtipikkniookanaaRlHold2
namespace Go.Proofs.Ytipikkniookanaa
set_option maxRecDepth 100000

section
variable {n : Nat} {r : Rl} {H : Nat → Hs} {T : Nat} {nt nx : List Nat} {nw : List (List Nat)} {su : Nat} {bg : Bool}

theorem Hold.bgOff (h : Hold n r H T nt nw su nx bg) (ho : r.P.off = true) {nx' : List Nat} (hx : bg = true → nx' = nx) : Hold n r H T nt nw su nx' true :=
  ⟨h.inv, h.n4, h.side, h.top, h.fitT, fun _ => ho, fun x hx' k R hl => by
    obtain ⟨a, b, c⟩ := h.loose x hx' k R hl
    exact ⟨rfl, by rw [hx a]; exact b, c⟩, h.base⟩

/-- What is put and not sure is there at last. -/
theorem Inv.loose_last {P : Pl} (h : Inv n P H) {x : Nat × List Nat} (hx : x ∈ P.loose) {s k R : Nat} {S : List (List Nat)} (hl : Loose n H S x s k R) : R ≤ topL P.last := by
  obtain ⟨p, hp1, hp2⟩ := hl.put
  have hpl := ((h.ok R).each p (List.mem_of_getElem? hp1)).1
  have h1 := (topL_get (List.mem_of_getElem? (h.lasts.2 x hx))).1
  have h2 := hl.R2
  have h3 := hl.k1
  have h4 := h.n60
  rw [hp2, (numC_marked (show markN R k < 18446744073709551616 by unfold markN; omega) hpl).1] at h1
  unfold markN at h1
  omega
/-- A thing that is put has one side, one place, one round. -/
theorem loose_one {H' : Nat → Hs} {S S' : List (List Nat)} {x : Nat × List Nat} {s s' k k' R R' : Nat} (ho : ∀ q, (H q).Ok) (ho' : ∀ q, (H' q).Ok) (hn : n ≤ 60) (h1 : Loose n H S x s k R) (h2 : Loose n H' S' x s' k' R') : s = s' ∧ k = k' ∧ R = R' := by
  obtain ⟨rfl, rfl⟩ := idx_inj h1.s1 h2.s1 h1.k1 h2.k1 (h1.at_.symm.trans h2.at_)
  obtain ⟨p, hp1, hp2⟩ := h1.put
  obtain ⟨q, hq1, hq2⟩ := h2.put
  have hpl := ((ho R).each p (List.mem_of_getElem? hp1)).1
  have hql := ((ho' R').each q (List.mem_of_getElem? hq1)).1
  have a1 := h1.R2
  have a2 := h2.R2
  have a3 := h1.k1
  have e := congrArg (fun c => numC c 0) (hp2.symm.trans hq2)
  rw [(numC_marked (show markN R k < 18446744073709551616 by unfold markN; omega) hpl).1, (numC_marked (show markN R' k < 18446744073709551616 by unfold markN; omega) hql).1] at e
  unfold markN at e
  exact ⟨rfl, rfl, by omega⟩
theorem loose_mkL {H' : Nat → Hs} {S : List (List Nat)} {x : Nat × List Nat} {s s' k rd R at_ : Nat} {cs : List (List Nat)} (ho' : ∀ q, (H' q).Ok) (hn : n ≤ 60) (hs : s ≤ 1) (hr : rd ≤ 200) (ha : at_ + cs.length ≤ n / 2) (hc : ∀ c ∈ cs, c.length ≤ 48) (hx : x ∈ mkL (s * (n / 2)) rd at_ cs) (h2 : Loose n H' S x s' k R) : s = s' ∧ at_ ≤ k ∧ k < at_ + cs.length ∧ R = rd := by
  obtain ⟨i, c, hi, rfl⟩ := mkL_mem hx
  have hil := (List.getElem?_eq_some_iff.1 hi).1
  have e := h2.at_
  obtain ⟨rfl, rfl⟩ := idx_inj (k := at_ + i) hs h2.s1 (by omega) h2.k1 (by omega)
  obtain ⟨q, hq1, hq2⟩ := h2.put
  have hql := ((ho' R).each q (List.mem_of_getElem? hq1)).1
  have a2 := h2.R2
  have e := congrArg (fun c => numC c 0) hq2
  simp only at e
  rw [(numC_marked (show markN rd (at_ + i) < 18446744073709551616 by unfold markN; omega) (hc c (List.mem_of_getElem? hi))).1, (numC_marked (show markN R (at_ + i) < 18446744073709551616 by unfold markN; omega) hql).1] at e
  unfold markN at e
  exact ⟨rfl, by omega, by omega, by omega⟩

theorem OS.up {S : List (List Nat)} {s b rd : Nat} {h' : Hs} (h : OS n H S s b) (hq : ∀ q, bearAt n S s q 0 → q ≠ rd) : OS n (upH H rd h') S s b := by
  intro q h1 hb
  rw [upH_other H h' (hq q hb)]
  exact h q h1 hb

theorem fits_of {m c : Nat} (h : fitsB m c = true) : 0 < cellsN m ∧ cellsN m ≤ c := by
  unfold fitsB at h
  rw [Bool.and_eq_true, decide_eq_true_eq, decide_eq_true_eq] at h
  exact h

theorem bear_laid {S cs : List (List Nat)} {s rd at_ k : Nat} (hs : s ≤ 1) (hS : S.length = n) (hn : n ≤ 60) (hr : rd ≤ 200) (ha : at_ + cs.length ≤ n / 2) (hc : ∀ c ∈ cs, c.length ≤ 48) (hk : at_ ≤ k) (hk2 : k < at_ + cs.length) : bearAt n (layAll S (mkL (s * (n / 2)) rd at_ cs)) s rd k := by
  obtain ⟨i, rfl⟩ : ∃ i, k = at_ + i := ⟨k - at_, by omega⟩
  have hi : i < cs.length := by omega
  have := lay_mkL (s * (n / 2)) rd cs at_ S i cs[i] (by rw [hS]; rcases Nat.le_one_iff_eq_zero_or_eq_one.1 hs with rfl | rfl <;> omega) (List.getElem?_eq_getElem hi)
  rw [Nat.add_assoc] at this
  refine ⟨_, this, ?_⟩
  obtain ⟨n1, n2⟩ := numC_marked (show markN rd (at_ + i) < 18446744073709551616 by unfold markN; omega) (hc _ (List.getElem_mem hi))
  simp [bearsC, n1, n2]
theorem bear_kept {S cs : List (List Nat)} {s s' rd at_ k q : Nat} (h : s' * (n / 2) + k < s * (n / 2) + at_ ∨ s * (n / 2) + at_ + cs.length ≤ s' * (n / 2) + k) : bearAt n (layAll S (mkL (s * (n / 2)) rd at_ cs)) s' q k ↔ bearAt n S s' q k := by
  unfold bearAt
  rw [layAll_get_other h]

/-- The piece of a tale that was put for the next round, with all that stays as it was. -/
theorem Hold.begun (h : Hold n r H T nt nw su nx false) (hT : T + 1 ≤ 200) {t : List Nat} (ht : Word t) (hf : cellsN t.length ≤ n / 2) {j : Nat} (hj : j ≤ (chunksL (frameL 1 t)).length) {P' : Pl} (hg : P'.Good) (e1 : P'.sure = r.P.sure) (e2 : P'.last = layAll r.P.last (mkL ((1 - r.side) * (n / 2)) (topL r.P.last + 1) 0 ((chunksL (frameL 1 t)).take j))) (e3 : P'.loose = r.P.loose ++ mkL ((1 - r.side) * (n / 2)) (topL r.P.last + 1) 0 ((chunksL (frameL 1 t)).take j)) :
    Inv n P' (upH H (topL r.P.last + 1) ⟨1 - r.side, t, [], j⟩) ∧ topL P'.last ≤ topL r.P.last + 1 ∧ (P'.off = true → Hold n ⟨P', r.side, false⟩ (upH H (topL r.P.last + 1) ⟨1 - r.side, t, [], j⟩) (T + 1) nt nw su t true) := by
  have hside := h.side
  have hn := h.inv.n60
  have hn4 := h.n4
  have hTop := h.top
  have hc := frame_cells 1 ht.1
  have hpT : piecesT t [] = chunksL (frameL 1 t) := by simp [piecesT, piecesW]
  have hch : ∀ c ∈ (chunksL (frameL 1 t)).take j, c.length ≤ 48 ∧ Bytes c := fun c hcc => chop_each _ _ (frameL_bytes (by decide) ht.2) c (List.mem_of_mem_take hcc)
  have hok : Hs.Ok ⟨1 - r.side, t, [], j⟩ := ⟨ht, fun x hx => by simp at hx, by simp only; rw [hpT]; exact hj⟩
  have hlen : ((chunksL (frameL 1 t)).take j).length = j := by rw [List.length_take]; omega
  have hnoloose : ∀ k, k < n / 2 → ∀ x ∈ r.P.loose, x.1 ≠ (1 - r.side) * (n / 2) + k := fun k hk x hx e => by
    obtain ⟨s, k', R, hl⟩ := h.inv.looseL x hx
    obtain ⟨rfl, rfl⟩ := idx_inj (by omega) hl.s1 hk hl.k1 (e.symm.trans hl.at_)
    have := (h.loose x hx k R hl).1
    cases this
  have hnew : ∀ s' k, k < n / 2 → ¬ ((∃ c, r.P.sure[s' * (n / 2) + k]? = some c ∧ (numC c 0 = markN (topL r.P.last + 1) k ∨ numC c 56 = markN (topL r.P.last + 1) k)) ∨ ∃ x ∈ r.P.loose, Loose n H r.P.sure x s' k (topL r.P.last + 1)) := by
    rintro s' k hk (⟨c, hc, hm⟩ | ⟨x, hx, hl⟩)
    · have := h.inv.top c (List.mem_of_getElem? hc)
      unfold markN at hm
      omega
    · have := h.inv.loose_last hx hl
      omega
  have hinv := h.inv.puts (s := 1 - r.side) (rd := topL r.P.last + 1) (at_ := 0) (h' := ⟨1 - r.side, t, [], j⟩) (by omega) (by omega) (by omega) (by rw [hlen]; omega) rfl hok (by rw [hlen]; simp) (fun i c hi => by rw [Nat.zero_add]; unfold Hs.pc; simp only; rw [hpT]; exact hi)
    (fun k c _ hk hcc => by
      have := h.inv.top c (List.mem_of_getElem? hcc)
      unfold markN
      omega) (fun k _ hk => hnoloose k hk) (fun s' k _ hk hh => absurd hh (hnew s' k hk)) (by omega) hg e1 e2 e3
  have htop : topL P'.last ≤ topL r.P.last + 1 := by
    rw [e2]
    exact top_lay (by omega) (by omega) (by rw [hlen]; omega) (fun c hcc => (hch c hcc).1)
  refine ⟨hinv, htop, fun ho => ?_⟩
  have hneq : ∀ s q k, bearAt n r.P.sure s q k → q ≠ topL r.P.last + 1 := fun s q k hb e => by
    have := h.inv.bear_top hb
    omega
  have hold : ∀ x ∈ r.P.loose, ∀ s k R, Loose n (upH H (topL r.P.last + 1) ⟨1 - r.side, t, [], j⟩) r.P.sure x s k R → Loose n H r.P.sure x s k R := fun x hx s k R hl => by
    obtain ⟨s0, k0, R0, hl0⟩ := h.inv.looseL x hx
    obtain ⟨rfl, rfl, rfl⟩ := loose_one h.inv.ok hinv.ok hn hl0 hl
    exact hl0
  have hin : ∀ x ∈ mkL ((1 - r.side) * (n / 2)) (topL r.P.last + 1) 0 ((chunksL (frameL 1 t)).take j), ∀ s k R, Loose n (upH H (topL r.P.last + 1) ⟨1 - r.side, t, [], j⟩) r.P.sure x s k R → 1 - r.side = s ∧ R = topL r.P.last + 1 := fun x hx s k R hl => by
    obtain ⟨a, _, _, b⟩ := loose_mkL hinv.ok hn (by omega) (by omega) (by rw [hlen]; omega) (fun c hcc => (hch c hcc).1) hx hl
    exact ⟨a, b⟩
  refine ⟨hinv, h.n4, hside, by simp only; omega, fun q => ?_, fun _ => ho, fun x hx k R hl => ?_, ?_⟩
  · by_cases hq : q = topL r.P.last + 1
    · rw [hq, upH_same]; exact hf
    · rw [upH_other H _ hq]; exact h.fitT q
  · rw [e1] at hl
    rw [e3] at hx
    rcases List.mem_append.1 hx with hx | hx
    · have := (h.loose x hx k R (hold x hx _ k R hl)).1
      cases this
    · obtain ⟨_, e⟩ := hin x hx _ k R hl
      rw [e, upH_same]
      exact ⟨rfl, rfl, rfl⟩
  · rcases h.base with b | ⟨rb, j0, hi, b⟩
    · refine .inl ⟨b.tale, b.words, b.least, rfl, b.side, ?_, ?_, fun x hx k R hl => ?_⟩
      · rw [e1]; exact b.zero.up (fun q hb => hneq _ q _ hb)
      · rw [e1]; exact b.one.up (fun q hb => hneq _ q _ hb)
      · rw [e1] at hl
        rw [e3] at hx
        rcases List.mem_append.1 hx with hx | hx
        · exact b.loose x hx k R (hold x hx _ k R hl)
        · have := (hin x hx _ k R hl).1
          rw [b.side] at this
          omega
    · have hc0 := cnt_pos (Nat.le_trans (Nat.le_add_right 1 su) b.least)
      have hpos : 0 < cellsN (H rb).t.length := cellsN_pos (h.inv.ok rb).tale.1
      have hrb : rb ≠ topL r.P.last + 1 := hneq _ rb 0 (b.there 0 (by omega))
      refine .inr ⟨rb, j0, hi, b.rb1, ?_, ?_, b.j0hi, ?_, b.hin, ?_, ?_, fun x hx k R hl => ?_, ?_, ?_, ?_, (fun hb => by cases hb)⟩
      · rw [upH_other H _ hrb]; exact b.hside
      · rw [upH_other H _ hrb]; exact b.tale
      · rw [upH_other H _ hrb]; exact b.him
      · rw [e1]; exact b.there
      · rw [e1]; exact b.ends
      · rw [e1] at hl
        rw [e3] at hx
        rcases List.mem_append.1 hx with hx | hx
        · exact b.loose x hx k R (hold x hx _ k R hl)
        · have := (hin x hx _ k R hl).1
          simp only at this
          omega
      · rw [upH_other H _ hrb]; exact b.least
      · rw [upH_other H _ hrb]; exact b.most
      · rw [e1]; exact b.oth.up (fun q hb => hneq _ q _ hb)

/-- Begin. -/
theorem Hold.begin (h : Hold n r H T nt nw su nx bg) (hT : T + 1 ≤ 200) {t : List Nat} (ht : Word t) :
    ((r.begin t).1 = 0 ∧ ∃ H', Hold n (r.begin t).2 H' (T + 1) t [] 0 nx false) ∨ ((r.begin t).1 = 92 ∧ (r.begin t).2 = r) ∨ ((r.begin t).1 = 72 ∧ ∃ H', Hold n (r.begin t).2 H' (T + 1) nt nw su (if bg then nx else t) true) := by
  have hside := h.side
  have hn := h.inv.n60
  have hn4 := h.n4
  have hTop := h.top
  have hroom : r.room = n / 2 := by unfold Rl.room; rw [h.inv.len]
  unfold Rl.begin
  by_cases hfit : (fitsB t.length r.room && decide (topL r.P.last < 1099511627776)) = true
  · rw [if_pos hfit]
    rw [Bool.and_eq_true] at hfit
    obtain ⟨hpos, hf⟩ := fits_of hfit.1
    rw [hroom] at hf
    have hc := frame_cells 1 ht.1
    have hch : ∀ c ∈ chunksL (frameL 1 t), c.length ≤ 48 ∧ Bytes c := chop_each _ _ (frameL_bytes (by decide) ht.2)
    obtain ⟨j, hj, g0, g1, g2, g3, g4⟩ := h.inv.putC (s := 1 - r.side) (rd := topL r.P.last + 1) (at_ := 0) (cs := chunksL (frameL 1 t)) (by omega) (by omega) (by omega) (by omega) hch
    generalize hP : r.P.putC ((1 - r.side : Nat) : Int) (topL r.P.last + 1) 0 (chunksL (frameL 1 t)) = X at *
    obtain ⟨e, P'⟩ := X
    simp only at g0 g1 g2 g3 g4 ⊢
    cases hoff : r.P.off with
    | true =>
      -- no power: nothing is put
      have hj0 : e = 72 ∧ j = 0 ∧ P'.off = true := by
        rcases g4 with ⟨a1, a2, a3⟩ | ⟨a1, a2, a3⟩
        · exfalso
          have hne : chunksL (frameL 1 t) ≠ [] := by intro e; rw [e] at hc; simp at hc; omega
          obtain ⟨j', l', o', _, _, h4, _⟩ := putC_runs (1 - r.side) (topL r.P.last + 1) (by omega) (by omega) (by omega) (chunksL (frameL 1 t)) r.P 0 (by rw [h.inv.len]; omega) (fun c hcc => (hch c hcc).1)
          rw [hP] at h4
          rcases h4 with ⟨_, _, _, b4⟩ | ⟨b1, _⟩
          · rw [b4 hne] at hoff; cases hoff
          · simp only at b1; rw [a1] at b1; cases b1
        · exact ⟨a1, a3 hoff, a2⟩
      obtain ⟨rfl, rfl, ho⟩ := hj0
      refine .inr (.inr ?_)
      rw [if_neg (by decide)]
      refine ⟨rfl, H, ?_⟩
      have h1 : Hold n ⟨P', r.side, false⟩ H T nt nw su nx bg := h.off g0 g1 (by rw [g2]; rfl) (by rw [g3]; simp [mkL]) ho
      exact (h1.bgOff ho (fun hb => by rw [hb]; rfl)).more (by omega)
    | false =>
      have hbg : bg = false := by
        cases hb : bg with
        | false => rfl
        | true => have := h.offb hb; rw [hoff] at this; cases this
      subst hbg
      obtain ⟨hinv, htop, hof⟩ := h.begun hT ht hf hj g0 g1 g2 g3
      rcases g4 with ⟨a1, a2, a3⟩ | ⟨a1, a2, a3⟩
      · subst a1
        rw [if_pos (by decide)]
        by_cases hfl : P'.flush.1 = 0
        · refine .inl ?_
          rw [if_pos (by rw [hfl]; rfl)]
          refine ⟨rfl, upH H (topL r.P.last + 1) ⟨1 - r.side, t, [], j⟩, ?_⟩
          obtain ⟨hi, f1, f2, f3, f4, f5⟩ := hinv.flushed hfl
          have hpT : piecesT t [] = chunksL (frameL 1 t) := by simp [piecesT, piecesW]
          rw [a2, List.take_length] at g2
          have hu : 1 - (1 - r.side) = r.side := by omega
          have hlaid : ∀ k, k < j → bearAt n P'.last (1 - r.side) (topL r.P.last + 1) k := fun k hk => by
            rw [g2]
            exact bear_laid (by omega) (by rw [h.inv.good.size, h.inv.len]) hn (by omega) (by omega) (fun c hcc => (hch c hcc).1) (Nat.zero_le _) (by omega)
          refine ⟨hi, hn4, by simp only; omega, by simp only; rw [f2]; omega, fun q => ?_, (fun hb => by cases hb), fun x hx => by simp only at hx; rw [f3] at hx; simp at hx, .inr ⟨topL r.P.last + 1, j, j, by omega, by rw [upH_same], by rw [upH_same], Nat.le_refl _, by rw [upH_same]; exact Nat.le_refl _, by omega, by simp only; rw [f1]; exact hlaid, fun hlt hb => ?_, fun x hx => by simp only at hx; rw [f3] at hx; simp at hx, ?_, ?_, fun q hq hb => .inl ?_, fun _ => ⟨by rw [upH_same], by rw [upH_same]; simp only; rw [hpT]; exact a2, by rw [upH_same], by simp only; rw [f2]; exact hlaid, by simp only; rw [f2]; exact htop⟩⟩⟩
          · by_cases hq : q = topL r.P.last + 1
            · rw [hq, upH_same]; exact hf
            · rw [upH_other H _ hq]; exact h.fitT q
          · simp only at hb
            rw [f1] at hb
            have := (bear_legit hinv.lastL (by omega) hlt (by omega) hb).2.1
            rw [upH_same] at this
            simp only at this
            omega
          · rw [upH_same, cntF_all _ _ (by simp [sizesT]; omega)]
            simp [sizesT]
          · rw [upH_same]
            simp
          · simp only at hb
            rw [f1, hu, g2] at hb
            have hb' := (bear_kept (by
              rcases Nat.le_one_iff_eq_zero_or_eq_one.1 hside with hs | hs <;> rw [hs] <;> simp only [Nat.zero_mul, Nat.one_mul, Nat.sub_self, Nat.sub_zero] <;> omega)).1 hb
            obtain ⟨c, hcc, hbb⟩ := hb'
            have := (topL_get (List.mem_of_getElem? hcc)).1
            simp only [bearsC, Bool.and_eq_true, beq_iff_eq] at hbb
            rw [hbb.1] at this
            unfold markN at this
            omega
        · refine .inr (.inr ?_)
          obtain ⟨f0, f1, f2, f3, f4⟩ := flush_fails hfl
          rw [if_neg (by rw [f0]; decide)]
          obtain ⟨_, _, hof2⟩ := h.begun hT ht hf hj g0.flush (f1.trans g1) (f2.trans g2) (f3.trans g3)
          exact ⟨f0, _, hof2 f4⟩
      · subst a1
        rw [if_neg (by decide)]
        exact .inr (.inr ⟨rfl, _, hof a2⟩)
  · rw [if_neg hfit]
    exact .inr (.inl ⟨rfl, rfl⟩)
end

end Go.Proofs.Ytipikkniookanaa
