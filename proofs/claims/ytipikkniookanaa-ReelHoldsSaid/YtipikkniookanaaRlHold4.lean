/- Add keeps what holds; the top behind a loss of power, in plain words. -/
import Derived.Test.YtipikkniookanaaRlHold3
namespace Go.Proofs.Ytipikkniookanaa
set_option maxRecDepth 100000

theorem mixN_top (k R n v : Nat) (hk : k < 1000) : mixN k R n v / 65536 ≤ v / 65536 ∨ mixN k R n v / 65536 ≤ R := by
  unfold mixN
  split
  · exact .inl (Nat.le_refl _)
  · split
    · split
      · exact .inr (by omega)
      · exact .inl (Nat.le_refl _)
    · exact .inr (by omega)

section
variable {n : Nat} {r : Rl} {H : Nat → Hs} {T : Nat} {nt nx : List Nat} {nw : List (List Nat)} {su : Nat} {bg : Bool}

/-- No round is above the top behind a loss. -/
theorem Inv.fail_top {P : Pl} (h : Inv n P H) (keep : List Nat) (torn at_ : Int) : topL (P.fail keep torn at_).last ≤ topL P.last := by
  obtain ⟨hS1, hS2⟩ := h.fails keep torn at_
  have el : (P.fail keep torn at_).last = failL keep torn at_ 0 P.loose P.sure := rfl
  rw [el]
  generalize failL keep torn at_ 0 P.loose P.sure = S at *
  have hn := h.n60
  have hall : ∀ c ∈ S, numC c 0 / 65536 ≤ topL P.last ∧ numC c 56 / 65536 ≤ topL P.last := fun c hc => by
    obtain ⟨i, hi⟩ := List.mem_iff_getElem?.1 hc
    by_cases hx : ∀ x ∈ P.loose, x.1 ≠ i
    · rw [hS1 i hx] at hi
      exact h.top c (List.mem_of_getElem? hi)
    · obtain ⟨x, hx, e⟩ : ∃ x, x ∈ P.loose ∧ x.1 = i := by
        apply Classical.byContradiction
        intro hno
        exact hx (fun x hx e => hno ⟨x, hx, e⟩)
      obtain ⟨s, k, R, hl⟩ := h.looseL x hx
      have hR := h.loose_last hx hl
      obtain ⟨m, hm, hSx⟩ := hS2 x hx
      rw [e, hi] at hSx
      obtain ⟨p, hp1, hp2⟩ := hl.put
      have hlt : s * (n / 2) + k < P.sure.length := by rw [h.len]; exact idx_lt hl.s1 hl.k1
      have hpl := (h.ok R).each p (List.mem_of_getElem? hp1)
      have hk := hl.k1
      have hR2 := hl.R2
      have hco : P.sure[s * (n / 2) + k]? = some (P.sure.getD i []) := by
        rw [← e, hl.at_, List.getD_eq_getElem?_getD, List.getElem?_eq_getElem hlt]; rfl
      have hL := h.sureL s k _ hl.s1 hl.k1 hco
      have hT := h.top _ (List.mem_of_getElem? hco)
      rw [hp2] at hSx
      obtain ⟨n1, n2⟩ := tear_nums (show R < 256 by omega) (show k + 1 < 256 by omega) hpl.1 hpl.2 hL.is hL.b.low hL.e.low m hm
      injection hSx with hSx
      rw [hSx, n1, n2]
      have m1 := mixN_top k R m (numC (P.sure.getD i []) 0) (by omega)
      have m2 := mixN_top k R (m - 56) (numC (P.sure.getD i []) 56) (by omega)
      omega
  have : topM S ≤ topL P.last * 65536 + 65535 := topM_le (fun c hc => by have := hall c hc; omega)
  unfold topL at this ⊢
  omega

/-- What a reel that is ready has on its side. -/
theorem Hold.rowR {rb j0 hi : Nat} (h : Hold n r H T nt nw su nx bg) (b : Base n r H nt nw su rb j0 hi) (hr : r.ready = true) : r.row = (rb, nt :: nw, hi) ∧ rb ≤ topL r.P.last := by
  obtain ⟨q1, q2, q3, q4, q5⟩ := b.ready hr
  have hn4 := h.n4
  have hhi : 1 ≤ hi := by
    have := pieces_pos (H rb).t (H rb).ws
    rcases Nat.eq_zero_or_pos hi with hz | hz
    · rw [hz] at q2
      exact absurd (List.eq_nil_of_length_eq_zero q2.symm) this
    · exact hz
  rcases row_legit (h.inv.good.size.trans h.inv.len) h.inv.n60 h.inv.lastL h.inv.ok h.side with ⟨_, hno⟩ | ⟨q, j, h1, h2, h3, h5, h6, h7, h8, h9, h10, h11, h12⟩
  · exact absurd (q4 0 hhi) (hno rb b.rb1 (by omega))
  · have e := bear_one (q4 0 hhi) (h11 0 (by omega))
    subst e
    have hj : j = hi := by
      have hle : j ≤ hi := by rw [← q1]; exact h6
      rcases Nat.lt_or_ge j hi with hlt | hge
      · have := b.hin
        exact absurd (q4 j hlt) (h12 (by omega))
      · omega
    subst hj
    refine ⟨?_, ?_⟩
    · unfold Rl.row
      have hpc : (H rb).pc.take j = piecesT (H rb).t (H rb).ws := by
        unfold Hs.pc
        rw [q1, List.take_take, Nat.min_self, q2, List.take_length]
      have hp := parse_tale (h.inv.ok rb).tale (h.inv.ok rb).words (b := []) (by rw [frameAt_nil])
      rw [List.append_nil, ← hpc, hpc, ← q2, b.tale, q3] at hp
      have e9 := h9
      rw [hpc, b.tale, q3] at e9
      rw [hp] at e9
      exact Prod.ext h8 e9
    · obtain ⟨c, hc, hb⟩ := q4 0 hhi
      have := (topL_get (List.mem_of_getElem? hc)).1
      simp only [bearsC, Bool.and_eq_true, beq_iff_eq] at hb
      rw [hb.1] at this
      unfold markN at this
      omega

/-- Add. -/
theorem Hold.add (h : Hold n r H T nt nw su nx bg) (hT : T ≤ 200) {x : List Nat} (hx : Word x) :
    (((r.add x).1 = 91 ∨ (r.add x).1 = 92) ∧ (r.add x).2 = r) ∨ (((r.add x).1 = 0 ∨ (r.add x).1 = 72) ∧ ∃ H', Hold n (r.add x).2 H' T nt (nw ++ [x]) su nx bg) := by
  have hside := h.side
  have hn := h.inv.n60
  have hn4 := h.n4
  have hTop := h.top
  have hroom : r.room = n / 2 := by unfold Rl.room; rw [h.inv.len]
  unfold Rl.add
  cases hr : r.ready with
  | false => exact .inl ⟨.inl rfl, rfl⟩
  | true =>
    rw [if_pos rfl]
    rcases h.base with b | ⟨rb, j0, hi, b⟩
    · rw [b.ready] at hr; cases hr
    obtain ⟨hrow, hrb⟩ := h.rowR b hr
    obtain ⟨q1, q2, q3, q4, q5⟩ := b.ready hr
    have hrb1 := b.rb1
    have hin := b.hin
    rw [hrow]
    simp only
    by_cases hfit : fitsB x.length (r.room - hi) = true
    · rw [if_pos hfit]
      refine .inr ?_
      obtain ⟨hpos, hf⟩ := fits_of hfit
      rw [hroom] at hf
      have hc := frame_cells 2 hx.1
      have hch : ∀ c ∈ chunksL (frameL 2 x), c.length ≤ 48 ∧ Bytes c := chop_each _ _ (frameL_bytes (by decide) hx.2)
      obtain ⟨j, hj, g0, g1, g2, g3, g4⟩ := h.inv.putC (s := r.side) (rd := rb) (at_ := hi) (cs := chunksL (frameL 2 x)) hside hrb1 (by omega) (by omega) hch
      generalize hP : r.P.putC (r.side : Int) rb hi (chunksL (frameL 2 x)) = X at *
      obtain ⟨e, P'⟩ := X
      simp only at g0 g1 g2 g3 g4 ⊢
      have hpT : piecesT nt (nw ++ [x]) = piecesT nt nw ++ chunksL (frameL 2 x) := piecesT_snoc nt nw x
      have hq2 : hi = (piecesT nt nw).length := by rw [q2, b.tale, q3]
      have hpc : (H rb).pc = piecesT nt nw := by
        unfold Hs.pc
        rw [q1, b.tale, q3, hq2, List.take_length]
      have hW : Word nt := by rw [← b.tale]; exact (h.inv.ok rb).tale
      have hWs : ∀ y ∈ nw, Word y := by rw [← q3]; exact (h.inv.ok rb).words
      have hok : Hs.Ok ⟨r.side, nt, nw ++ [x], hi + j⟩ := ⟨hW, fun y hy => by
        rcases List.mem_append.1 hy with hy | hy
        · exact hWs y hy
        · simp at hy; subst hy; exact hx, by simp only; rw [hpT, List.length_append]; omega⟩
      have hpc' : (Hs.mk r.side nt (nw ++ [x]) (hi + j)).pc = piecesT nt nw ++ (chunksL (frameL 2 x)).take j := by
        unfold Hs.pc
        simp only
        rw [hpT, List.take_append, List.take_of_length_le (by omega), show hi + j - (piecesT nt nw).length = j by omega]
      have hlen : ((chunksL (frameL 2 x)).take j).length = j := by rw [List.length_take]; omega
      have hinv := h.inv.puts (s := r.side) (rd := rb) (at_ := hi) (h' := ⟨r.side, nt, nw ++ [x], hi + j⟩) hside hrb1 (by omega) (by rw [hlen]; omega) rfl hok (by rw [hlen]) (fun i c hi' => by rw [hpc', hq2, List.getElem?_append_right (by omega), Nat.add_sub_cancel_left]; exact hi')
        (fun k c hk hk2 hcc => by
          have hL := h.inv.sureL r.side k c hside hk2 hcc
          refine ⟨fun e => ?_, fun e => ?_⟩
          · rcases hL.b with h0 | h0 | ⟨q, _, _, k3, _, k5⟩
            · rw [e] at h0; unfold markN at h0; omega
            · rw [e] at h0; unfold markN at h0; omega
            · rw [e] at k3
              have : q = rb := by unfold markN at k3; omega
              subst this
              omega
          · rcases hL.e with h0 | h0 | ⟨q, _, _, k3, _, k5⟩
            · rw [e] at h0; unfold markN at h0; omega
            · rw [e] at h0; unfold markN at h0; omega
            · rw [e] at k3
              have : q = rb := by unfold markN at k3; omega
              subst this
              omega)
        (fun k hk hk2 y hy e => by
          obtain ⟨s, k', R, hl⟩ := h.inv.looseL y hy
          obtain ⟨rfl, rfl⟩ := idx_inj hside hl.s1 hk2 hl.k1 (e.symm.trans hl.at_)
          have := (b.loose y hy k R hl).2.2
          omega)
        (fun s' k _ _ _ => ⟨b.hside.symm, fun hk => by simp only; omega, by
          rw [hpc, hpc']
          by_cases hk : k < (piecesT nt nw).length
          · exact .inr (List.getElem?_append_left hk)
          · exact .inl (List.getElem?_eq_none (by omega))⟩) q5 g0 g1 g2 g3
      refine ⟨?_, upH H rb ⟨r.side, nt, nw ++ [x], hi + j⟩, ?_⟩
      · rcases g4 with ⟨a1, _⟩ | ⟨a1, _⟩
        · exact .inl a1
        · exact .inr a1
      have hold : ∀ y ∈ r.P.loose, ∀ s k R, Loose n (upH H rb ⟨r.side, nt, nw ++ [x], hi + j⟩) r.P.sure y s k R → Loose n H r.P.sure y s k R := fun y hy s k R hl => by
        obtain ⟨s0, k0, R0, hl0⟩ := h.inv.looseL y hy
        obtain ⟨rfl, rfl, rfl⟩ := loose_one h.inv.ok hinv.ok hn hl0 hl
        exact hl0
      have hnew : ∀ y ∈ mkL (r.side * (n / 2)) rb hi ((chunksL (frameL 2 x)).take j), ∀ s k R, Loose n (upH H rb ⟨r.side, nt, nw ++ [x], hi + j⟩) r.P.sure y s k R → r.side = s ∧ hi ≤ k ∧ k < hi + j ∧ R = rb := fun y hy s k R hl => by
        have := loose_mkL hinv.ok hn hside (by omega) (by rw [hlen]; omega) (fun c hcc => (hch c (List.mem_of_mem_take hcc)).1) hy hl
        rw [hlen] at this
        exact this
      have htop : topL P'.last ≤ rb := by
        rw [g2]
        exact top_lay q5 (by omega) (by rw [hlen]; omega) (fun c hcc => (hch c (List.mem_of_mem_take hcc)).1)
      have hz : sizesT nt (nw ++ [x]) = sizesT nt nw ++ [cellsN x.length] := by simp [sizesT]
      have hsum := sizes_sum hW hWs
      have hj0 := b.j0hi
      refine ⟨hinv, hn4, hside, by simp only; omega, fun q => ?_, fun hb => ?_, fun y hy k R hl => ?_, .inr ⟨rb, j0, hi + j, hrb1, by rw [upH_same], by rw [upH_same], by omega, by rw [upH_same]; exact Nat.le_refl _, by omega, by simp only; rw [g1]; exact b.there, fun hlt hb => ?_, fun y hy k R hl => ?_, ?_, ?_, ?_, fun hrd => ?_⟩⟩
      · by_cases hq : q = rb
        · rw [hq, upH_same]
          simp only
          have := h.fitT rb
          rw [b.tale] at this
          exact this
        · rw [upH_other H _ hq]; exact h.fitT q
      · have := h.offb hb
        rcases g4 with ⟨_, _, a3⟩ | ⟨_, a2, _⟩
        · exact a3.trans this
        · exact a2
      · simp only at hy hl
        rw [g1] at hl
        rw [g3] at hy
        rcases List.mem_append.1 hy with hy | hy
        · have hl' := hold y hy _ k R hl
          have hR : R ≠ rb := fun e => by
            have := hl'.side
            rw [e, b.hside] at this
            omega
          rw [upH_other H _ hR]
          exact h.loose y hy k R hl'
        · have := (hnew y hy _ k R hl).1
          omega
      · simp only at hb
        rw [g1] at hb
        have := (bear_legit h.inv.sureL hside hlt hrb1 hb).2.1
        omega
      · simp only at hy hl
        rw [g1] at hl
        rw [g3] at hy
        rcases List.mem_append.1 hy with hy | hy
        · have := b.loose y hy k R (hold y hy _ k R hl)
          exact ⟨this.1, this.2.1, by omega⟩
        · have := hnew y hy _ k R hl
          exact ⟨this.2.2.2, by omega, this.2.2.1⟩
      · rw [upH_same]
        simp only
        rw [hz, cntF_snoc _ _ _ (by omega)]
        have := b.least
        rw [b.tale, q3] at this
        exact this
      · rw [upH_same]
        exact List.take_prefix _ _
      · simp only
        rw [g1]
        refine b.oth.up (fun q hb e => ?_)
        subst e
        have := (bear_legit h.inv.sureL (by omega) (by omega) hrb1 hb).1
        rw [b.hside] at this
        omega
      · simp only at hrd
        have ha1 : e = 0 := by simpa using hrd
        rcases g4 with ⟨_, a2, _⟩ | ⟨a1, _⟩
        · refine ⟨by rw [upH_same], by rw [upH_same]; simp only; rw [hpT, List.length_append, ← hq2, a2], by rw [upH_same], fun k hk => ?_, htop⟩
          simp only
          rw [g2]
          by_cases hk2 : k < hi
          · exact (bear_kept (by omega)).2 (q4 k hk2)
          · exact bear_laid hside (by rw [h.inv.good.size, h.inv.len]) hn (by omega) (by rw [hlen]; omega) (fun c hcc => (hch c (List.mem_of_mem_take hcc)).1) (by omega) (by rw [hlen]; omega)
        · rw [a1] at ha1; cases ha1
    · rw [if_neg hfit]
      exact .inl ⟨.inr rfl, rfl⟩
end

end Go.Proofs.Ytipikkniookanaa
