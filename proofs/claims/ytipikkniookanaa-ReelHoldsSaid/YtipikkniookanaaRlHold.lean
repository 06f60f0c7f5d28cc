/- What was sure is there, in plain words. -/
import Derived.Test.YtipikkniookanaaRlInv2
namespace Go.Proofs.Ytipikkniookanaa
set_option maxRecDepth 100000

theorem nodup_len : ∀ (n : Nat) (l : List Nat), l.Nodup → (∀ x ∈ l, x < n) → l.length ≤ n := by
  intro n
  induction n with
  | zero =>
    intro l _ h
    cases l with
    | nil => simp
    | cons x r => exact absurd (h x (by simp)) (by omega)
  | succ n ih =>
    intro l hn h
    have h1 := ih (l.erase n) (hn.erase n) (fun x hx => by
      have h2 := (hn.mem_erase_iff).1 hx
      have := h x h2.2
      omega)
    rw [List.length_erase] at h1
    split at h1 <;> omega
theorem Inv.few {n : Nat} {P : Pl} {H : Nat → Hs} (h : Inv n P H) : P.loose.length ≤ n := by
  have := nodup_len n (P.loose.map (·.1)) h.nod (fun x hx => by
    obtain ⟨y, hy, rfl⟩ := List.mem_map.1 hx
    have := (h.good.lo y hy).1
    rw [h.len] at this
    exact this)
  rwa [List.length_map] at this

theorem putC_good (side : Int) (rd : Nat) (cs : List (List Nat)) : ∀ (P : Pl) (at_ : Nat), P.Good → (∀ c ∈ cs, Bytes c) → P.loose.length + cs.length ≤ 100000 → (P.putC side rd at_ cs).2.Good := by
  induction cs with
  | nil => intro P at_ h _ _; exact h
  | cons c r ih =>
    intro P at_ h hb hl
    simp only [List.length_cons] at hl
    have hg := mput_good h side rd (at_ : Int) (hb c (by simp)) (by omega)
    have hf := mput_few P side rd (at_ : Int) c
    simp only [Pl.putC]
    split
    · exact ih _ _ hg (fun d hd => hb d (by simp [hd])) (by omega)
    · exact hg

/-- What the pieces of a frame that are put come to. -/
theorem Inv.putC {n : Nat} {P : Pl} {H : Nat → Hs} (h : Inv n P H) {s rd at_ : Nat} {cs : List (List Nat)} (hs : s ≤ 1) (hr1 : 1 ≤ rd) (hr2 : rd ≤ 200) (ha : at_ + cs.length ≤ n / 2) (hc : ∀ c ∈ cs, c.length ≤ 48 ∧ Bytes c) :
    ∃ j, j ≤ cs.length ∧ (P.putC (s : Int) rd at_ cs).2.Good ∧ (P.putC (s : Int) rd at_ cs).2.sure = P.sure ∧ (P.putC (s : Int) rd at_ cs).2.last = layAll P.last (mkL (s * (n / 2)) rd at_ (cs.take j)) ∧ (P.putC (s : Int) rd at_ cs).2.loose = P.loose ++ mkL (s * (n / 2)) rd at_ (cs.take j) ∧
      (((P.putC (s : Int) rd at_ cs).1 = 0 ∧ j = cs.length ∧ (P.putC (s : Int) rd at_ cs).2.off = P.off) ∨ ((P.putC (s : Int) rd at_ cs).1 = 72 ∧ (P.putC (s : Int) rd at_ cs).2.off = true ∧ (P.off = true → j = 0))) := by
  have hn := h.n60
  have hfew := h.few
  obtain ⟨j, l', o', hj, h3, h4, _⟩ := putC_runs s rd hs hr1 (by omega) cs P at_ (by rw [h.len]; exact ha) (fun c hcc => (hc c hcc).1)
  rw [h.len] at h3
  refine ⟨j, hj, putC_good _ _ cs P at_ h.good (fun c hcc => (hc c hcc).2) (by omega), by rw [h3], by rw [h3], by rw [h3], ?_⟩
  rcases h4 with ⟨a1, a2, a3, _⟩ | ⟨a1, a2, a3⟩
  · exact .inl ⟨a1, a2, by rw [h3]; exact a3⟩
  · exact .inr ⟨a1, by rw [h3]; exact a2, a3⟩

/-- Whatever round stands at the beginning of a side, it is an older one, or a part of its tale is not there. -/
def OS (n : Nat) (H : Nat → Hs) (S : List (List Nat)) (s b : Nat) : Prop := ∀ q, 1 ≤ q → bearAt n S s q 0 → q < b ∨ ∃ k, k < cellsN (H q).t.length ∧ k < n / 2 ∧ ¬ bearAt n S s q k

/-- A tale that is sure, with so many pieces at least and at most. -/
structure Base (n : Nat) (r : Rl) (H : Nat → Hs) (nt : List Nat) (nw : List (List Nat)) (su rb j0 hi : Nat) : Prop where
  rb1 : 1 ≤ rb
  hside : (H rb).side = r.side
  tale : (H rb).t = nt
  j0hi : j0 ≤ hi
  him : hi ≤ (H rb).m
  hin : hi ≤ n / 2
  there : ∀ k, k < j0 → bearAt n r.P.sure r.side rb k
  ends : hi < n / 2 → ¬ bearAt n r.P.sure r.side rb hi
  loose : ∀ x ∈ r.P.loose, ∀ k R, Loose n H r.P.sure x r.side k R → R = rb ∧ j0 ≤ k ∧ k < hi
  least : 1 + su ≤ cntF (sizesT (H rb).t (H rb).ws) j0
  most : (H rb).ws.take (cntF (sizesT (H rb).t (H rb).ws) hi - 1) <+: nw
  oth : OS n H r.P.sure (1 - r.side) rb
  ready : r.ready = true → (H rb).m = hi ∧ hi = (piecesT (H rb).t (H rb).ws).length ∧ (H rb).ws = nw ∧ (∀ k, k < hi → bearAt n r.P.last r.side rb k) ∧ topL r.P.last ≤ rb

/-- No tale is whole. -/
structure None (n : Nat) (r : Rl) (H : Nat → Hs) (nt : List Nat) (nw : List (List Nat)) (su : Nat) : Prop where
  tale : nt = []
  words : nw = []
  least : su = 0
  ready : r.ready = false
  side : r.side = 1
  zero : OS n H r.P.sure 0 0
  one : OS n H r.P.sure 1 0
  loose : ∀ x ∈ r.P.loose, ∀ k R, ¬ Loose n H r.P.sure x 1 k R

structure Hold (n : Nat) (r : Rl) (H : Nat → Hs) (T : Nat) (nt : List Nat) (nw : List (List Nat)) (su : Nat) (nx : List Nat) (bg : Bool) : Prop where
  inv : Inv n r.P H
  n4 : 4 ≤ n
  side : r.side ≤ 1
  top : topL r.P.last ≤ T
  fitT : ∀ q, cellsN (H q).t.length ≤ n / 2
  offb : bg = true → r.P.off = true
  loose : ∀ x ∈ r.P.loose, ∀ k R, Loose n H r.P.sure x (1 - r.side) k R → bg = true ∧ (H R).t = nx ∧ (H R).ws = []
  base : None n r H nt nw su ∨ ∃ rb j0 hi, Base n r H nt nw su rb j0 hi

section
variable {n : Nat} {r : Rl} {H : Nat → Hs} {T : Nat} {nt nx : List Nat} {nw : List (List Nat)} {su : Nat} {bg : Bool}

theorem Hold.new (hn : n ≤ 60) (h4 : 4 ≤ n) : Hold n ⟨Pl.new n, 1, false⟩ (fun _ => ⟨0, [], [], 0⟩) 0 [] [] 0 [] false := by
  have hi := Inv.new hn
  have hno : ∀ s q, 1 ≤ q → s ≤ 1 → ¬ bearAt n (Pl.new n).sure s q 0 := fun s q hq hs hb => by
    have := (bear_legit hi.sureL hs (by omega) hq hb).2.1
    simp at this
  refine ⟨hi, h4, Nat.le_refl _, ?_, fun q => ?_, (fun h => by cases h), fun x hx => by simp [Pl.new] at hx, .inl ⟨rfl, rfl, rfl, rfl, rfl, fun q hq hb => absurd hb (hno 0 q hq (by omega)), fun q hq hb => absurd hb (hno 1 q hq (by omega)), fun x hx => by simp [Pl.new] at hx⟩⟩
  · have : topM (List.replicate n zeroC) ≤ 0 := topM_le (fun c hc => by
      rw [(List.mem_replicate.1 hc).2]
      exact ⟨Nat.le_of_eq (by decide +kernel), Nat.le_of_eq (by decide +kernel)⟩)
    show topM (List.replicate n zeroC) / 65536 ≤ 0
    omega
  · show cellsN 0 ≤ n / 2
    unfold cellsN
    rw [if_pos (by omega), numL_small (by omega)]
    simp
    omega

theorem Hold.limit (h : Hold n r H T nt nw su nx bg) {m : Int} (hm : m ≤ 9223372036854775807) : Hold n ⟨r.P.limit m, r.side, r.ready⟩ H T nt nw su nx bg := by
  refine ⟨h.inv.same (h.inv.good.limit hm) rfl rfl rfl, h.n4, h.side, h.top, h.fitT, h.offb, h.loose, ?_⟩
  rcases h.base with b | ⟨rb, j0, hi, b⟩
  · exact .inl ⟨b.tale, b.words, b.least, b.ready, b.side, b.zero, b.one, b.loose⟩
  · exact .inr ⟨rb, j0, hi, b.rb1, b.hside, b.tale, b.j0hi, b.him, b.hin, b.there, b.ends, b.loose, b.least, b.most, b.oth, b.ready⟩
/-- The power ends, or the reel isn't ready any more. -/
theorem Hold.off (h : Hold n r H T nt nw su nx bg) {P' : Pl} (hg : P'.Good) (e1 : P'.sure = r.P.sure) (e2 : P'.last = r.P.last) (e3 : P'.loose = r.P.loose) (ho : P'.off = true) : Hold n ⟨P', r.side, false⟩ H T nt nw su nx bg := by
  refine ⟨h.inv.same hg e1 e2 e3, h.n4, h.side, by rw [e2]; exact h.top, h.fitT, fun _ => ho, by rw [e1, e3]; exact h.loose, ?_⟩
  rcases h.base with b | ⟨rb, j0, hi, b⟩
  · exact .inl ⟨b.tale, b.words, b.least, rfl, b.side, by rw [e1]; exact b.zero, by rw [e1]; exact b.one, by rw [e1, e3]; exact b.loose⟩
  · exact .inr ⟨rb, j0, hi, b.rb1, b.hside, b.tale, b.j0hi, b.him, b.hin, by rw [e1]; exact b.there, by rw [e1]; exact b.ends, by rw [e1, e3]; exact b.loose, b.least, b.most, by rw [e1]; exact b.oth, (fun h => by cases h)⟩

theorem Hold.more (h : Hold n r H T nt nw su nx bg) {T' : Nat} (hT : T ≤ T') : Hold n r H T' nt nw su nx bg := ⟨h.inv, h.n4, h.side, Nat.le_trans h.top hT, h.fitT, h.offb, h.loose, h.base⟩

theorem sizes_sum {t : List Nat} {ws : List (List Nat)} (ht : Word t) (hw : ∀ x ∈ ws, Word x) : (sizesT t ws).sum = (piecesT t ws).length := by
  have h2 : (piecesW ws).length = (ws.map fun x => cellsN x.length).sum := by
    induction ws with
    | nil => rfl
    | cons x r ih =>
      have e : piecesW (x :: r) = chunksL (frameL 2 x) ++ piecesW r := by simp [piecesW]
      rw [e, List.length_append, frame_cells 2 (hw x (by simp)).1, ih (fun y hy => hw y (by simp [hy])), List.map_cons, List.sum_cons]
  rw [sizesT, List.sum_cons, piecesT, List.length_append, frame_cells 1 ht.1, h2]

/-- Flush. -/
theorem Hold.flush (h : Hold n r H T nt nw su nx bg) : ((r.flush).1 = 0 ∧ Hold n r.flush.2 H T nt nw nw.length nx bg) ∨ ((r.flush).1 ≠ 0 ∧ Hold n r.flush.2 H T nt nw su nx bg) := by
  unfold Rl.flush
  cases hr : r.ready with
  | false => exact .inr ⟨by simp, h⟩
  | true =>
    rw [if_pos rfl]
    by_cases hf : r.P.flush.1 = 0
    · refine .inl ⟨hf, ?_⟩
      obtain ⟨hi, e1, e2, e3, e4, e5⟩ := h.inv.flushed hf
      have hbg : bg = false := by
        cases hb : bg with
        | false => rfl
        | true => have := h.offb hb; rw [e5] at this; cases this
      rcases h.base with b | ⟨rb, j0, hi', b⟩
      · rw [b.ready] at hr; cases hr
      · obtain ⟨q1, q2, q3, q4, q5⟩ := b.ready hr
        have hlo : ∀ k, k < n / 2 → ∀ x ∈ r.P.loose, x.1 ≠ (1 - r.side) * (n / 2) + k := fun k hk x hx e => by
          obtain ⟨s, k', R, hl⟩ := h.inv.looseL x hx
          obtain ⟨rfl, rfl⟩ := idx_inj (by omega) hl.s1 hk hl.k1 (e.symm.trans hl.at_)
          have := (h.loose x hx k R hl).1
          rw [hbg] at this
          cases this
        have hsame : ∀ q k, k < n / 2 → (bearAt n r.P.last (1 - r.side) q k ↔ bearAt n r.P.sure (1 - r.side) q k) := fun q k hk => by
          unfold bearAt
          rw [h.inv.lasts.1 _ (hlo k hk)]
        have hn4 := h.n4
        simp only
        rw [show (r.P.flush.1 == 0) = true by rw [hf]; rfl]
        refine ⟨hi, h.n4, h.side, by rw [e2]; exact h.top, h.fitT, (fun hb => by rw [hbg] at hb; cases hb), fun x hx => by rw [e3] at hx; simp at hx, .inr ⟨rb, hi', hi', b.rb1, b.hside, b.tale, Nat.le_refl _, b.him, b.hin, by rw [e1]; exact q4, ?_, fun x hx => by rw [e3] at hx; simp at hx, ?_, ?_, ?_, fun _ => ⟨q1, q2, q3, by rw [e2]; exact q4, by rw [e2]; exact q5⟩⟩⟩
        · intro hlt hb
          rw [e1] at hb
          have := (bear_legit h.inv.lastL h.side hlt b.rb1 hb).2.1
          omega
        · rw [q2, ← sizes_sum (h.inv.ok rb).tale (h.inv.ok rb).words, cntF_all _ _ (Nat.le_refl _)]
          simp only [sizesT, List.length_cons, List.length_map, q3]
          omega
        · rw [← q3]
          exact List.take_prefix _ _
        · intro q hq hb
          rw [e1] at hb ⊢
          have hb' := (hsame q 0 (by omega)).1 hb
          rcases b.oth q hq hb' with hlt | ⟨k, k1, k2, k3⟩
          · exact .inl hlt
          · exact .inr ⟨k, k1, k2, fun hb => k3 ((hsame q k k2).1 hb)⟩
    · obtain ⟨e0, e1, e2, e3, e4⟩ := flush_fails hf
      refine .inr ⟨hf, ?_⟩
      simp only
      rw [show (r.P.flush.1 == 0) = false by rw [e0]; rfl]
      exact h.off h.inv.good.flush e1 e2 e3 e4
end

end Go.Proofs.Ytipikkniookanaa
