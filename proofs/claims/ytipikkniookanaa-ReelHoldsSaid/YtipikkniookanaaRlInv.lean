/- What may lie on a plate on which reels were begun, whatever was lost, in plain words. -/
import Derived.Test.YtipikkniookanaaRlHist
namespace Go.Proofs.Ytipikkniookanaa
set_option maxRecDepth 100000

/-- All cells of both sides may lie there. -/
def LgAll (n : Nat) (H : Nat → Hs) (S : List (List Nat)) : Prop := ∀ s k c, s ≤ 1 → k < n / 2 → S[s * (n / 2) + k]? = some c → Lg H s k c
/-- The cell at a place of a side bears a round. -/
def bearAt (n : Nat) (S : List (List Nat)) (s r k : Nat) : Prop := ∃ c, S[s * (n / 2) + k]? = some c ∧ bearsC c (markN r k) = true

/-- What lies where cells were lost or torn. -/
theorem fail_other (keep : List Nat) (torn at_ : Int) (l : List (Nat × List Nat)) : ∀ (k : Nat) (s : List (List Nat)) (i : Nat), (∀ x ∈ l, x.1 ≠ i) → (failL keep torn at_ k l s)[i]? = s[i]? := by
  induction l with
  | nil => intro k s i _; rfl
  | cons x r ih =>
    intro k s i h
    obtain ⟨j, c⟩ := x
    simp only [failL]
    rw [ih _ _ i (fun y hy => h y (by simp [hy])), List.getElem?_set_ne (h (j, c) (by simp))]
theorem fail_at (keep : List Nat) (torn at_ : Int) (l : List (Nat × List Nat)) : ∀ (k : Nat) (s : List (List Nat)), (l.map (·.1)).Nodup → ∀ x ∈ l, x.1 < s.length → ∃ n, n ≤ 64 ∧ (failL keep torn at_ k l s)[x.1]? = some (tear n x.2 (s.getD x.1 [])) := by
  induction l with
  | nil => intro k s _ x hx; simp at hx
  | cons y r ih =>
    intro k s hn x hx hlt
    obtain ⟨j, c⟩ := y
    rw [List.map_cons, List.nodup_cons] at hn
    simp only [failL]
    rcases List.mem_cons.1 hx with rfl | hx
    · refine ⟨keptN keep torn at_ k, keptN_le _ _ _ _, ?_⟩
      rw [fail_other _ _ _ _ _ _ _ (fun y hy e => hn.1 (List.mem_map.2 ⟨y, hy, e⟩)), List.getElem?_set_self hlt]
    · have hne : j ≠ x.1 := fun e => hn.1 (List.mem_map.2 ⟨x, hx, e.symm⟩)
      obtain ⟨m, h1, h2⟩ := ih (k + 1) (s.set j (tear (keptN keep torn at_ k) c (s.getD j []))) hn.2 x hx (by rw [List.length_set]; exact hlt)
      refine ⟨m, h1, ?_⟩
      rw [h2]
      congr 2
      simp only [List.getD_eq_getElem?_getD, List.getElem?_set_ne hne]
theorem lay_at (l : List (Nat × List Nat)) : ∀ (s : List (List Nat)), (l.map (·.1)).Nodup → ∀ x ∈ l, x.1 < s.length → (layAll s l)[x.1]? = some x.2 := by
  induction l with
  | nil => intro s _ x hx; simp at hx
  | cons y r ih =>
    intro s hn x hx hlt
    obtain ⟨j, c⟩ := y
    rw [List.map_cons, List.nodup_cons] at hn
    simp only [layAll]
    rcases List.mem_cons.1 hx with rfl | hx
    · rw [lay_other _ _ _ (fun y hy e => hn.1 (List.mem_map.2 ⟨y, hy, e⟩)), List.getElem?_set_self hlt]
    · exact ih _ hn.2 x hx (by rw [List.length_set]; exact hlt)

/-- What is put and not sure yet: a piece of a round, where nothing of that round was. -/
structure Loose (n : Nat) (H : Nat → Hs) (sure : List (List Nat)) (x : Nat × List Nat) (s k R : Nat) : Prop where
  s1 : s ≤ 1
  k1 : k < n / 2
  at_ : x.1 = s * (n / 2) + k
  R1 : 1 ≤ R
  R2 : R ≤ 200
  side : (H R).side = s
  few : k < (H R).m
  put : ∃ p, (H R).pc[k]? = some p ∧ x.2 = markedC (markN R k) p
  fresh : ∀ c, sure[x.1]? = some c → numC c 0 ≠ markN R k ∧ numC c 56 ≠ markN R k

/-- What may lie on the plate of a reel. -/
structure Inv (n : Nat) (P : Pl) (H : Nat → Hs) : Prop where
  good : P.Good
  len : P.sure.length = n
  n60 : n ≤ 60
  ok : ∀ q, (H q).Ok
  sync : P.last = layAll P.sure P.loose
  nod : (P.loose.map (·.1)).Nodup
  sureL : LgAll n H P.sure
  looseL : ∀ x ∈ P.loose, ∃ s k R, Loose n H P.sure x s k R
  odd : ∀ c, P.sure[n / 2 + n / 2]? = some c → numC c 0 = 0 ∧ numC c 56 = 0
  top : ∀ c ∈ P.sure, numC c 0 / 65536 ≤ topL P.last ∧ numC c 56 / 65536 ≤ topL P.last

theorem idx_inj {n s s' k k' : Nat} (hs : s ≤ 1) (hs' : s' ≤ 1) (hk : k < n / 2) (hk' : k' < n / 2) (h : s * (n / 2) + k = s' * (n / 2) + k') : s = s' ∧ k = k' := by
  rcases Nat.le_one_iff_eq_zero_or_eq_one.1 hs with rfl | rfl <;> rcases Nat.le_one_iff_eq_zero_or_eq_one.1 hs' with rfl | rfl <;> omega
theorem idx_lt {n s k : Nat} (hs : s ≤ 1) (hk : k < n / 2) : s * (n / 2) + k < n := by
  rcases Nat.le_one_iff_eq_zero_or_eq_one.1 hs with rfl | rfl <;> omega

section
variable {n : Nat} {P : Pl} {H : Nat → Hs}

/-- Whatever is kept, lost or torn may lie there. -/
theorem Inv.outcome (h : Inv n P H) {S : List (List Nat)} (hS1 : ∀ i, (∀ x ∈ P.loose, x.1 ≠ i) → S[i]? = P.sure[i]?) (hS2 : ∀ x ∈ P.loose, ∃ m, m ≤ 64 ∧ S[x.1]? = some (tear m x.2 (P.sure.getD x.1 []))) :
    LgAll n H S ∧ (∀ s k r, s ≤ 1 → k < n / 2 → 1 ≤ r → bearAt n S s r k → bearAt n P.sure s r k ∨ ∃ x ∈ P.loose, Loose n H P.sure x s k r) ∧ (∀ s k r, s ≤ 1 → k < n / 2 → bearAt n P.sure s r k → (∀ x ∈ P.loose, x.1 ≠ s * (n / 2) + k) → bearAt n S s r k) := by
  have hcase : ∀ s k c, s ≤ 1 → k < n / 2 → S[s * (n / 2) + k]? = some c → (P.sure[s * (n / 2) + k]? = some c) ∨ ∃ x ∈ P.loose, ∃ R p co m, Loose n H P.sure x s k R ∧ m ≤ 64 ∧ (H R).pc[k]? = some p ∧ P.sure[s * (n / 2) + k]? = some co ∧ c = tear m (markedC (markN R k) p) co := by
    intro s k c hs hk hc
    by_cases hx : ∀ x ∈ P.loose, x.1 ≠ s * (n / 2) + k
    · exact .inl (by rw [← hS1 _ hx]; exact hc)
    · refine .inr ?_
      have : ∃ x, x ∈ P.loose ∧ x.1 = s * (n / 2) + k := by
        apply Classical.byContradiction
        intro hno
        exact hx (fun x hx e => hno ⟨x, hx, e⟩)
      obtain ⟨x, hx, e⟩ := this
      obtain ⟨s', k', R, hl⟩ := h.looseL x hx
      obtain ⟨rfl, rfl⟩ := idx_inj hs hl.s1 hk hl.k1 (e.symm.trans hl.at_)
      obtain ⟨m, hm, hSx⟩ := hS2 x hx
      rw [e, hc] at hSx
      obtain ⟨p, hp1, hp2⟩ := hl.put
      have hlt : s * (n / 2) + k < P.sure.length := by rw [h.len]; exact idx_lt hs hk
      refine ⟨x, hx, R, p, P.sure.getD (s * (n / 2) + k) [], m, hl, hm, hp1, ?_, ?_⟩
      · rw [List.getD_eq_getElem?_getD, List.getElem?_eq_getElem hlt]; rfl
      · rw [← hp2]; exact Option.some.inj hSx
  refine ⟨fun s k c hs hk hc => ?_, fun s k r hs hk hr hb => ?_, fun s k r hs hk hb hno => ?_⟩
  · rcases hcase s k c hs hk hc with hc | ⟨x, hx, R, p, co, m, hl, hm, hp, hco, rfl⟩
    · exact h.sureL s k c hs hk hc
    · have hn := h.n60
      exact (h.sureL s k co hs hk hco).tear (by omega) hl.R1 hl.R2 hl.side (h.ok R) hp (hl.fresh co (by rw [hl.at_]; exact hco)).2 m hm
  · obtain ⟨c, hc, hb⟩ := hb
    rcases hcase s k c hs hk hc with hc | ⟨x, hx, R, p, co, m, hl, hm, hp, hco, rfl⟩
    · exact .inl ⟨c, hc, hb⟩
    · have hn := h.n60
      have hxx := (h.ok R).each p (List.mem_of_getElem? hp)
      have hL := h.sureL s k co hs hk hco
      rcases tear_bears hl.R1 (by have := hl.R2; omega) (by omega) hxx.1 hxx.2 hL.is hL.b.low hL.e.low (hl.fresh co (by rw [hl.at_]; exact hco)).2 m hm hr hb with ⟨b1, _⟩ | ⟨rfl, _⟩
      · exact .inl ⟨co, hco, b1⟩
      · exact .inr ⟨x, hx, hl⟩
  · obtain ⟨c, hc, hb⟩ := hb
    exact ⟨c, by rw [hS1 _ hno]; exact hc, hb⟩

theorem Inv.fails (h : Inv n P H) (keep : List Nat) (torn at_ : Int) : (∀ i, (∀ x ∈ P.loose, x.1 ≠ i) → (failL keep torn at_ 0 P.loose P.sure)[i]? = P.sure[i]?) ∧ (∀ x ∈ P.loose, ∃ m, m ≤ 64 ∧ (failL keep torn at_ 0 P.loose P.sure)[x.1]? = some (tear m x.2 (P.sure.getD x.1 []))) :=
  ⟨fun _i hi => fail_other _ _ _ _ _ _ _ hi, fun x hx => fail_at _ _ _ _ _ _ h.nod x hx (h.good.lo x hx).1⟩
theorem Inv.lasts (h : Inv n P H) : (∀ i, (∀ x ∈ P.loose, x.1 ≠ i) → P.last[i]? = P.sure[i]?) ∧ (∀ x ∈ P.loose, P.last[x.1]? = some x.2) := by
  rw [h.sync]
  exact ⟨fun i hi => lay_other _ _ _ hi, fun x hx => lay_at _ _ h.nod x hx (h.good.lo x hx).1⟩
theorem Inv.last_out (h : Inv n P H) : ∀ x ∈ P.loose, ∃ m, m ≤ 64 ∧ P.last[x.1]? = some (tear m x.2 (P.sure.getD x.1 [])) := fun x hx => by
  have hx2 := h.good.lo x hx
  exact ⟨64, Nat.le_refl _, by rw [tear_all hx2.2 (getD_cell h.good.cs hx2.1)]; exact h.lasts.2 x hx⟩
theorem Inv.lastL (h : Inv n P H) : LgAll n H P.last := (h.outcome h.lasts.1 h.last_out).1

/-- What stands on a side of such cells. -/
theorem row_legit {S : List (List Nat)} (hl : S.length = n) (_hn : n ≤ 60) (hS : LgAll n H S) (ho : ∀ q, (H q).Ok) {s : Nat} (hs : s ≤ 1) :
    (rowOf S (s : Int) = (0, [], 0) ∧ ∀ r, 1 ≤ r → 0 < n / 2 → ¬ bearAt n S s r 0) ∨ ∃ r j, 1 ≤ r ∧ r ≤ 200 ∧ (H r).side = s ∧ 1 ≤ j ∧ j ≤ (H r).m ∧ j ≤ n / 2 ∧ (rowOf S (s : Int)).1 = r ∧ (rowOf S (s : Int)).2 = parse 1 ((((H r).pc.take j).map pad).flatten) ∧ (rowOf S (s : Int)).2.1 = ((H r).t :: (H r).ws).take (cntF (sizesT (H r).t (H r).ws) j) ∧ (∀ k, k < j → bearAt n S s r k) ∧ (j < n / 2 → ¬ bearAt n S s r j) := by
  have hget : ∀ k, k < n / 2 → (sideL S s)[k]? = S[s * (n / 2) + k]? := fun k hk => by
    rw [sideL_get? S hs (by rw [hl]; exact hk), hl]
  have hlen : (sideL S s).length = n / 2 := by rw [sideL_len S hs, hl]
  have hread := readL_side S hs
  have hone : ∀ r k, k < n / 2 → bearAt n S s r k → ∃ c, (sideL S s)[k]? = some c ∧ bearsC c (markN r k) = true := fun r k hk ⟨c, hc, hb⟩ => ⟨c, by rw [hget k hk]; exact hc, hb⟩
  rcases read_legit (H := H) (s := s) (sideL S s) (fun i c hc => by
    have hi := (List.getElem?_eq_some_iff.1 hc).1
    rw [hlen] at hi
    rw [hget i hi] at hc
    exact hS s i c hs hi hc) with hz | ⟨r, j, h1, h2, h3, h4, h5, h6, h7, h8, h9⟩
  · refine .inl ⟨?_, fun r hr h0 hb => ?_⟩
    · unfold rowOf
      rw [hread, hz]
      simp only [List.flatten_nil]
      rw [parse_zero (by rw [frameAt_nil])]
    · obtain ⟨c, hc, hb⟩ := hb
      rw [← hget 0 h0] at hc
      have hm := hb
      simp only [bearsC, Bool.and_eq_true, beq_iff_eq] at hm
      cases hSS : sideL S s with
      | nil => rw [hSS] at hc; simp at hc
      | cons d T =>
        have hcl := hS s 0 c hs h0 (by rw [← hget 0 h0]; exact hc)
        rw [hSS] at hc hz
        simp at hc
        subst hc
        have hd : numC d 0 / 65536 = r := by rw [hm.1]; unfold markN; omega
        have hr2 : r ≤ 200 := by
          rcases hcl.b with hb0 | hb0 | ⟨r', _, k2, k3, _⟩
          · rw [hm.1] at hb0; unfold markN at hb0; omega
          · rw [hm.1] at hb0; unfold markN at hb0; omega
          · rw [hm.1] at k3; unfold markN at k3; omega
        have hcond : (isRoundB r && bearsC d (markN r 0)) = true := by
          rw [hb, Bool.and_true]
          simp only [isRoundB, Bool.and_eq_true, decide_eq_true_eq]
          omega
        have hf : firstR (d :: T) = r := by
          show (if isRoundB (numC d 0 / 65536) && bearsC d (markN (numC d 0 / 65536) 0) then numC d 0 / 65536 else 0) = r
          rw [hd, if_pos hcond]
        unfold readS at hz
        rw [hf, if_neg (by omega)] at hz
        have := congrArg Prod.fst hz
        simp only at this
        omega
  · rw [hlen] at h6
    rw [(ho r).len] at h5
    have hrow : rowOf S (s : Int) = (r, parse 1 ((((H r).pc.take j).map pad).flatten)) := by
      unfold rowOf
      rw [hread, h7]
    refine .inr ⟨r, j, h1, h2, h3, h4, h5, h6, by rw [hrow], by rw [hrow], by rw [hrow]; exact parse_hs (ho r) h5, fun k hk => ?_, fun hj hb => ?_⟩
    · have hlt : k < (sideL S s).length := by rw [hlen]; omega
      have hc := List.getElem?_eq_getElem hlt
      exact ⟨_, by rw [← hget k (by omega)]; exact hc, h8 k _ hk hc⟩
    · obtain ⟨c, hc, hb⟩ := hone r j hj hb
      rw [h9 c hc] at hb
      cases hb
end

end Go.Proofs.Ytipikkniookanaa
