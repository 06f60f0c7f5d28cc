/- What is put, made sure and lost keeps to what may lie on a plate, in plain words. -/
import Derived.Test.YtipikkniookanaaRlInv
namespace Go.Proofs.Ytipikkniookanaa
set_option maxRecDepth 100000

def upH (H : Nat → Hs) (rd : Nat) (h : Hs) : Nat → Hs := fun q => if q = rd then h else H q
theorem upH_same (H : Nat → Hs) (rd : Nat) (h : Hs) : upH H rd h rd = h := by simp [upH]
theorem upH_other (H : Nat → Hs) {rd q : Nat} (h : Hs) (hq : q ≠ rd) : upH H rd h q = H q := by simp [upH, hq]

theorem mkL_mem {base rd : Nat} {cs : List (List Nat)} : ∀ {at_ : Nat} {x : Nat × List Nat}, x ∈ mkL base rd at_ cs → ∃ i c, cs[i]? = some c ∧ x = (base + at_ + i, markedC (markN rd (at_ + i)) c) := by
  intro at_ x hx
  obtain ⟨i, hi⟩ := List.mem_iff_getElem?.1 hx
  have hlt := (List.getElem?_eq_some_iff.1 hi).1
  rw [mkL_len] at hlt
  have := mkL_get base rd cs at_ i _ (List.getElem?_eq_getElem hlt)
  rw [hi] at this
  exact ⟨i, _, List.getElem?_eq_getElem hlt, Option.some.inj this⟩
theorem mkL_nodup (base rd : Nat) (cs : List (List Nat)) : ∀ at_, ((mkL base rd at_ cs).map (·.1)).Nodup := by
  induction cs with
  | nil => intro at_; simp [mkL]
  | cons c r ih =>
    intro at_
    simp only [mkL, List.map_cons, List.nodup_cons]
    refine ⟨fun h => ?_, ih _⟩
    obtain ⟨x, hx, e⟩ := List.mem_map.1 h
    have := mkL_bounds base rd r (at_ + 1) x hx
    omega

section
variable {n : Nat} {P : Pl} {H : Nat → Hs}

theorem topL_get {s : List (List Nat)} {c : List Nat} (h : c ∈ s) : numC c 0 / 65536 ≤ topL s ∧ numC c 56 / 65536 ≤ topL s := by
  have := topM_ge h
  exact ⟨Nat.div_le_div_right this.1, Nat.div_le_div_right this.2⟩

/-- Pieces of a round are put. -/
theorem Inv.puts (h : Inv n P H) {s rd at_ : Nat} {cs : List (List Nat)} {h' : Hs} (hs : s ≤ 1) (hr1 : 1 ≤ rd) (hr2 : rd ≤ 200) (ha : at_ + cs.length ≤ n / 2) (hside : h'.side = s) (hok : h'.Ok) (hm : h'.m = at_ + cs.length) (hpc : ∀ i c, cs[i]? = some c → h'.pc[at_ + i]? = some c)
    (hfresh : ∀ k c, at_ ≤ k → k < n / 2 → P.sure[s * (n / 2) + k]? = some c → numC c 0 ≠ markN rd k ∧ numC c 56 ≠ markN rd k) (hno : ∀ k, at_ ≤ k → k < n / 2 → ∀ x ∈ P.loose, x.1 ≠ s * (n / 2) + k)
    (hmono : ∀ s' k, s' ≤ 1 → k < n / 2 → ((∃ c, P.sure[s' * (n / 2) + k]? = some c ∧ (numC c 0 = markN rd k ∨ numC c 56 = markN rd k)) ∨ ∃ x ∈ P.loose, Loose n H P.sure x s' k rd) → h'.side = (H rd).side ∧ (k < (H rd).m → k < h'.m) ∧ ((H rd).pc[k]? = none ∨ h'.pc[k]? = (H rd).pc[k]?))
    (htop : topL P.last ≤ rd) {P' : Pl} (hg : P'.Good) (e1 : P'.sure = P.sure) (e2 : P'.last = layAll P.last (mkL (s * (n / 2)) rd at_ cs)) (e3 : P'.loose = P.loose ++ mkL (s * (n / 2)) rd at_ cs) : Inv n P' (upH H rd h') := by
  have hfew : ∀ k, k < h'.m → ∃ p, h'.pc[k]? = some p := fun k hk => ⟨_, List.getElem?_eq_getElem (by rw [hok.len]; exact hk)⟩
  have hLg : LgAll n (upH H rd h') P.sure := fun s' k c hs' hk hc => by
    refine (h.sureL s' k c hs' hk hc).mono (fun r _ hn => ?_)
    by_cases hrr : r = rd
    · subst hrr
      rw [upH_same]
      exact hmono s' k hs' hk (.inl ⟨c, hc, hn⟩)
    · rw [upH_other H h' hrr]
      exact ⟨rfl, fun h => h, .inr rfl⟩
  have hlay : P'.last = layAll P'.sure P'.loose := by rw [e1, e2, e3, layAll_append, ← h.sync]
  refine ⟨hg, by rw [e1]; exact h.len, h.n60, fun q => ?_, hlay, ?_, by rw [e1]; exact hLg, fun x hx => ?_, by rw [e1]; exact h.odd, fun c hc => ?_⟩
  · by_cases hq : q = rd
    · subst hq; rw [upH_same]; exact hok
    · rw [upH_other H h' hq]; exact h.ok q
  · rw [e3, List.map_append, List.nodup_append]
    refine ⟨h.nod, mkL_nodup _ _ _ _, fun a ha1 b hb1 hab => ?_⟩
    obtain ⟨x, hx, rfl⟩ := List.mem_map.1 ha1
    obtain ⟨y, hy, rfl⟩ := List.mem_map.1 hb1
    obtain ⟨i, c, hi, rfl⟩ := mkL_mem hy
    have hil := (List.getElem?_eq_some_iff.1 hi).1
    exact hno (at_ + i) (by omega) (by omega) x hx (by rw [hab]; simp only; omega)
  · rw [e3] at hx
    rw [e1]
    rcases List.mem_append.1 hx with hxl | hxm
    · obtain ⟨s', k, R, hl⟩ := h.looseL x hxl
      refine ⟨s', k, R, hl.s1, hl.k1, hl.at_, hl.R1, hl.R2, ?_, ?_, ?_, hl.fresh⟩
      · by_cases hq : R = rd
        · subst hq; rw [upH_same]; exact (hmono s' k hl.s1 hl.k1 (.inr ⟨x, hxl, hl⟩)).1.trans hl.side
        · rw [upH_other H h' hq]; exact hl.side
      · by_cases hq : R = rd
        · subst hq; rw [upH_same]; exact (hmono s' k hl.s1 hl.k1 (.inr ⟨x, hxl, hl⟩)).2.1 hl.few
        · rw [upH_other H h' hq]; exact hl.few
      · obtain ⟨p, hp1, hp2⟩ := hl.put
        refine ⟨p, ?_, hp2⟩
        by_cases hq : R = rd
        · subst hq
          rw [upH_same]
          rcases (hmono s' k hl.s1 hl.k1 (.inr ⟨x, hxl, hl⟩)).2.2 with he | he
          · rw [hp1] at he; cases he
          · rw [he]; exact hp1
        · rw [upH_other H h' hq]; exact hp1
    · obtain ⟨i, c, hi, rfl⟩ := mkL_mem hxm
      have hil := (List.getElem?_eq_some_iff.1 hi).1
      refine ⟨s, at_ + i, rd, hs, by omega, by simp only; omega, hr1, hr2, by rw [upH_same]; exact hside, by rw [upH_same, hm]; omega, ⟨c, by rw [upH_same]; exact hpc i c hi, rfl⟩, fun d hd => hfresh (at_ + i) d (by omega) (by omega) (by rw [← hd]; simp only [Nat.add_assoc])⟩
  · rw [e1] at hc
    have h1 := h.top c hc
    have hle : topL P.last ≤ topL P'.last := by
      rw [e2]
      by_cases hz : cs = []
      · subst hz; exact Nat.le_refl _
      · obtain ⟨d, hd⟩ : ∃ d, cs[0]? = some d := by
          cases cs with
          | nil => exact absurd rfl hz
          | cons d r => exact ⟨d, rfl⟩
        have hcl := (hok.each d (List.mem_of_getElem? (hpc 0 d hd))).1
        have hget := lay_mkL (s * (n / 2)) rd cs at_ P.last 0 d (by rw [h.good.size, h.len]; rcases Nat.le_one_iff_eq_zero_or_eq_one.1 hs with rfl | rfl <;> omega) hd
        have := (topL_get (List.mem_of_getElem? hget)).1
        have hn := h.n60
        rw [(numC_marked (show markN rd (at_ + 0) < 18446744073709551616 by unfold markN; omega) hcl).1] at this
        unfold markN at this
        omega
    omega

theorem Inv.same (h : Inv n P H) {P' : Pl} (hg : P'.Good) (e1 : P'.sure = P.sure) (e2 : P'.last = P.last) (e3 : P'.loose = P.loose) : Inv n P' H :=
  ⟨hg, by rw [e1]; exact h.len, h.n60, h.ok, by rw [e1, e2, e3]; exact h.sync, by rw [e3]; exact h.nod, by rw [e1]; exact h.sureL, by rw [e3, e1]; exact h.looseL, by rw [e1]; exact h.odd, by rw [e1, e2]; exact h.top⟩

/-- All is one: made sure, or behind a loss. -/
theorem Inv.settled (h : Inv n P H) {P' : Pl} (hg : P'.Good) {S : List (List Nat)} (e1 : P'.sure = S) (e2 : P'.last = S) (e3 : P'.loose = []) (hl : S.length = n) (hS1 : ∀ i, (∀ x ∈ P.loose, x.1 ≠ i) → S[i]? = P.sure[i]?) (hS2 : ∀ x ∈ P.loose, ∃ m, m ≤ 64 ∧ S[x.1]? = some (tear m x.2 (P.sure.getD x.1 []))) : Inv n P' H := by
  refine ⟨hg, by rw [e1]; exact hl, h.n60, h.ok, by rw [e1, e2, e3]; rfl, by rw [e3]; exact List.nodup_nil, by rw [e1]; exact (h.outcome hS1 hS2).1, fun x hx => by rw [e3] at hx; simp at hx, fun c hc => ?_, fun c hc => ?_⟩
  · rw [e1, hS1 _ (fun x hx e => by
      obtain ⟨s, k, R, hl⟩ := h.looseL x hx
      have h1 := hl.at_
      have h2 := hl.k1
      rcases Nat.le_one_iff_eq_zero_or_eq_one.1 hl.s1 with h3 | h3 <;> rw [h3] at h1 <;> omega)] at hc
    exact h.odd c hc
  · rw [e1] at hc
    rw [e2]
    exact topL_get hc
theorem Inv.flushed (h : Inv n P H) (ho : P.flush.1 = 0) : Inv n P.flush.2 H ∧ P.flush.2.sure = P.last ∧ P.flush.2.last = P.last ∧ P.flush.2.loose = [] ∧ P.flush.2.off = false ∧ P.off = false := by
  have hg := h.good.flush
  rcases P.spend_cases with ⟨e1, eo, _, e2⟩ | ⟨e1, _⟩
  · have hf : P.flush = (0, { P.spend.2 with sure := layAll P.sure P.loose, loose := [] }) := by unfold Pl.flush; rw [e1]; rfl
    have s1 : P.flush.2.sure = P.last := by rw [hf, h.sync]
    have s2 : P.flush.2.last = P.last := by rw [hf]; exact P.spend_kept.2.1
    have s3 : P.flush.2.loose = [] := by rw [hf]
    have s4 : P.flush.2.off = false := by rw [hf]; simp only [e2]; exact eo
    exact ⟨h.settled hg s1 s2 s3 (by rw [h.good.size, h.len]) h.lasts.1 h.last_out, s1, s2, s3, s4, eo⟩
  · have : P.flush.1 = 72 := by unfold Pl.flush; rw [e1]; rfl
    rw [this] at ho
    cases ho
theorem flush_fails {P : Pl} (ho : P.flush.1 ≠ 0) : P.flush.1 = 72 ∧ P.flush.2.sure = P.sure ∧ P.flush.2.last = P.last ∧ P.flush.2.loose = P.loose ∧ P.flush.2.off = true := by
  rcases P.spend_cases with ⟨e1, _, _, e2⟩ | ⟨e1, e2⟩
  · have : P.flush.1 = 0 := by unfold Pl.flush; rw [e1]; rfl
    exact absurd this ho
  · have hf : P.flush = (72, P.spend.2) := by unfold Pl.flush; rw [e1]; rfl
    rw [hf]
    exact ⟨rfl, P.spend_kept.1, P.spend_kept.2.1, P.spend_kept.2.2, by rw [e2]⟩
theorem Inv.failed (h : Inv n P H) (keep : List Nat) (torn at_ : Int) : Inv n (P.fail keep torn at_) H :=
  h.settled (h.good.fail keep torn at_) rfl rfl rfl (by show (failL keep torn at_ 0 P.loose P.sure).length = n; rw [failL_len, h.len]) (h.fails keep torn at_).1 (h.fails keep torn at_).2
theorem Inv.new {n : Nat} (hn : n ≤ 60) : Inv n (Pl.new n) (fun _ => ⟨0, [], [], 0⟩) := by
  have hz : ∀ i c, (List.replicate n zeroC)[i]? = some c → c = zeroC := fun i c hc => (List.mem_replicate.1 (List.mem_of_getElem? hc)).2
  have hzero := Lg.zero (fun _ => ⟨0, [], [], 0⟩)
  refine ⟨Pl.Good.new (by omega), by simp [Pl.new], hn, fun q => ⟨⟨by simp, fun _ h => by simp at h⟩, fun x hx => by simp at hx, Nat.zero_le _⟩, rfl, List.nodup_nil, fun s k c _ _ hc => by rw [hz _ c hc]; exact hzero s k, fun x hx => by simp [Pl.new] at hx, fun c hc => ?_, fun c hc => topL_get hc⟩
  have h1 := (hzero 0 0).b
  rw [hz _ c hc]
  have h0 : ∀ o, numC zeroC o = 0 := fun o => by
    unfold numC zeroC
    have : ∀ l : List Nat, (∀ x ∈ l, x = 0) → numLE l = 0 := fun l => by
      induction l with
      | nil => intro _; rfl
      | cons x r ih => intro h; simp only [numLE]; rw [ih (fun y hy => h y (by simp [hy])), h x (by simp)]
    exact this _ (fun x hx => (List.mem_replicate.1 (List.mem_of_mem_drop (List.mem_of_mem_take hx))).2)
  exact ⟨h0 0, h0 56⟩

/-- Whatever stands there bears no round above the top, and none stands on both sides. -/
theorem Inv.bear_top (h : Inv n P H) {s k r : Nat} (hb : bearAt n P.sure s r k) : r ≤ topL P.last := by
  obtain ⟨c, hc, hb⟩ := hb
  simp only [bearsC, Bool.and_eq_true, beq_iff_eq] at hb
  have := (h.top c (List.mem_of_getElem? hc)).1
  by_cases hk : k < 65535
  · rw [hb.1] at this
    unfold markN at this
    omega
  · rw [hb.1] at this
    unfold markN at this
    omega
theorem bear_legit {S : List (List Nat)} (hS : LgAll n H S) {s k r : Nat} (hs : s ≤ 1) (hk : k < n / 2) (hr : 1 ≤ r) (hb : bearAt n S s r k) : (H r).side = s ∧ k < (H r).m ∧ r ≤ 200 := by
  obtain ⟨c, hc, hb⟩ := hb
  simp only [bearsC, Bool.and_eq_true, beq_iff_eq] at hb
  rcases (hS s k c hs hk hc).b with h0 | h0 | ⟨q, h1, h2, h3, h4, h5⟩
  · rw [hb.1] at h0; unfold markN at h0; omega
  · rw [hb.1] at h0; unfold markN at h0; omega
  · have : r = q := by rw [hb.1] at h3; unfold markN at h3; omega
    subst this
    exact ⟨h4, h5, h2⟩
end

end Go.Proofs.Ytipikkniookanaa
