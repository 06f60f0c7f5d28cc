/- The document's plate beside the program's: they tell the same. -/
import Derived.Test.YtipikkniookanaaRef4
import Derived.Test.YtipikkniookanaaPair
namespace Go.Proofs.Ytipikkniookanaa
open Go.RowKit

/-- They tell the same. -/
structure Rel (r : Rf) (P : Pl) : Prop where
  sure : r.sure = P.sure
  seen : r.seen = P.last
  ats : r.ats = P.loose.map (·.1)
  what : r.what = P.loose.map (·.2)
  off : r.off = P.off
  cnt : (r.counts = true ∧ r.left = P.left ∧ 0 ≤ P.left) ∨ (r.counts = false ∧ P.left = -1)
  tidy : P.last = layAll P.sure P.loose

theorem rel_new (n : Nat) : Rel (Rf.new n) (Pl.new n) := ⟨rfl, rfl, rfl, rfl, rfl, .inr ⟨rfl, rfl⟩, rfl⟩

section
variable {r : Rf} {P : Pl}

theorem Rel.power (h : Rel r P) : r.power.1 = (P.spend.1 == 0) ∧ Rel r.power.2 P.spend.2 := by
  obtain ⟨sure, seen, ats, what, off, counts, left⟩ := r
  obtain ⟨h1, h2, h3, h4, h5, h6, h7⟩ := h
  simp only at h1 h2 h3 h4 h5 h6
  subst h1 h2 h3 h4 h5
  rcases P.spend_cases with ⟨e1, e2, e3, e4⟩ | ⟨e1, e4⟩
  · rw [e1, e4]
    rcases h6 with ⟨rfl, rfl, h8⟩ | ⟨rfl, h8⟩
    · have h0 : (P.left == 0) = false := by simpa using e3
      have hp : 0 < P.left := by omega
      simp only [Rf.power, e2, h0, Bool.and_false, Bool.or_self, Bool.false_eq_true, if_false, if_true, hp]
      exact ⟨rfl, rfl, rfl, rfl, rfl, rfl, .inl ⟨rfl, rfl, by show 0 ≤ P.left - 1; omega⟩, h7⟩
    · simp only [Rf.power, e2, Bool.false_and, Bool.or_self, Bool.false_eq_true, if_false]
      exact ⟨rfl, rfl, rfl, rfl, rfl, rfl, .inr ⟨rfl, by show (if 0 < P.left then P.left - 1 else P.left) = -1; rw [if_neg (by omega)]; exact h8⟩, h7⟩
  · rw [e1, e4]
    have hc : P.off = true ∨ P.left = 0 := by
      unfold Pl.spend at e1
      split at e1
      · rename_i hh
        simpa using hh
      · simp at e1
    have hpow : Rf.power ⟨P.sure, P.last, P.loose.map (·.1), P.loose.map (·.2), P.off, counts, left⟩ = (false, ⟨P.sure, P.last, P.loose.map (·.1), P.loose.map (·.2), true, counts, left⟩) := by
      unfold Rf.power
      rw [if_pos]
      rcases hc with hc | hc
      · simp [hc]
      · rcases h6 with ⟨rfl, rfl, h8⟩ | ⟨rfl, h8⟩
        · simp [hc]
        · omega
    rw [hpow]
    exact ⟨rfl, rfl, rfl, rfl, rfl, rfl, h6, h7⟩

theorem Rel.has (h : Rel r P) (hg : P.Good) (i : Int) : r.has i = P.has i := by
  unfold Rf.has Pl.has
  rw [h.seen, hg.size]

theorem Rel.put (h : Rel r P) (hg : P.Good) (i : Int) (c : List Nat) : (r.put i c).1 = (P.put i c).1 ∧ Rel (r.put i c).2 (P.put i c).2 := by
  obtain ⟨p1, p2⟩ := h.power
  unfold Rf.put Pl.put
  rw [h.has hg i, p1]
  cases P.has i with
  | false => exact ⟨rfl, h⟩
  | true =>
    rcases P.spend_cases with ⟨e1, _, _, e4⟩ | ⟨e1, e4⟩
    · rw [e1]
      refine ⟨rfl, ?_⟩
      have es : P.spend.2.sure = P.sure := by rw [e4]
      have el : P.spend.2.loose = P.loose := by rw [e4]
      exact ⟨p2.sure, by show r.seen.set _ c = P.last.set _ c; rw [h.seen], by show r.ats ++ _ = _; rw [h.ats]; simp, by show r.what ++ _ = _; rw [h.what]; simp, p2.off, p2.cnt, by show P.last.set _ c = layAll P.spend.2.sure (P.loose ++ _); rw [es, layAll_append, ← h.tidy]; rfl⟩
    · rw [e1]
      exact ⟨rfl, p2⟩

theorem Rel.flush (h : Rel r P) : r.flush.1 = P.flush.1 ∧ Rel r.flush.2 P.flush.2 := by
  obtain ⟨p1, p2⟩ := h.power
  unfold Rf.flush Pl.flush
  rw [p1]
  rcases P.spend_cases with ⟨e1, _, _, e4⟩ | ⟨e1, e4⟩
  · rw [e1]
    have el : P.spend.2.last = P.last := by rw [e4]
    exact ⟨rfl, by show r.seen = layAll P.sure P.loose; rw [h.seen, h.tidy], p2.seen, rfl, rfl, p2.off, p2.cnt, by show P.spend.2.last = layAll P.sure P.loose; rw [el, h.tidy]⟩
  · rw [e1]
    exact ⟨rfl, p2⟩

theorem Rel.limit (h : Rel r P) (n : Int) : Rel (r.limit n) (P.limit n) := by
  refine ⟨h.sure, h.seen, h.ats, h.what, h.off, ?_, h.tidy⟩
  show (decide (0 ≤ n) = true ∧ n = (if n < -1 then -1 else n) ∧ 0 ≤ (if n < -1 then -1 else n)) ∨ (decide (0 ≤ n) = false ∧ (if n < -1 then -1 else n) = -1)
  by_cases h0 : 0 ≤ n
  · refine .inl ⟨by simpa using h0, ?_, ?_⟩
    · rw [if_neg (by omega)]
    · rw [if_neg (by omega)]; exact h0
  · refine .inr ⟨by simpa using h0, ?_⟩
    split <;> omega

theorem zip_parts (l : List (Nat × List Nat)) : (l.map (·.1)).zip (l.map (·.2)) = l := by
  induction l with
  | nil => rfl
  | cons x t ih => simp only [List.map_cons, List.zip_cons_cons, ih]

theorem Rel.fail (h : Rel r P) (keep : List Nat) (torn at_ : Int) : Rel (r.fail keep torn at_) (P.fail keep torn at_) := by
  have e : r.ats.zip r.what = P.loose := by rw [h.ats, h.what, zip_parts]
  have e2 : failL keep torn at_ 0 (r.ats.zip r.what) r.sure = failL keep torn at_ 0 P.loose P.sure := by rw [e, h.sure]
  exact ⟨e2, e2, rfl, rfl, rfl, .inr ⟨rfl, rfl⟩, rfl⟩

theorem Rel.get (h : Rel r P) (hg : P.Good) (i : Int) : r.get i = P.get i ∧ r.getE i = P.getE i := by
  unfold Rf.get Rf.getE Pl.get Pl.getE
  rw [h.has hg i, h.seen]
  exact ⟨rfl, rfl⟩
end

/-- The document's plate at block g. -/
def atRf (g : Nat) (r : Rf) (w : World) (R : Nat → Prop) : Prop := RefP w R g r

theorem stays_rf (g : Nat) (r : Rf) : Stays (atRf g r) :=
  ⟨fun w R h k hk => by obtain ⟨sv, lv, av, wv, h⟩ := h; exact h.dom k hk, fun w w' R h hs hb => by obtain ⟨sv, lv, av, wv, h⟩ := h; exact ⟨sv, lv, av, wv, h.same hs hb⟩⟩

section
variable {w0 w : World} {A : World → (Nat → Prop) → Prop} {L : Nat → Prop} {g : Nat} {r : Rf}

theorem Pair.refPut (sA : Stays A) (h : Pair w0 w A (atRf g r) L) (i : Int) {c : List Nat} (hc : IsCell c) (hla : r.ats.length < 100000) (hlw : r.what.length < 100000) :
    Calls Try.prog 87 #[ptr g, .int .i64 i, .agg (arr c)] w (fun e w' => e = .returned (.int .i64 (r.put i c).1) ∧ Pair w0 w' A (atRf g (r.put i c).2) L ∧ ∀ k, L k → w'.heap[k]? = w.heap[k]?) :=
  h.second sA fun _ ⟨_, _, _, _, h1⟩ => refPut_any h1 i hc hla hlw
theorem Pair.refFlush (sA : Stays A) (h : Pair w0 w A (atRf g r) L) :
    Calls Try.prog 47 #[ptr g] w (fun e w' => e = .returned (.int .i64 r.flush.1) ∧ Pair w0 w' A (atRf g r.flush.2) L ∧ ∀ k, L k → w'.heap[k]? = w.heap[k]?) :=
  h.second sA fun _ ⟨_, _, _, _, h1⟩ => refFlush_any h1
theorem Pair.refLimit (sA : Stays A) (h : Pair w0 w A (atRf g r) L) (n : Int) (hn : n ≤ 9223372036854775807) :
    Calls Try.prog 22 #[ptr g, .int .i64 n] w (fun e w' => e = .returned (.tuple #[]) ∧ Pair w0 w' A (atRf g (r.limit n)) L ∧ ∀ k, L k → w'.heap[k]? = w.heap[k]?) :=
  h.second sA fun R ⟨sv, lv, av, wv, h1⟩ => (refLimit_any h1 n hn).mono fun _ _w' ⟨e, hp, hu⟩ => ⟨e, ⟨sv, lv, av, wv, hp.ext⟩, (Keep.refl R w).upd hu (fun _ => h1.rg)⟩
theorem Pair.refFail (sA : Stays A) (h : Pair w0 w A (atRf g r) L) (hlen : r.ats.length = r.what.length) (ka : Option Addr) (kc : Nat) (keep : List Nat) (hk : BytesP w ka kc keep) (hka : keep ≠ [] → ∀ b o, ka = some ⟨b, o, none⟩ → b < w0.heap.size ∨ L b) (torn at_ : Int) :
    Calls Try.prog 24 #[ptr g, .slice ka keep.length kc, .int .i64 torn, .int .i64 at_] w (fun e w' => e = .returned (.tuple #[]) ∧ Pair w0 w' A (atRf g (r.fail keep torn at_)) L ∧ ∀ k, L k → w'.heap[k]? = w.heap[k]?) := by
  obtain ⟨R1, R2, h1, h2, h3, h4, h5, h6⟩ := h
  have hoff : keep ≠ [] → Off R2 ka := fun hne b o e hr => by
    have := h4 b (.inr hr)
    rcases hka hne b o e with h | h
    · omega
    · exact this.2 h
  have h' : Pair w0 w A (fun w' R => atRf g r w' R ∧ (w' = w → R = R2)) L := ⟨R1, R2, h1, ⟨h2, fun _ => rfl⟩, h3, h4, h5, h6⟩
  refine h'.second sA fun R ⟨⟨sv, lv, av, wv, hp⟩, hR⟩ => ?_
  have := hR rfl
  subst this
  exact refFail_any hp hlen ka kc keep hk hoff torn at_
/-- What can be read of it. -/
theorem Pair.refCells (h : Pair w0 w A (atRf g r) L) : ∃ aa ca al cl, w.cell? ⟨g, 2, none⟩ = some (.slice aa r.ats.length ca) ∧ w.cell? ⟨g, 4, none⟩ = some (.bool r.off) ∧ w.cell? ⟨g, 1, none⟩ = some (.slice al r.seen.length cl) := by
  obtain ⟨R1, R2, _, ⟨sv, lv, av, wv, h2⟩, _⟩ := h
  obtain ⟨c0, c1, c2, c3, c4, c5, c6, hf⟩ := head7 h2.head
  obtain ⟨aa, ca, rfl, _⟩ := own_slice h2.oa
  obtain ⟨al, cl, rfl, _⟩ := own_slice h2.ol
  exact ⟨aa, ca, al, cl, c2, c4, c1⟩
theorem Pair.refSeen (h : Pair w0 w A (atRf g r) L) {k : Nat} (hk : k < r.seen.length) : ∃ b cap, w.cell? ⟨g, 1, none⟩ = some (.slice (some ⟨b, 0, none⟩) r.seen.length cap) ∧ IsCell (r.seen.getD k []) ∧ LdR 90 (.pointer (some ⟨b, k * 64, none⟩)) w = .ok (.value (.agg (arr (r.seen.getD k [])))) w ∧ RowAt w b 90 (rowL r.seen) ∧ Cells r.seen := by
  obtain ⟨R1, R2, _, ⟨sv, lv, av, wv, h2⟩, _⟩ := h
  obtain ⟨c0, c1, c2, c3, c4, c5, c6, hf⟩ := head7 h2.head
  obtain ⟨b, cap, rfl, _, hr⟩ := own_some h2.ol (by omega)
  have ic := getD_cell h2.good.cl hk
  exact ⟨b, cap, c1, ic, ld_cell hr ic.len (rowL_cell h2.good.cl hk), hr, h2.good.cl⟩
end

theorem pair_new2 {w0 w2 w3 w4 : World} {n g1 g2 : Nat} {L : Nat → Prop} (b : Below w0.heap.size w0 w2) (hL : ∀ k, L k → k < w2.heap.size) (h3 : PlateP w3 (fun k => w2.heap.size ≤ k ∧ k < w3.heap.size) g1 (Pl.new n)) (b3 : Below w2.heap.size w2 w3)
    (h4 : RefP w4 (fun k => w3.heap.size ≤ k ∧ k < w4.heap.size) g2 (Rf.new n)) (b4 : Below w3.heap.size w3 w4) : Pair w0 w4 (atPl g1 (Pl.new n)) (atRf g2 (Rf.new n)) L := by
  refine ⟨_, _, (stays_pl g1 _).same _ _ _ h3 b4.size (fun k hk => b4.block k hk.2), h4, fun k h h' => by omega, fun k hk => ?_, fun k hk => ?_, (b.trans (b3.mono b.size)).trans (b4.mono (Nat.le_trans b.size b3.size))⟩
  · have := b.size
    have := b3.size
    exact ⟨by omega, fun hl => by have := hL k hl; omega⟩
  · have := hL k hk
    have := b3.size
    have := b4.size
    omega

end Go.Proofs.Ytipikkniookanaa
