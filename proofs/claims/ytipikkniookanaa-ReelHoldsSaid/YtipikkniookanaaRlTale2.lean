/- What becomes of a tale and its words in memory; Limit and Fail under a reel. -/
import Derived.Test.YtipikkniookanaaRlTale
namespace Go.Proofs.Ytipikkniookanaa
set_option maxRecDepth 100000
open Go.RowKit

section
variable {w0 w : World} {B : World → (Nat → Prop) → Prop} {L : Nat → Prop} {g b : Nat} {r : Rl}

theorem Pair.rlimit (sB : Stays B) (h : Pair w0 w (atRl b g r) B L) (n : Int) (hn : n ≤ 9223372036854775807) :
    Calls Try.prog 21 #[ptr g, .int .i64 n] w (fun e w' => e = .returned (.tuple #[]) ∧ Pair w0 w' (atRl b g ⟨r.P.limit n, r.side, r.ready⟩) B L ∧ ∀ k, L k → w'.heap[k]? = w.heap[k]?) :=
  h.first sB fun R h1 => by
    obtain ⟨bs, bl, lv, h2, hc⟩ := h1.start.plate
    refine (limit_any h2 n hn).mono ?_
    rintro e w' ⟨rfl, hp, hu⟩
    exact ⟨rfl, (hc _ _ ⟨bs, bl, lv, hp.ext⟩ ((Keep.refl _ w).upd hu (fun _ => h2.rg))).fin⟩
theorem Pair.rfail (sB : Stays B) (h : Pair w0 w (atRl b g r) B L) (ka : Option Addr) (kc : Nat) (keep : List Nat) (hk : BytesP w ka kc keep) (hka : keep ≠ [] → ∀ b o, ka = some ⟨b, o, none⟩ → b < w0.heap.size ∨ L b) (torn at_ : Int) :
    Calls Try.prog 23 #[ptr g, .slice ka keep.length kc, .int .i64 torn, .int .i64 at_] w (fun e w' => e = .returned (.tuple #[]) ∧ Pair w0 w' (atRl b g ⟨r.P.fail keep torn at_, r.side, r.ready⟩) B L ∧ ∀ k, L k → w'.heap[k]? = w.heap[k]?) := by
  obtain ⟨R1, R2, h1, h2, h3, h4, h5, h6⟩ := h
  have hoff : keep ≠ [] → ∀ b o, ka = some ⟨b, o, none⟩ → ¬ R1 b := fun hne b o e hr => by
    have := h4 b (.inl hr)
    rcases hka hne b o e with h | h
    · omega
    · exact this.2 h
  have h' : Pair w0 w (fun w' R => atRl b g r w' R ∧ (w' = w → R = R1)) B L := ⟨R1, R2, ⟨h1, fun _ => rfl⟩, h2, h3, h4, h5, h6⟩
  refine h'.first sB fun R ⟨hp, hR⟩ => ?_
  have := hR rfl
  subst this
  obtain ⟨bs, bl, lv, q1, q2, q3, q4⟩ := hp
  obtain ⟨bs', bl', lv', q5, hc⟩ := (atRl.start ⟨bs, bl, lv, q1, q2, q3, q4⟩).plate
  obtain ⟨e1, e2, e3⟩ : bs' = bs ∧ bl' = bl ∧ lv' = lv := by
    have := q5.head.symm.trans q1.head
    simp at this
    exact this
  subst e1 e2 e3
  refine (fail_any q5 ka kc keep hk (fun hne b o e hr => hoff hne b o e (q1.within _ hr)) torn at_).mono ?_
  rintro e w' ⟨rfl, hp, hk⟩
  exact ⟨rfl, (hc _ _ hp hk).fin⟩
end

/-- A tale at block t, its words' row v. -/
def TlV (w : World) (t : Nat) (f : List Nat) (v : Value) : Prop := w.heap[t]? = some (.cells #[.string (strB f), v] 56 (0, 0))
theorem TlV.cells {w : World} {t : Nat} {f : List Nat} {v : Value} (h : TlV w t f v) : w.cell? ⟨t, 0, none⟩ = some (.string (strB f)) ∧ w.cell? ⟨t, 1, none⟩ = some v ∧ w.frozen? ⟨t, 0, none⟩ = false ∧ w.frozen? ⟨t, 1, none⟩ = false := by
  unfold TlV at h
  simp [World.cell?, World.frozen?, h]
theorem TlV.set {w : World} {t : Nat} {f : List Nat} {v : Value} (h : TlV w t f v) (u : Value) : TlV (w.setCell ⟨t, 1, none⟩ u) t f u := by
  unfold TlV at *
  rw [heap_setCell_same w t 1 _ _ _ h]
  rfl

/-- A tale and its words, of blocks R; the words' row came since base. -/
def atTl (base t : Nat) (f : List Nat) (ws : List (List Nat)) (w : World) (R : Nat → Prop) : Prop :=
  ∃ v, TlV w t f v ∧ OwnSS w base v ws ∧ R t ∧ (∀ k, v.ownBlock = some k → R k ∧ k ≠ t) ∧ ∀ k, R k → k < w.heap.size

theorem stays_tl (base t : Nat) (f : List Nat) (ws : List (List Nat)) : Stays (atTl base t f ws) :=
  ⟨fun _w _R ⟨_, _, _, _, _, h⟩ => h, fun _w _w' _R ⟨v, h1, h2, h3, h4, h5⟩ hs hb => ⟨v, (hb t h3).trans h1, ownsRow_same h2 (fun k hk => hb k (h4 k hk).1), h3, h4, fun k hk => Nat.lt_of_lt_of_le (h5 k hk) hs⟩⟩

theorem ownSS_nil (w : World) (base : Nat) : OwnSS w base (.slice none 0 0) [] := World.ownsRow_nil w base 9 1

section
variable {w0 w w' : World} {A : World → (Nat → Prop) → Prop} {L : Nat → Prop} {base t : Nat} {f : List Nat} {ws : List (List Nat)}

/-- The second one is turned otherwise. -/
theorem Pair.step (sA : Stays A) {B B' : World → (Nat → Prop) → Prop} (h : Pair w0 w A B L) (C : ∀ R, B w R → B' w' (ext R w w') ∧ Keep R w w') : Pair w0 w' A B' L ∧ ∀ k, L k → w'.heap[k]? = w.heap[k]? := by
  obtain ⟨R1, R2, h1, h2, h3, h4, h5, h6⟩ := h
  obtain ⟨hb, hk⟩ := C R2 h2
  refine ⟨⟨R1, _, sA.same _ _ _ h1 hk.size (fun k hr => hk.block k (sA.dom _ _ h1 k hr) (fun e => h3 k hr e)), hb, ?_, ?_, fun k hl => Nat.lt_of_lt_of_le (h5 k hl) hk.size, h6.trans (hk.below h6.size (fun k hr => (h4 k (.inr hr)).1))⟩, fun k hl => hk.block k (h5 k hl) (fun e => (h4 k (.inr e)).2 hl)⟩
  · intro k hr hr2
    rcases hr2 with hr2 | hr2
    · exact h3 k hr hr2
    · have := sA.dom _ _ h1 k hr
      omega
  · intro k hr
    rcases hr with hr | hr | hr
    · exact h4 k (.inl hr)
    · exact h4 k (.inr hr)
    · exact ⟨Nat.le_trans h6.size hr.1, fun hl => by have := h5 k hl; omega⟩

/-- Its variables, and the row of its words. -/
theorem Pair.tale (h : Pair w0 w A (atTl base t f ws) L) (hn : ws.length ≤ 1000000) : ∃ a cap, TlV w t f (.slice a ws.length cap) ∧ SSP w a cap ws ∧ OwnSS w base (.slice a ws.length cap) ws ∧ t < w.heap.size ∧ ¬ L t := by
  obtain ⟨R1, R2, h1, ⟨v, q1, q2, q3, q4, q5⟩, h3, h4, h5, h6⟩ := h
  obtain ⟨a, cap, rfl, hs⟩ := q2.lists hn
  exact ⟨a, cap, q1, hs, q2, q5 t q3, (h4 t (.inr q3)).2⟩

/-- Its row came since an older world, too. -/
theorem Pair.lower (h : Pair w0 w A (atTl base t f ws) L) {base' : Nat} (hb : base' ≤ base) : Pair w0 w A (atTl base' t f ws) L := by
  obtain ⟨R1, R2, h1, ⟨v, q1, q2, q3, q4, q5⟩, h3⟩ := h
  exact ⟨R1, R2, h1, ⟨v, q1, ownsRow_base q2 (fun k hk => Nat.le_trans hb (q2.lt k hk).1), q3, q4, q5⟩, h3⟩
/-- A tale that is laid now. -/
theorem Pair.addTl (h : Pair w0 w A noB L) (sA : Stays A) {o : Obj} (hv : TlV (w.alloc o) w.heap.size f (.slice none 0 0)) : Pair w0 (w.alloc o) A (atTl base w.heap.size f []) L := by
  obtain ⟨R1, R2, h1, h2, h3, h4, h5, h6⟩ := h
  have hb := (Below.refl w.heap.size w).alloc (Nat.le_refl _) o
  refine ⟨R1, fun k => k = w.heap.size, sA.same _ _ _ h1 hb.size (fun k hk => hb.block k (sA.dom _ _ h1 k hk)), ⟨_, hv, ownSS_nil _ _, rfl, (fun k hk => by cases hk), fun k hk => by rw [hk]; simp⟩, fun k a e => ?_, fun k a => ?_, fun k hk => Nat.lt_of_lt_of_le (h5 k hk) hb.size, h6.trans (hb.mono h6.size)⟩
  · have := sA.dom _ _ h1 k a
    omega
  · rcases a with a | a
    · exact h4 k (.inl a)
    · rw [a]
      exact ⟨h6.size, fun hl => by have := h5 _ hl; omega⟩

/-- The whole tale is written anew. -/
theorem Pair.anew (sA : Stays A) (h : Pair w0 w A (atTl base t f ws) L) {base' : Nat} {f' : List Nat} (u : Upd t w w') (hv : TlV w' t f' (.slice none 0 0)) : Pair w0 w' A (atTl base' t f' []) L ∧ ∀ k, L k → w'.heap[k]? = w.heap[k]? :=
  h.step sA fun R ⟨v, q1, q2, q3, q4, q5⟩ => ⟨⟨_, hv, ownSS_nil _ _, .inl q3, (fun k hk => by cases hk), fun k hk => hk.elim (fun h => by rw [u.size]; exact q5 k h) (fun h => h.2)⟩, (Keep.refl R w).upd u (fun _ => q3)⟩

/-- One word more, onto the row itself. -/
theorem Pair.pushed (sA : Stays A) (h : Pair w0 w A (atTl base t f ws) L) (hbase : base ≤ w.heap.size) (x : List Nat) (hn : ws.length < 100000) {a : Option Addr} {cap : Nat} (hv : TlV w t f (.slice a ws.length cap)) (ty : TypeId) :
    ∃ a' c' w', ApR 38 ty (.slice a ws.length cap) (.slice (some ⟨w.heap.size, 0, none⟩) 1 1) (w.alloc (.cells #[.string (strB x)] 9)) = .ok (.value (.slice a' (ws.length + 1) c')) w' ∧ TlV w' t f (.slice a ws.length cap) ∧ Pair w0 (w'.setCell ⟨t, 1, none⟩ (.slice a' (ws.length + 1) c')) A (atTl base t f (ws ++ [x])) L ∧ (∀ k, L k → (w'.setCell ⟨t, 1, none⟩ (.slice a' (ws.length + 1) c')).heap[k]? = w.heap[k]?) ∧ Keep (fun k => k = t ∨ base ≤ k) w (w'.setCell ⟨t, 1, none⟩ (.slice a' (ws.length + 1) c')) := by
  have hown : ∃ hr : OwnSS w base (.slice a ws.length cap) ws, t < w.heap.size ∧ ∀ k, (Value.slice a ws.length cap).ownBlock = some k → k ≠ t := by
    obtain ⟨R1, R2, h1, ⟨v, q1, q2, q3, q4, q5⟩, h3, h4, h5, h6⟩ := h
    have e := q1.symm.trans hv
    simp at e
    subst e
    exact ⟨q2, q5 t q3, fun k hk => (q4 k hk).2⟩
  obtain ⟨ho, htl, hne⟩ := hown
  have hW : Below w.heap.size w (w.alloc (.cells #[.string (strB x)] 9)) := (Below.refl w.heap.size w).alloc (Nat.le_refl _) _
  have ho1 : (w.alloc (.cells #[.string (strB x)] 9)).ownsRow 0 9 1 (.slice a ws.length cap) ws.length (ws.map txt) := ownsRow_base (ho.below hW) (fun k _ => Nat.zero_le k)
  have hnew : RowAt (w.alloc (.cells #[.string (strB x)] 9)) w.heap.size 9 [.string (strB x)] := RowAt.of (heap_alloc_new w _)
  obtain ⟨v', w', h1, h2, h3, h4⟩ := ap_own 38 ty 9 1 16 _ (by omega) infoS Try.underlying38 rfl (.slice a ws.length cap) ws.length (ws.map txt) ho1 w.heap.size 1 1 9 _ hnew rfl (fun u hu => by simp at hu; subst hu; rfl) (by omega) (by omega)
  obtain ⟨a', c', rfl, _⟩ := own_slice h2
  have hsz := hW.size
  have htv : TlV w' t f (.slice a ws.length cap) := ((h3.block t (Nat.lt_of_lt_of_le htl hsz) (fun e => hne t e.symm rfl)).trans (hW.block t htl)).trans hv
  have hblk : ∀ k, (Value.slice a' (ws.length + 1) c').ownBlock = some k → (Value.slice a ws.length cap).ownBlock = some k ∨ (w.heap.size ≤ k ∧ k < w'.heap.size) := fun k hk => (h4 k hk).imp id (fun h => ⟨Nat.le_trans hsz h.1, h.2⟩)
  have hkb : Keep (fun k => k = t ∨ base ≤ k) w w' := ((Keep.refl (fun k => k = t ∨ base ≤ k) w).alloc _).grown h3 (fun k hk _ => .inr (ho.lt k hk).1)
  suffices hs : Pair w0 (w'.setCell ⟨t, 1, none⟩ (.slice a' (ws.length + 1) c')) A (atTl base t f (ws ++ [x])) L ∧ ∀ k, L k → (w'.setCell ⟨t, 1, none⟩ (.slice a' (ws.length + 1) c')).heap[k]? = w.heap[k]? from ⟨a', c', w', h1, htv, hs.1, hs.2, hkb.setCell (fun _ => .inl rfl) _⟩
  refine h.step sA fun R ⟨v, q1, q2, q3, q4, q5⟩ => ?_
  have e := q1.symm.trans hv
  simp at e
  subst e
  have hkeep : Keep R w w' := ((Keep.refl R w).alloc _).grown h3 (fun k hk _ => (q4 k hk).1)
  refine ⟨⟨_, htv.set _, ?_, .inl q3, fun k hk => ?_, fun k hk => ?_⟩, hkeep.setCell (fun _ => q3) _⟩
  · unfold OwnSS
    rw [List.length_append, List.map_append]
    have h2' : w'.ownsRow base 9 1 (.slice a' (ws.length + 1) c') (ws.length + 1) (ws.map txt ++ [.string (strB x)]) := ownsRow_base h2 (fun k hk => by
      rcases hblk k hk with hk | hk
      · exact (ho.lt k hk).1
      · omega)
    refine ownsRow_same h2' (fun k hk => heap_setCell_other _ _ _ _ (fun e => ?_))
    rcases hblk k hk with hk | hk
    · exact hne k hk e
    · simp only at e; omega
  · rcases hblk k hk with hk | hk
    · exact ⟨.inl (q4 k hk).1, (q4 k hk).2⟩
    · exact ⟨.inr ⟨hk.1, by simpa [World.setCell] using hk.2⟩, by omega⟩
  · rcases hk with hk | hk
    · have := q5 k hk
      have := hkeep.size
      simp [World.setCell]
      omega
    · exact hk.2
end

end Go.Proofs.Ytipikkniookanaa
