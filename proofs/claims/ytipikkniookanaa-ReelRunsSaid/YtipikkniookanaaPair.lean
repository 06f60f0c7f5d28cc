/- Two things in memory that share nothing, and local variables beside them. -/
import Derived.Test.YtipikkniookanaaMine
namespace Go.Proofs.Ytipikkniookanaa
open Go.RowKit

/-- A thing in memory that stays where its blocks stay. -/
structure Stays (A : World → (Nat → Prop) → Prop) : Prop where
  dom : ∀ w R, A w R → ∀ k, R k → k < w.heap.size
  same : ∀ w w' R, A w R → w.heap.size ≤ w'.heap.size → (∀ k, R k → w'.heap[k]? = w.heap[k]?) → A w' R

/-- Two such things, that came since w0; blocks L are none of theirs; what was there at w0 is as it was. -/
def Pair (w0 w : World) (A B : World → (Nat → Prop) → Prop) (L : Nat → Prop) : Prop :=
  ∃ R1 R2, A w R1 ∧ B w R2 ∧ (∀ k, R1 k → R2 k → False) ∧ (∀ k, R1 k ∨ R2 k → w0.heap.size ≤ k ∧ ¬ L k) ∧ (∀ k, L k → k < w.heap.size) ∧ Below w0.heap.size w0 w

section
variable {w0 w w' : World} {A A' B B' : World → (Nat → Prop) → Prop} {L : Nat → Prop}

theorem Pair.low (h : Pair w0 w A B L) : Below w0.heap.size w0 w := by
  obtain ⟨R1, R2, _, _, _, _, _, h⟩ := h
  exact h
theorem Pair.swap (h : Pair w0 w A B L) : Pair w0 w B A L := by
  obtain ⟨R1, R2, h1, h2, h3, h4, h5, h6⟩ := h
  exact ⟨R2, R1, h2, h1, fun k a b => h3 k b a, fun k hk => h4 k hk.symm, h5, h6⟩
theorem Pair.mono (h : Pair w0 w A B L) {M : Nat → Prop} (hM : ∀ k, M k → L k) : Pair w0 w A B M := by
  obtain ⟨R1, R2, h1, h2, h3, h4, h5, h6⟩ := h
  exact ⟨R1, R2, h1, h2, h3, fun k hk => ⟨(h4 k hk).1, fun e => (h4 k hk).2 (hM k e)⟩, fun k hk => h5 k (hM k hk), h6⟩

/-- New memory, some of it local variables. -/
theorem Pair.below (sA : Stays A) (sB : Stays B) (h : Pair w0 w A B L) (hb : Below w.heap.size w w') {M : Nat → Prop} (hM : ∀ k, M k → L k ∨ (w.heap.size ≤ k ∧ k < w'.heap.size)) : Pair w0 w' A B M := by
  obtain ⟨R1, R2, h1, h2, h3, h4, h5, h6⟩ := h
  refine ⟨R1, R2, sA.same _ _ _ h1 hb.size (fun k hk => hb.block k (sA.dom _ _ h1 k hk)), sB.same _ _ _ h2 hb.size (fun k hk => hb.block k (sB.dom _ _ h2 k hk)), h3, fun k hk => ⟨(h4 k hk).1, fun e => ?_⟩, fun k hk => ?_, h6.trans (hb.mono h6.size)⟩
  · rcases hM k e with h | h
    · exact (h4 k hk).2 h
    · have : k < w.heap.size := hk.elim (sA.dom _ _ h1 k) (sB.dom _ _ h2 k)
      omega
  · rcases hM k hk with h | h
    · have := h5 k h
      have := hb.size
      omega
    · exact h.2
theorem Pair.more (sA : Stays A) (sB : Stays B) (h : Pair w0 w A B L) (hb : Below w.heap.size w w') : Pair w0 w' A B L := h.below sA sB hb (fun _ e => .inl e)

/-- A local variable is written. -/
theorem Pair.upd (sA : Stays A) (sB : Stays B) (h : Pair w0 w A B L) {b : Nat} (hL : L b) (hb : w0.heap.size ≤ b) (u : Upd b w w') : Pair w0 w' A B L := by
  obtain ⟨R1, R2, h1, h2, h3, h4, h5, h6⟩ := h
  have hs : w.heap.size ≤ w'.heap.size := by rw [u.size]; exact Nat.le_refl _
  exact ⟨R1, R2, sA.same _ _ _ h1 hs (fun k hk => u.block k (fun e => (h4 k (.inl hk)).2 (by rw [e]; exact hL))), sB.same _ _ _ h2 hs (fun k hk => u.block k (fun e => (h4 k (.inr hk)).2 (by rw [e]; exact hL))), h3, h4, fun k hk => by rw [u.size]; exact h5 k hk, h6.trans (u.below hb)⟩

/-- The first one is used. -/
theorem Pair.first (sB : Stays B) (h : Pair w0 w A B L) {f : FuncId} {args : Array Value} {v : Value}
    (C : ∀ R, A w R → Calls Try.prog f args w (fun e w' => e = .returned v ∧ A' w' (ext R w w') ∧ Keep R w w')) :
    Calls Try.prog f args w (fun e w' => e = .returned v ∧ Pair w0 w' A' B L ∧ ∀ k, L k → w'.heap[k]? = w.heap[k]?) := by
  obtain ⟨R1, R2, h1, h2, h3, h4, h5, h6⟩ := h
  refine (C R1 h1).mono ?_
  rintro e w' ⟨rfl, ha, hk⟩
  refine ⟨rfl, ⟨_, R2, ha, sB.same _ _ _ h2 hk.size (fun k hr => hk.block k (sB.dom _ _ h2 k hr) (fun e => h3 k e hr)), ?_, ?_, fun k hl => Nat.lt_of_lt_of_le (h5 k hl) hk.size, h6.trans (hk.below h6.size (fun k hr => (h4 k (.inl hr)).1))⟩, fun k hl => hk.block k (h5 k hl) (fun e => (h4 k (.inl e)).2 hl)⟩
  · intro k hr hr2
    rcases hr with hr | hr
    · exact h3 k hr hr2
    · have := sB.dom _ _ h2 k hr2
      omega
  · intro k hr
    rcases hr with (hr | hr) | hr
    · exact h4 k (.inl hr)
    · exact ⟨Nat.le_trans h6.size hr.1, fun hl => by have := h5 k hl; omega⟩
    · exact h4 k (.inr hr)
/-- The second one is used. -/
theorem Pair.second (sA : Stays A) (h : Pair w0 w A B L) {f : FuncId} {args : Array Value} {v : Value}
    (C : ∀ R, B w R → Calls Try.prog f args w (fun e w' => e = .returned v ∧ B' w' (ext R w w') ∧ Keep R w w')) :
    Calls Try.prog f args w (fun e w' => e = .returned v ∧ Pair w0 w' A B' L ∧ ∀ k, L k → w'.heap[k]? = w.heap[k]?) :=
  (h.swap.first sA C).mono fun _ _ ⟨h1, h2, h3⟩ => ⟨h1, h2.swap, h3⟩

/-- The first one is only read. -/
theorem Pair.read (h : Pair w0 w A B L) {f : FuncId} {args : Array Value} {Q : Ending → World → Prop} (C : ∀ R, A w R → Calls Try.prog f args w Q) : Calls Try.prog f args w Q := by
  obtain ⟨R1, R2, h1, _⟩ := h
  exact C R1 h1
end

/-- A plate at block g. -/
def atPl (g : Nat) (P : Pl) (w : World) (R : Nat → Prop) : Prop := PlateP w R g P

theorem stays_pl (g : Nat) (P : Pl) : Stays (atPl g P) :=
  ⟨fun w R h k hk => by obtain ⟨bs, bl, lv, h⟩ := h; exact h.dom k hk, fun w w' R h hs hb => by obtain ⟨bs, bl, lv, h⟩ := h; exact ⟨bs, bl, lv, h.same hs hb⟩⟩

section
variable {w0 w : World} {B : World → (Nat → Prop) → Prop} {L : Nat → Prop} {g : Nat} {P : Pl}

theorem Pair.good (h : Pair w0 w (atPl g P) B L) : P.Good := by
  obtain ⟨R1, R2, ⟨bs, bl, lv, h1⟩, _⟩ := h
  exact h1.good
theorem Pair.put (sB : Stays B) (h : Pair w0 w (atPl g P) B L) (i : Int) {c : List Nat} (hc : IsCell c) (hl : P.loose.length < 100000) :
    Calls Try.prog 80 #[ptr g, .int .i64 i, .agg (arr c)] w (fun e w' => e = .returned (.int .i64 (P.put i c).1) ∧ Pair w0 w' (atPl g (P.put i c).2) B L ∧ ∀ k, L k → w'.heap[k]? = w.heap[k]?) :=
  h.first sB fun _ ⟨_, _, _, h1⟩ => put_any h1 i hc hl
theorem Pair.flush (sB : Stays B) (h : Pair w0 w (atPl g P) B L) :
    Calls Try.prog 37 #[ptr g] w (fun e w' => e = .returned (.int .i64 P.flush.1) ∧ Pair w0 w' (atPl g P.flush.2) B L ∧ ∀ k, L k → w'.heap[k]? = w.heap[k]?) :=
  h.first sB fun _ ⟨_, _, _, h1⟩ => flush_any h1
theorem Pair.limit (sB : Stays B) (h : Pair w0 w (atPl g P) B L) (n : Int) (hn : n ≤ 9223372036854775807) :
    Calls Try.prog 21 #[ptr g, .int .i64 n] w (fun e w' => e = .returned (.tuple #[]) ∧ Pair w0 w' (atPl g (P.limit n)) B L ∧ ∀ k, L k → w'.heap[k]? = w.heap[k]?) :=
  h.first sB fun R ⟨bs, bl, lv, h1⟩ => (limit_any h1 n hn).mono fun _ _w' ⟨e, hp, hu⟩ => ⟨e, ⟨bs, bl, lv, hp.ext⟩, (Keep.refl R w).upd hu (fun _ => h1.rg)⟩
/-- Fail with bytes that lie in none of its blocks: in what was there at first, or in a local variable. -/
theorem Pair.fail (sB : Stays B) (h : Pair w0 w (atPl g P) B L) (ka : Option Addr) (kc : Nat) (keep : List Nat) (hk : BytesP w ka kc keep) (hka : keep ≠ [] → ∀ b o, ka = some ⟨b, o, none⟩ → b < w0.heap.size ∨ L b) (torn at_ : Int) :
    Calls Try.prog 23 #[ptr g, .slice ka keep.length kc, .int .i64 torn, .int .i64 at_] w (fun e w' => e = .returned (.tuple #[]) ∧ Pair w0 w' (atPl g (P.fail keep torn at_)) B L ∧ ∀ k, L k → w'.heap[k]? = w.heap[k]?) := by
  obtain ⟨R1, R2, h1, h2, h3, h4, h5, h6⟩ := h
  have hoff : keep ≠ [] → Off R1 ka := fun hne b o e hr => by
    have := h4 b (.inl hr)
    rcases hka hne b o e with h | h
    · omega
    · exact this.2 h
  have h' : Pair w0 w (fun w' R => atPl g P w' R ∧ (w' = w → R = R1)) B L := ⟨R1, R2, ⟨h1, fun _ => rfl⟩, h2, h3, h4, h5, h6⟩
  refine h'.first sB fun R ⟨⟨bs, bl, lv, hp⟩, hR⟩ => ?_
  have := hR rfl
  subst this
  exact fail_any hp ka kc keep hk hoff torn at_
theorem Pair.get (h : Pair w0 w (atPl g P) B L) (i : Int) : Calls Try.prog 57 #[ptr g, .int .i64 i] w (fun e w' => e = .returned (.tuple #[.agg (arr (P.get i)), .int .i64 (P.getE i)]) ∧ Below w.heap.size w w') :=
  h.read fun _ ⟨_, _, _, h1⟩ => get_any h1 i
theorem Pair.len (h : Pair w0 w (atPl g P) B L) : Calls Try.prog 56 #[ptr g] w (Same (.int .i64 (P.sure.length : Int)) w) := h.read fun _ ⟨_, _, _, h1⟩ => len_any h1
end

end Go.Proofs.Ytipikkniookanaa
