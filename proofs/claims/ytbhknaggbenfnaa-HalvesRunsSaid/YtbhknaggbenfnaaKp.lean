/- What stays: worlds in which all but some blocks are as they were; two things in memory that share nothing, and local variables beside them. -/
import Derived.Test.YtbhknaggbenfnaaChecked
import Derived.WalkKit
import Derived.ProofKit
import Derived.Below
import Derived.Laws.Rows
import Derived.Laws.AppendOwn
namespace Go.Proofs.Ytbhknaggbenfnaa
open Go.RowKit

/-- What was there and is none of these is as it was. -/
structure Keep (R : Nat → Prop) (w w' : World) : Prop where
  os : w'.os = w.os
  tape : w'.tape = w.tape
  output : w'.output = w.output
  size : w.heap.size ≤ w'.heap.size
  block : ∀ k, k < w.heap.size → ¬ R k → w'.heap[k]? = w.heap[k]?

theorem Keep.refl (R : Nat → Prop) (w : World) : Keep R w w := ⟨rfl, rfl, rfl, Nat.le_refl _, fun _ _ _ => rfl⟩
theorem Keep.trans {R : Nat → Prop} {a b c : World} (h : Keep R a b) {S : Nat → Prop} (k : Keep S b c) (hs : ∀ i, i < a.heap.size → S i → R i) : Keep R a c :=
  ⟨k.os.trans h.os, k.tape.trans h.tape, k.output.trans h.output, Nat.le_trans h.size k.size, fun i hi hr => (k.block i (Nat.lt_of_lt_of_le hi h.size) (fun e => hr (hs i hi e))).trans (h.block i hi hr)⟩
theorem Keep.drew {R : Nat → Prop} {a b : World} (h : Keep R a b) : Keep R a b.drew := ⟨h.os, h.tape, h.output, h.size, h.block⟩
theorem Keep.alloc {R : Nat → Prop} {a b : World} (h : Keep R a b) (o : Obj) : Keep R a (b.alloc o) :=
  h.trans (S := R) ⟨rfl, rfl, rfl, by simp, fun k hk _ => Below.heap_alloc _ _ _ hk⟩ (fun _ _ e => e)
theorem Keep.grown {R : Nat → Prop} {a b c : World} (h : Keep R a b) {row : Option Nat} (g : b.grownBy c row) (hg : ∀ k, row = some k → k < a.heap.size → R k) : Keep R a c :=
  h.trans (S := fun k => some k = row) ⟨g.os, g.tape, g.output, g.size, fun k hk hn => g.block k hk hn⟩ (fun i hi e => hg i e.symm hi)
theorem Keep.setCell {R : Nat → Prop} {a b : World} (h : Keep R a b) {p : Addr} (hp : p.block < a.heap.size → R p.block) (v : Value) : Keep R a (b.setCell p v) :=
  h.trans (S := fun k => k = p.block) ⟨rfl, rfl, rfl, by simp [World.setCell], fun k _ hk => Below.heap_setCell _ _ _ _ hk⟩ (fun i hi e => by subst e; exact hp hi)
theorem Keep.of_below {R : Nat → Prop} {a b c : World} (h : Keep R a b) (k : Below b.heap.size b c) : Keep R a c :=
  h.trans (S := R) ⟨k.os, k.tape, k.output, k.size, fun i hi _ => k.block i hi⟩ (fun _ _ e => e)
theorem Keep.below {R : Nat → Prop} {a b : World} (h : Keep R a b) {B : Nat} (hB : B ≤ a.heap.size) (hR : ∀ k, R k → B ≤ k) : Below B a b :=
  ⟨h.os, h.tape, h.output, h.size, fun k hk => h.block k (by omega) (fun e => by have := hR k e; omega)⟩

/-- These, and all that came since. -/
def ext (R : Nat → Prop) (w w' : World) (k : Nat) : Prop := R k ∨ (w.heap.size ≤ k ∧ k < w'.heap.size)

theorem ownsRow_same {w w' : World} {base : Nat} {e : TypeId} {size : Nat} {v : Value} {n : Nat} {xs : List Value} (h : w.ownsRow base e size v n xs) (hb : ∀ k, v.ownBlock = some k → w'.heap[k]? = w.heap[k]?) : w'.ownsRow base e size v n xs := by
  refine ⟨h.1, ?_⟩
  rcases h.2 with h1 | ⟨g, cap, cur, rfl, h1, h2, h3⟩
  · exact .inl h1
  · exact .inr ⟨g, cap, cur, rfl, h1, (hb g rfl).trans h2, h3⟩

/-- A thing in memory that stays where its blocks stay. -/
structure Stays (A : World → (Nat → Prop) → Prop) : Prop where
  dom : ∀ w R, A w R → ∀ k, R k → k < w.heap.size
  same : ∀ w w' R, A w R → w.heap.size ≤ w'.heap.size → (∀ k, R k → w'.heap[k]? = w.heap[k]?) → A w' R

/-- Two such things, that came since w0; blocks L are none of theirs; what was there at w0 is as it was. -/
def Pair (w0 w : World) (A B : World → (Nat → Prop) → Prop) (L : Nat → Prop) : Prop :=
  ∃ R1 R2, A w R1 ∧ B w R2 ∧ (∀ k, R1 k → R2 k → False) ∧ (∀ k, R1 k ∨ R2 k → w0.heap.size ≤ k ∧ ¬ L k) ∧ (∀ k, L k → k < w.heap.size) ∧ Below w0.heap.size w0 w

section
variable {w0 w w' : World} {A A' B B' : World → (Nat → Prop) → Prop} {L : Nat → Prop}

theorem Pair.low (h : Pair w0 w A B L) : Below w0.heap.size w0 w := by
  obtain ⟨R1, R2, _, _, _, _, _, h⟩ := h
  exact h
theorem Pair.swap (h : Pair w0 w A B L) : Pair w0 w B A L := by
  obtain ⟨R1, R2, h1, h2, h3, h4, h5, h6⟩ := h
  exact ⟨R2, R1, h2, h1, fun k a b => h3 k b a, fun k hk => h4 k hk.symm, h5, h6⟩
theorem Pair.mono (h : Pair w0 w A B L) {M : Nat → Prop} (hM : ∀ k, M k → L k) : Pair w0 w A B M := by
  obtain ⟨R1, R2, h1, h2, h3, h4, h5, h6⟩ := h
  exact ⟨R1, R2, h1, h2, h3, fun k hk => ⟨(h4 k hk).1, fun e => (h4 k hk).2 (hM k e)⟩, fun k hk => h5 k (hM k hk), h6⟩

/-- New memory, some of it local variables. -/
theorem Pair.below (sA : Stays A) (sB : Stays B) (h : Pair w0 w A B L) (hb : Below w.heap.size w w') {M : Nat → Prop} (hM : ∀ k, M k → L k ∨ (w.heap.size ≤ k ∧ k < w'.heap.size)) : Pair w0 w' A B M := by
  obtain ⟨R1, R2, h1, h2, h3, h4, h5, h6⟩ := h
  refine ⟨R1, R2, sA.same _ _ _ h1 hb.size (fun k hk => hb.block k (sA.dom _ _ h1 k hk)), sB.same _ _ _ h2 hb.size (fun k hk => hb.block k (sB.dom _ _ h2 k hk)), h3, fun k hk => ⟨(h4 k hk).1, fun e => ?_⟩, fun k hk => ?_, h6.trans (hb.mono h6.size)⟩
  · rcases hM k e with h | h
    · exact (h4 k hk).2 h
    · have : k < w.heap.size := hk.elim (sA.dom _ _ h1 k) (sB.dom _ _ h2 k)
      omega
  · rcases hM k hk with h | h
    · have := h5 k h
      have := hb.size
      omega
    · exact h.2
theorem Pair.more (sA : Stays A) (sB : Stays B) (h : Pair w0 w A B L) (hb : Below w.heap.size w w') : Pair w0 w' A B L := h.below sA sB hb (fun _ e => .inl e)

/-- The first one is used. -/
theorem Pair.first (sB : Stays B) (h : Pair w0 w A B L) {f : FuncId} {args : Array Value} {v : Value}
    (C : ∀ R, A w R → Calls Try.prog f args w (fun e w' => e = .returned v ∧ A' w' (ext R w w') ∧ Keep R w w')) :
    Calls Try.prog f args w (fun e w' => e = .returned v ∧ Pair w0 w' A' B L ∧ ∀ k, L k → w'.heap[k]? = w.heap[k]?) := by
  obtain ⟨R1, R2, h1, h2, h3, h4, h5, h6⟩ := h
  refine (C R1 h1).mono ?_
  rintro e w' ⟨rfl, ha, hk⟩
  refine ⟨rfl, ⟨_, R2, ha, sB.same _ _ _ h2 hk.size (fun k hr => hk.block k (sB.dom _ _ h2 k hr) (fun e => h3 k e hr)), ?_, ?_, fun k hl => Nat.lt_of_lt_of_le (h5 k hl) hk.size, h6.trans (hk.below h6.size (fun k hr => (h4 k (.inl hr)).1))⟩, fun k hl => hk.block k (h5 k hl) (fun e => (h4 k (.inl e)).2 hl)⟩
  · intro k hr hr2
    rcases hr with hr | hr
    · exact h3 k hr hr2
    · have := sB.dom _ _ h2 k hr2
      omega
  · intro k hr
    rcases hr with (hr | hr) | hr
    · exact h4 k (.inl hr)
    · exact ⟨Nat.le_trans h6.size hr.1, fun hl => by have := h5 k hl; omega⟩
    · exact h4 k (.inr hr)
/-- The second one is used. -/
theorem Pair.second (sA : Stays A) (h : Pair w0 w A B L) {f : FuncId} {args : Array Value} {v : Value}
    (C : ∀ R, B w R → Calls Try.prog f args w (fun e w' => e = .returned v ∧ B' w' (ext R w w') ∧ Keep R w w')) :
    Calls Try.prog f args w (fun e w' => e = .returned v ∧ Pair w0 w' A B' L ∧ ∀ k, L k → w'.heap[k]? = w.heap[k]?) :=
  (h.swap.first sA C).mono fun _ _ ⟨h1, h2, h3⟩ => ⟨h1, h2.swap, h3⟩

/-- The first one is only read. -/
theorem Pair.read (h : Pair w0 w A B L) {f : FuncId} {args : Array Value} {Q : Ending → World → Prop} (C : ∀ R, A w R → Calls Try.prog f args w Q) : Calls Try.prog f args w Q := by
  obtain ⟨R1, R2, h1, _⟩ := h
  exact C R1 h1
end

end Go.Proofs.Ytbhknaggbenfnaa
