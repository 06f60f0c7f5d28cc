/- A reel beside another thing with which it shares nothing. -/
import Derived.Test.YtipikkniookanaaRlOpen
import Derived.Test.YtipikkniookanaaRlRdy
namespace Go.Proofs.Ytipikkniookanaa
set_option maxRecDepth 100000
open Go.RowKit

/-- Nothing beside it. -/
def noB (_ : World) (R : Nat → Prop) : Prop := ∀ k, ¬ R k
theorem stays_no : Stays noB := ⟨fun _ _ h k hk => absurd hk (h k), fun _ _ _ h _ _ => h⟩

section
variable {w0 w w' : World} {B : World → (Nat → Prop) → Prop} {L : Nat → Prop} {g b : Nat} {P : Pl} {r : Rl}

theorem Pair.newNo (n : Int) (hb : Below w0.heap.size w0 w) (hL : ∀ k, L k → k < w.heap.size) : Calls Try.prog 11 #[.int .i64 n] w (fun e w' => ∃ g, e = .returned (ptr g) ∧ Pair w0 w' (atPl g (Pl.new (clampN n 4096))) noB L ∧ ∀ k, L k → w'.heap[k]? = w.heap[k]?) := by
  refine (new_any n w).mono ?_
  rintro e w' ⟨g, rfl, hp, hb'⟩
  exact ⟨g, rfl, ⟨_, fun _ => False, hp, fun _ h => h, fun _ _ h => h, fun k hk => hk.elim (fun hk => ⟨Nat.le_trans hb.size hk.1, fun hl => by have := hL k hl; have := hk.1; omega⟩) False.elim, fun k hk => Nat.lt_of_lt_of_le (hL k hk) hb'.size, hb.trans (hb'.mono hb.size)⟩, fun k hk => hb'.block k (hL k hk)⟩

theorem Pair.openP (h : Pair w0 w (atPl g P) B L) : Calls Try.prog 10 #[ptr g] w (OpenRPost g (toldL P.last) w) := h.read fun _ ⟨_, _, _, h1⟩ => ropen_any h1
theorem Pair.openR (h : Pair w0 w (atRl b g r) B L) : Calls Try.prog 10 #[ptr g] w (OpenRPost g (toldL r.P.last) w) := h.read fun _ ⟨_, _, _, h1, _⟩ => ropen_any h1
theorem Pair.openM (h : Pair w0 w (atRl b g r) B L) : Calls Try.prog 10 #[ptr g] w (OpenRMore g (toldL r.P.last) w) := h.read fun _ ⟨_, _, _, h1, _⟩ => ropen_more h1

/-- A reel that was opened on a plate. -/
theorem Pair.toReel (sB : Stays B) (h : Pair w0 w (atPl g P) B L) (hb : Below w.heap.size w w') {s : Nat} (hn : w.heap.size ≤ b) (hv : RlV w' b g s false) : Pair w0 w' (atRl b g ⟨P, s, false⟩) B L := by
  obtain ⟨R1, R2, ⟨bs, bl, lv, h1⟩, h2, h3, h4, h5, h6⟩ := h
  have h1' := h1.below hb
  refine ⟨fun k => R1 k ∨ k = b, R2, ⟨bs, bl, lv, h1'.mono (fun k hk => hk.elim (h1'.dom k) (fun e => by subst e; exact hv.lt)) (fun _ e => .inl e), .inr rfl, fun e => ?_, hv⟩, sB.same _ _ _ h2 hb.size (fun k hk => hb.block k (sB.dom _ _ h2 k hk)), fun k a c => ?_, fun k a => ?_, fun k hk => Nat.lt_of_lt_of_le (h5 k hk) hb.size, h6.trans (hb.mono h6.size)⟩
  · have := h1.dom b (h1.within b e)
    omega
  · rcases a with a | rfl
    · exact h3 k a c
    · have := sB.dom _ _ h2 _ c
      omega
  · rcases a with (a | rfl) | a
    · exact h4 k (.inl a)
    · exact ⟨Nat.le_trans h6.size hn, fun hl => by have := h5 _ hl; omega⟩
    · exact h4 k (.inr a)
/-- Another reel that was opened on its plate, in its place. -/
theorem Pair.turn (sB : Stays B) (h : Pair w0 w (atRl b g r) B L) (hb : Below w.heap.size w w') {b2 s : Nat} (hn : w.heap.size ≤ b2) (hv : RlV w' b2 g s false) : Pair w0 w' (atRl b2 g ⟨r.P, s, false⟩) B L := by
  obtain ⟨R1, R2, ⟨bs, bl, lv, h1, _⟩, h2⟩ := h
  exact Pair.toReel sB (P := r.P) ⟨R1, R2, ⟨bs, bl, lv, h1⟩, h2⟩ hb hn hv

theorem Pair.rgood (h : Pair w0 w (atRl b g r) B L) : r.P.Good := by
  obtain ⟨R1, R2, ⟨bs, bl, lv, h1, _⟩, _⟩ := h
  exact h1.good
theorem rl_first {A' : Int × Rl} {R : Nat → Prop} {f : FuncId} {args : Array Value} (C : Calls Try.prog f args w (RlPost A' b g R w)) : Calls Try.prog f args w (fun e w' => e = .returned (.int .i64 A'.1) ∧ atRl b g A'.2 w' (ext R w w') ∧ Keep R w w') :=
  C.mono fun _ _ ⟨e, h⟩ => ⟨e, h.fin⟩

theorem Pair.rbegin (sB : Stays B) (h : Pair w0 w (atRl b g r) B L) (a : Option Addr) (cap : Nat) (t : List Nat) (hB : BytesP w a cap t) (hs : r.side ≤ 1) (hlo : r.P.loose.length + 1366 ≤ 100000) :
    Calls Try.prog 14 #[ptr b, .slice a t.length cap] w (fun e w' => e = .returned (.int .i64 (r.begin t).1) ∧ Pair w0 w' (atRl b g (r.begin t).2) B L ∧ ∀ k, L k → w'.heap[k]? = w.heap[k]?) :=
  h.first sB fun _ h1 => rl_first (begin_any h1.start a cap t hB hs hlo)
theorem Pair.radd (sB : Stays B) (h : Pair w0 w (atRl b g r) B L) (a : Option Addr) (cap : Nat) (t : List Nat) (hB : BytesP w a cap t) (hlo : r.P.loose.length + 1366 ≤ 100000) :
    Calls Try.prog 12 #[ptr b, .slice a t.length cap] w (fun e w' => e = .returned (.int .i64 (r.add t).1) ∧ Pair w0 w' (atRl b g (r.add t).2) B L ∧ ∀ k, L k → w'.heap[k]? = w.heap[k]?) :=
  h.first sB fun _ h1 => rl_first (add_any h1.start a cap t hB hlo)
theorem Pair.rflush (sB : Stays B) (h : Pair w0 w (atRl b g r) B L) :
    Calls Try.prog 13 #[ptr b] w (fun e w' => e = .returned (.int .i64 r.flush.1) ∧ Pair w0 w' (atRl b g r.flush.2) B L ∧ ∀ k, L k → w'.heap[k]? = w.heap[k]?) :=
  h.first sB fun _ h1 => rl_first (rflush_any h1.start)
theorem Pair.rready (h : Pair w0 w (atRl b g r) B L) : Calls Try.prog 26 #[ptr b] w (fun e w' => e = .returned (.bool r.ready) ∧ w = w') := h.read fun _ h1 => ready_any h1.start
theorem Pair.rleft (h : Pair w0 w (atRl b g r) B L) : Calls Try.prog 27 #[ptr b] w (IntB (r.left : Int) w) := h.read fun _ h1 => rleft_any h1.start
end

end Go.Proofs.Ytipikkniookanaa
