/- A plate of the call's own. -/
import Derived.Test.YtipikkniookanaaNew
import Derived.Test.YtipikkniookanaaFail
import Derived.Test.YtipikkniookanaaCell
namespace Go.Proofs.Ytipikkniookanaa
open Go.RowKit

attribute [local go_sem ↓] ld26 ld66 st26 st66 bx26 al26 al66 bd26 bd66 bs61 bs48 mk48 eq26 ap61 ap48 ap49 cp46 cp48
attribute [local go_sem] bx_agg al_cell al_wr bd_zero bd_one bd_two bd_nine

/-- A plate in memory that came since w0; what was there then is as it was. -/
def Mine (w0 w : World) (g : Nat) (P : Pl) : Prop := ∃ R, PlateP w R g P ∧ (∀ k, R k → w0.heap.size ≤ k) ∧ Below w0.heap.size w0 w

section
variable {w0 w w' : World} {g : Nat} {P : Pl}

theorem Mine.low (h : Mine w0 w g P) : Below w0.heap.size w0 w := h.elim fun _ h => h.2.2
theorem Mine.good (h : Mine w0 w g P) : P.Good := by obtain ⟨R, ⟨bs, bl, lv, h⟩, _⟩ := h; exact h.good
theorem Mine.below (h : Mine w0 w g P) (hb : Below w.heap.size w w') : Mine w0 w' g P := by
  obtain ⟨R, ⟨bs, bl, lv, h⟩, h2, h3⟩ := h
  exact ⟨R, ⟨bs, bl, lv, h.below hb⟩, h2, h3.trans (hb.mono h3.size)⟩
theorem Mine.of {R : Nat → Prop} (hR : ∀ k, R k → w0.heap.size ≤ k) (h3 : Below w0.heap.size w0 w) (hp : PlateP w' (ext R w w') g P) (hk : Keep R w w') : Mine w0 w' g P := by
  refine ⟨_, hp, fun k hk => ?_, h3.trans (hk.below h3.size hR)⟩
  rcases hk with h | h
  · exact hR k h
  · exact Nat.le_trans h3.size h.1

theorem Mine.new (n : Int) (hb : Below w0.heap.size w0 w) : Calls Try.prog 11 #[.int .i64 n] w (fun e w' => ∃ g, e = .returned (ptr g) ∧ Mine w0 w' g (Pl.new (clampN n 4096))) := by
  refine (new_any n w).mono ?_
  rintro e w' ⟨g, rfl, hp, hb'⟩
  exact ⟨g, rfl, _, hp, fun k hk => Nat.le_trans hb.size hk.1, hb.trans (hb'.mono hb.size)⟩
theorem Mine.put (h : Mine w0 w g P) (i : Int) {c : List Nat} (hc : IsCell c) (hl : P.loose.length < 100000) : Calls Try.prog 80 #[ptr g, .int .i64 i, .agg (arr c)] w (fun e w' => e = .returned (.int .i64 (P.put i c).1) ∧ Mine w0 w' g (P.put i c).2) := by
  obtain ⟨R, ⟨bs, bl, lv, h⟩, h2, h3⟩ := h
  refine (put_any h i hc hl).mono ?_
  rintro e w' ⟨rfl, hp, hk⟩
  exact ⟨rfl, Mine.of h2 h3 hp hk⟩
theorem Mine.flush (h : Mine w0 w g P) : Calls Try.prog 37 #[ptr g] w (fun e w' => e = .returned (.int .i64 P.flush.1) ∧ Mine w0 w' g P.flush.2) := by
  obtain ⟨R, ⟨bs, bl, lv, h⟩, h2, h3⟩ := h
  refine (flush_any h).mono ?_
  rintro e w' ⟨rfl, hp, hk⟩
  exact ⟨rfl, Mine.of h2 h3 hp hk⟩
theorem Mine.fail (h : Mine w0 w g P) (ka : Option Addr) (kc : Nat) (keep : List Nat) (hk : BytesP w ka kc keep) (hoff : ∀ R, PlateP w R g P → (∀ k, R k → w0.heap.size ≤ k) → ∃ R', PlateP w R' g P ∧ (∀ k, R' k → w0.heap.size ≤ k) ∧ (keep ≠ [] → Off R' ka)) (torn at_ : Int) :
    Calls Try.prog 23 #[ptr g, .slice ka keep.length kc, .int .i64 torn, .int .i64 at_] w (fun e w' => e = .returned (.tuple #[]) ∧ Mine w0 w' g (P.fail keep torn at_)) := by
  obtain ⟨R, hp, h2, h3⟩ := h
  obtain ⟨R', ⟨bs, bl, lv, h⟩, h4, h5⟩ := hoff R hp h2
  refine (fail_any h ka kc keep hk h5 torn at_).mono ?_
  rintro e w' ⟨rfl, hp, hk⟩
  exact ⟨rfl, Mine.of h4 h3 hp hk⟩
theorem Mine.limit (h : Mine w0 w g P) (n : Int) (hn : n ≤ 9223372036854775807) : Calls Try.prog 21 #[ptr g, .int .i64 n] w (fun e w' => e = .returned (.tuple #[]) ∧ Mine w0 w' g (P.limit n)) := by
  obtain ⟨R, ⟨bs, bl, lv, h⟩, h2, h3⟩ := h
  refine (limit_any h n hn).mono ?_
  rintro e w' ⟨rfl, hp, hu⟩
  exact ⟨rfl, Mine.of h2 h3 ⟨bs, bl, lv, hp.ext⟩ ((Keep.refl R w).upd hu (fun _ => h.rg))⟩
theorem Mine.get (h : Mine w0 w g P) (i : Int) : Calls Try.prog 57 #[ptr g, .int .i64 i] w (fun e w' => e = .returned (.tuple #[.agg (arr (P.get i)), .int .i64 (P.getE i)]) ∧ Below w.heap.size w w') := by
  obtain ⟨R, ⟨bs, bl, lv, h⟩, h2, h3⟩ := h
  exact get_any h i
theorem Mine.len (h : Mine w0 w g P) : Calls Try.prog 56 #[ptr g] w (Same (.int .i64 (P.sure.length : Int)) w) := by
  obtain ⟨R, ⟨bs, bl, lv, h⟩, h2, h3⟩ := h
  exact len_any h
/-- Bytes that a call lays out itself. -/
theorem bytes_block (l : List Nat) (hl : Bytes l) (h : l.length ≤ 10000000) (W : World) (T : TypeId) (z : Nat × Nat) : BytesP (W.alloc (.cells (l.map bv).toArray T z)) (some ⟨W.heap.size, 0, none⟩) l.length l := by
  refine ⟨Nat.le_refl _, by omega, hl, fun _ => ⟨_, _, rfl, by simp, fun j x hj => ?_⟩⟩
  rw [cell_of_row _ _ _ _ _ z (heap_alloc_new W _)]
  simp [hj]

/-- Fail with bytes that lie in a block of their own. -/
theorem Mine.failNew (h : Mine w0 w g P) (l : List Nat) (hl : Bytes l) (hn : l.length ≤ 10000000) (torn at_ : Int) :
    Calls Try.prog 23 #[ptr g, .slice (some ⟨w.heap.size, 0, none⟩) l.length l.length, .int .i64 torn, .int .i64 at_] (w.alloc (.cells (l.map bv).toArray 5)) (fun e w' => e = .returned (.tuple #[]) ∧ Mine w0 w' g (P.fail l torn at_)) := by
  obtain ⟨R, ⟨bs, bl, lv, h⟩, h2, h3⟩ := h
  refine (fail_any (h.alloc _) _ _ l (bytes_block l hl hn w 5 (0, 0)) (fun _ b o e hb => ?_) torn at_).mono ?_
  · injection e with e
    injection e with e1
    subst e1
    exact absurd (h.dom _ hb) (by omega)
  · rintro e w' ⟨rfl, hp, hk⟩
    exact ⟨rfl, Mine.of h2 (h3.alloc h3.size _) hp hk⟩
theorem Mine.failNil (h : Mine w0 w g P) (torn at_ : Int) : Calls Try.prog 23 #[ptr g, .slice none 0 0, .int .i64 torn, .int .i64 at_] w (fun e w' => e = .returned (.tuple #[]) ∧ Mine w0 w' g (P.fail [] torn at_)) :=
  h.fail none 0 [] (BytesP.nil _ _ _) (fun R hp hR => ⟨R, hp, hR, fun _ b o e => by cases e⟩) torn at_
end

/-- True is answered; all that was there stays. -/
def TrueB (w : World) (e : Ending) (w' : World) : Prop := e = .returned (.bool true) ∧ Below w.heap.size w w'

end Go.Proofs.Ytipikkniookanaa
