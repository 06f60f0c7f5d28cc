/- A plan of a call's own, and blocks that are none of its. -/
import Derived.Test.YtbhknaggbenfnaaHvNew
namespace Go.Proofs.Ytbhknaggbenfnaa
set_option maxRecDepth 100000
open Go.RowKit

/-- A plan that came since w0, blocks L are none of its; all that was there then is as it was. -/
def MineL (w0 w : World) (g : Nat) (p : Hv ByteArray) (L : Nat → Prop) : Prop := ∃ R, PlanP w R g p ∧ (∀ k, R k → w0.heap.size ≤ k ∧ ¬ L k) ∧ (∀ k, L k → k < w.heap.size) ∧ Below w0.heap.size w0 w
def noL : Nat → Prop := fun _ => False

section
variable {w0 w w' : World} {g n : Nat} {p : Hv ByteArray} {L M : Nat → Prop}

theorem MineH.toL (h : MineH w0 w g p) : MineL w0 w g p noL := by
  obtain ⟨R, h1, h2, h3⟩ := h
  exact ⟨R, h1, fun k hk => ⟨h2 k hk, fun e => e⟩, fun k e => e.elim, h3⟩
theorem MineL.low (h : MineL w0 w g p L) : Below w0.heap.size w0 w := by
  obtain ⟨R, _, _, _, h⟩ := h
  exact h
theorem MineL.below (h : MineL w0 w g p L) (hb : Below w.heap.size w w') (hM : ∀ k, M k → L k ∨ (w.heap.size ≤ k ∧ k < w'.heap.size)) : MineL w0 w' g p M := by
  obtain ⟨R, h1, h2, h3, h4⟩ := h
  have hd : ∀ k, R k → k < w.heap.size := by obtain ⟨_, _, _, _, q⟩ := h1; exact q.dom
  refine ⟨R, h1.below hb, fun k hk => ⟨(h2 k hk).1, fun e => ?_⟩, fun k hk => ?_, h4.trans (hb.mono h4.size)⟩
  · rcases hM k e with e | e
    · exact (h2 k hk).2 e
    · have := hd k hk; omega
  · rcases hM k hk with e | e
    · exact Nat.lt_of_lt_of_le (h3 k e) hb.size
    · exact e.2
theorem MineL.more (h : MineL w0 w g p L) (hb : Below w.heap.size w w') : MineL w0 w' g p L := h.below hb (fun _ e => .inl e)

theorem MineL.next (h : MineL w0 w g p L) (ok : OkH n p) (hn : n ≤ 1000) : Calls Try.prog 13 #[.pointer (some ⟨g, 0, none⟩)] w (OwnTs (nextH p) w) := by
  obtain ⟨_, ⟨_, _, _, _, q⟩, _⟩ := h
  exact next_any q ok hn
theorem MineL.goods (h : MineL w0 w g p L) (ok : OkH n p) (hn : n ≤ 1000) : Calls Try.prog 20 #[.pointer (some ⟨g, 0, none⟩)] w (OwnTs p.good w) := by
  obtain ⟨_, ⟨_, _, _, _, q⟩, _⟩ := h
  exact good_any q ok hn
theorem MineL.bads (h : MineL w0 w g p L) (ok : OkH n p) (hn : n ≤ 1000) : Calls Try.prog 21 #[.pointer (some ⟨g, 0, none⟩)] w (OwnTs p.bad w) := by
  obtain ⟨_, ⟨_, _, _, _, q⟩, _⟩ := h
  exact bad_any q ok hn
theorem MineL.tries (h : MineL w0 w g p L) : Calls Try.prog 19 #[.pointer (some ⟨g, 0, none⟩)] w (NumB (p.tries : Int) w) := by
  obtain ⟨_, ⟨_, _, _, _, q⟩, _⟩ := h
  exact tries_any q
/-- It is told so: blocks L stay. -/
def ToldL (w0 : World) (g : Nat) (p : Hv ByteArray) (L : Nat → Prop) (b : Bool) (w : World) (e : Ending) (w' : World) : Prop :=
  e = .returned (.int .i64 (tellN p)) ∧ MineL w0 w' g (tellH p b) L ∧ w.heap.size ≤ w'.heap.size ∧ ∀ k, L k → w'.heap[k]? = w.heap[k]?
theorem MineL.tell (h : MineL w0 w g p L) (ok : OkH n p) (hn : n ≤ 1000) (b : Bool) : Calls Try.prog 14 #[.pointer (some ⟨g, 0, none⟩), .bool b] w (ToldL w0 g p L b w) := by
  obtain ⟨R, ⟨_, _, _, _, q⟩, h2, h3, h4⟩ := h
  refine (tell_any q ok hn b).mono ?_
  rintro e w' ⟨rfl, hp, hk⟩
  refine ⟨rfl, ⟨_, hp, fun k hr => ?_, fun k hl => Nat.lt_of_lt_of_le (h3 k hl) hk.size, h4.trans (hk.below h4.size (fun k hr => (h2 k hr).1))⟩, hk.size, fun k hl => hk.block k (h3 k hl) (fun e => (h2 k e).2 hl)⟩
  rcases hr with hr | hr
  · exact h2 k hr
  · exact ⟨Nat.le_trans h4.size hr.1, fun hl => by have := h3 k hl; omega⟩
end

end Go.Proofs.Ytbhknaggbenfnaa
