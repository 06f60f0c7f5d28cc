/- Some slices of structs, one behind the other. -/
import Derived.Test.YtciijkognhdddaaSl
namespace Go.Proofs.Ytciijkognhdddaa
set_option maxRecDepth 100000
open Go.RowKit

structure PartS (α : Type) where
  a : Option Addr
  cap : Nat
  l : List α
def flatS {α : Type} (ls : List (PartS α)) : List α := (ls.map PartS.l).flatten
theorem flatS_drop {α : Type} {ls : List (PartS α)} {k : Nat} (h : k < ls.length) : flatS (ls.drop k) = ls[k].l ++ flatS (ls.drop (k + 1)) := by
  unfold flatS
  rw [List.drop_eq_getElem_cons h, List.map_cons, List.flatten_cons]
theorem flatS_len_drop {α : Type} {ls : List (PartS α)} {k : Nat} (h : k < ls.length) : (flatS (ls.drop k)).length = ls[k].l.length + (flatS (ls.drop (k + 1))).length := by rw [flatS_drop h, List.length_append]

/-- A slice reads as these slices. -/
structure ListsS {α : Type} (L : Lay α) (w : World) (a : Option Addr) (cap : Nat) (ls : List (PartS α)) : Prop where
  cap : ls.length ≤ cap
  len : ls.length ≤ 9223372036854775807
  each : ∀ p ∈ ls, SlP L w p.a p.cap p.l
  cell : ls ≠ [] → ∃ b o, a = some ⟨b, o, none⟩ ∧ b < w.heap.size ∧ ∀ (j : Nat) (p : PartS α), ls[j]? = some p → w.cell? ⟨b, o + j, none⟩ = some (.slice p.a p.l.length p.cap)
theorem listsS_two {α : Type} {L : Lay α} {W : World} {a b : Option Addr} {ca cb : Nat} {l m : List α} (h : SlP L W a ca l) (k : SlP L W b cb m) (T : TypeId) : ListsS L (W.alloc (.cells #[.slice a l.length ca, .slice b m.length cb] T)) (some ⟨W.heap.size, 0, none⟩) 2 [⟨a, ca, l⟩, ⟨b, cb, m⟩] := by
  have hb : Below W.heap.size W (W.alloc (.cells #[.slice a l.length ca, .slice b m.length cb] T)) := (Below.refl _ _).alloc (Nat.le_refl _) _
  refine ⟨by simp, by simp, fun p hp => ?_, fun _ => ⟨_, _, rfl, by simp, fun j p hj => ?_⟩⟩
  · simp only [List.mem_cons, List.not_mem_nil, or_false] at hp
    rcases hp with rfl | rfl
    · exact h.below hb
    · exact k.below hb
  · match j, hj with
    | 0, hj => simp at hj; subst hj; simp
    | 1, hj => simp at hj; subst hj; simp
    | _ + 2, hj => simp at hj

end Go.Proofs.Ytciijkognhdddaa
