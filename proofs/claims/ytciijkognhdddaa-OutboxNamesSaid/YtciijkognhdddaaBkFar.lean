/- Regions that draw their order, whose operations only read and whose callees may lay memory of their own: walked once, in the worlds that keep all that was there. -/
import Derived.Test.YtciijkognhdddaaTxBase
import Derived.Deep.QuietTactic
import Derived.BigQuiet
namespace Go.Proofs.Ytciijkognhdddaa
set_option maxRecDepth 100000
open Go.RowKit

/-- What another world has that keeps all of w. -/
structure Far (w : World) where
  heap : Array Obj
  drawn : Nat
  size : w.heap.size ≤ heap.size
  block : ∀ k, k < w.heap.size → heap[k]? = w.heap[k]?
instance farHas (w : World) : Inhabited (Far w) := ⟨⟨w.heap, w.drawn, Nat.le_refl _, fun _ _ => rfl⟩⟩
def farOf (w : World) (p : Far w) : World := { w with heap := p.heap, drawn := p.drawn }
theorem far_below (w : World) (p : Far w) : Below w.heap.size w (farOf w p) := ⟨rfl, rfl, rfl, p.size, p.block⟩
theorem far_cell {w : World} {a : Addr} {v : Value} (hb : a.block < w.heap.size) (h : w.cell? a = some v) (p : Far w) : (farOf w p).cell? a = some v := ((far_below w p).cell hb).trans h
theorem far_of_below {w w' : World} (h : Below w.heap.size w w') : ∃ p : Far w, w' = farOf w p := by
  refine ⟨⟨w'.heap, w'.drawn, h.size, h.block⟩, ?_⟩
  obtain ⟨h1, h2, h3, _, _⟩ := h
  cases w'; cases w
  simp only at h1 h2 h3
  subst h1 h2 h3
  rfl
theorem calls_far {P : Program} {f : FuncId} {args : Array Value} {w : World} {p : Far w} {v : Value}
    (h : Calls P f args (farOf w p) fun e w' => e = .returned v ∧ Below (farOf w p).heap.size (farOf w p) w') : Calls P f args (farOf w p) fun e w'' => e = .returned v ∧ ∃ p, w'' = farOf w p :=
  h.mono fun _ _ ⟨he, hb⟩ => ⟨he, far_of_below ((far_below w p).trans (hb.mono (far_below w p).size))⟩
theorem calls_far_same {P : Program} {f : FuncId} {args : Array Value} {w : World} {p : Far w} {v : Value}
    (h : Calls P f args (farOf w p) fun e w' => e = .returned v ∧ farOf w p = w') : Calls P f args (farOf w p) fun e w'' => e = .returned v ∧ ∃ p, w'' = farOf w p :=
  h.mono fun _ _ ⟨he, hb⟩ => ⟨he, p, hb.symm⟩
theorem wp_region_far {P : Program} {id : Nat} {Q : Exit → Act → World → Prop} {a : Act} {w : World} {l : List Oper} (hm : P.follows .mixedOrders = true) (hB : Region.lexB .any l.toArray = true)
    (h : wpQuiet P l.toArray (fun w' => ∃ p : Far w, w' = farOf w p) (fun a' => ∀ w', (∃ p : Far w, w' = farOf w p) → Q .normal a' w') l a) : (Code.region id l.toArray true).wp P Q a w :=
  wp_region_quiet (C := fun w' => ∃ p : Far w, w' = farOf w p) hm hB (far_of_below ⟨rfl, rfl, rfl, Nat.le_refl _, fun _ _ => rfl⟩) (by simpa using h)

end Go.Proofs.Ytciijkognhdddaa
