/- A block of cells; whole values that are read, written and laid by one rule. -/
import Derived.Test.YtaghbfnikcldiaaGreatMgBase
import Derived.Laws.Rows
import Derived.Laws.Tables
import Derived.Laws.Cells
import Derived.Laws.IdiomCopy
import Derived.Laws.StructEq
namespace Go.Proofs.YtaghbfnikcldiaaGreat
set_option maxRecDepth 100000
open Go.RowKit

/-- A block of cells. -/
def Row (w : World) (g : Nat) (T : TypeId) (cs : Array Value) : Prop := w.heap[g]? = some (.cells cs T (0, 0))
theorem Row.lt {w : World} {g : Nat} {T : TypeId} {cs : Array Value} (h : Row w g T cs) : g < w.heap.size := (Array.getElem?_eq_some_iff.1 h).1
theorem Row.below {w w' : World} {k : Nat} {T : TypeId} {cs : Array Value} (h : Row w k T cs) (hb : Below w.heap.size w w') : Row w' k T cs := (hb.block k h.lt).trans h
theorem Row.set {w : World} {g : Nat} {T : TypeId} {cs : Array Value} (h : Row w g T cs) (o : Nat) (v : Value) : Row (w.setCell ⟨g, o, none⟩ v) g T (cs.setIfInBounds o v) := by
  unfold Row at h ⊢
  simp [World.setCell, Array.getElem?_modify, h]
theorem Row.cell {w : World} {g : Nat} {T : TypeId} {cs : Array Value} (h : Row w g T cs) (o : Nat) : w.cell? ⟨g, o, none⟩ = cs[o]? := cell_of_row w g o cs T _ h
theorem Row.free {w : World} {g : Nat} {T : TypeId} {cs : Array Value} (h : Row w g T cs) (o : Nat) : w.frozen? ⟨g, o, none⟩ = false := by
  unfold Row at h
  simp [World.frozen?, h]
theorem Row.new (W : World) (cs : Array Value) (T : TypeId) : Row (W.alloc (.cells cs T)) W.heap.size T cs := heap_alloc_new W _
theorem results_cell_one {fn : Func} {p u : Tmp} {ty : TypeId} (h : fn.results = #[.cell p ty, .tmp u]) (tmps : Array Value) (w : World) (g : Nat) (cs : Array Value)
    (hp : tmps.getD p undef = .pointer (some ⟨g, 0, none⟩)) (hl : (loadVar ty ⟨g, 0, none⟩).run Tryz.prog w = .ok (.agg cs) w) :
    (results fn tmps).run Tryz.prog w = .ok (.tuple #[.agg cs, tmps.getD u undef]) w := by
  have hp' : tmps[p]?.getD undef = .pointer (some ⟨g, 0, none⟩) := by simpa using hp
  simp [results, h, hp', asAddr, hl]

/-- What an operation comes to, with its operands told. -/
noncomputable def LdX (t : TypeId) (p : Value) (w : World) : Result Next := (do pure (Next.value (← Instr.loadAt t p)) : Sem Next).run Tryz.prog w
noncomputable def StX (t : TypeId) (p v : Value) (w : World) : Result Next := (do Instr.storeAt t p v; pure Next.skip : Sem Next).run Tryz.prog w
noncomputable def AlX (t : TypeId) (w : World) : Result Next := (do pure (Next.value (← Instr.alloc t true (.tuple #[]))) : Sem Next).run Tryz.prog w
noncomputable def BxX (t : TypeId) (v : Value) (w : World) : Result Next := (do pure (Next.value (← Instr.box t v)) : Sem Next).run Tryz.prog w
noncomputable def EqX (op : BinOp) (t : TypeId) (a b : Operand) (x y : Value) (w : World) : Result Next := (do pure (Next.value (← (do eqGuard op t a b x y; binOp op t x y))) : Sem Next).run Tryz.prog w
noncomputable def BdX (t : TypeId) (parts : Array (Nat × Value)) (w : World) : Result Next := (do pure (Next.value (← Instr.build t parts)) : Sem Next).run Tryz.prog w
noncomputable def BsX (t : TypeId) (n : Nat) (parts : Array (Nat × Value)) (w : World) : Result Next := (do pure (Next.value (← Instr.buildSlice t n parts)) : Sem Next).run Tryz.prog w
theorem bx_any (t : TypeId) (cs : Array Value) (w : World) : BxX t (.agg cs) w = .ok (.value (.pointer (some ⟨w.heap.size, 0, none⟩))) (w.alloc (.cells cs t)) := by
  simp only [BxX, Sem.run_bind, Instr.box, newVar, newRow, run_newObj_alloc, Sem.run_pure, Result.andThen_ok, Value.cells]
theorem al_any (t : TypeId) (cs : Array Value) (w : World) (h : ∀ W, (zeroValue t).run Tryz.prog W = .ok (.agg cs) W) : AlX t w = .ok (.value (.pointer (some ⟨w.heap.size, 0, none⟩))) (w.alloc (.cells cs t)) := by
  simp only [AlX, Sem.run_bind, Instr.alloc, h, newVar, newRow, run_newObj_alloc, Sem.run_pure, Result.andThen_ok, Value.cells]
theorem alloc_setRow (W : World) (old cs : Array Value) (T : TypeId) : (W.alloc (.cells old T)).setRow W.heap.size cs = W.alloc (.cells cs T) := by
  have e : (W.heap.push (Obj.cells old T)).modify W.heap.size (fun | .cells _ elem frozen => .cells cs elem frozen | o => o) = W.heap.push (Obj.cells cs T) := by
    apply Array.ext_getElem?
    intro i
    rw [Array.getElem?_modify, Array.getElem?_push, Array.getElem?_push]
    by_cases h : W.heap.size = i
    · subst h; simp
    · rw [if_neg h, if_neg (fun e => h e.symm), if_neg (fun e => h e.symm)]
  exact congrArg (fun h => ({ W with heap := h } : World)) e
theorem Below.row {B : Nat} {a b : World} (h : Below B a b) {g : Nat} (hg : B ≤ g) (cs : Array Value) : Below B a (b.setRow g cs) :=
  ⟨h.os, h.tape, h.output, by simp only [World.setRow, Array.size_modify]; exact h.size, fun k hk => (setRow_other _ _ k _ (by omega)).trans (h.block k hk)⟩
/-- A whole value out of cells that lie one behind the other, anywhere. -/
theorem ld_cells {w : World} {b o : Nat} (t : TypeId) (vs : List Value) (h : ∀ j v, vs[j]? = some v → w.cell? ⟨b, o + j, none⟩ = some v) (ha : ∀ W, (isAgg t).run Tryz.prog W = .ok true W) (hs : ∀ W, (sizeOf t).run Tryz.prog W = .ok vs.length W) :
    LdX t (.pointer (some ⟨b, o, none⟩)) w = .ok (.value (.agg vs.toArray)) w := by
  have hl : (loadCells ⟨b, o, none⟩ vs.length).run Tryz.prog w = .ok vs.toArray w :=
    run_loadCells_list (P := Tryz.prog) w ⟨b, o, none⟩ vs (fun j v hv => by rw [Addr.add_lit]; exact h j v hv)
  simp only [LdX, Instr.loadAt, Instr.sureAddr, Sem.run_bind, Sem.run_pure, Result.andThen_ok, loadVar, ha, hs, hl, if_true]
/-- A whole value into cells that lie one behind the other. -/
theorem st_cells {w : World} {b o : Nat} (t : TypeId) (vs : List Value) (h : ∀ j, j < vs.length → (w.cell? ⟨b, o + j, none⟩).isSome = true) (hf : ∀ j, j < vs.length → w.frozen? ⟨b, o + j, none⟩ = false) (h1 : ∀ v ∈ vs, v.oneCell' = true)
    (hs : ∀ W, (sizeOf t).run Tryz.prog W = .ok vs.length W) : StX t (.pointer (some ⟨b, o, none⟩)) (.agg vs.toArray) w = .ok .skip (w.setCells b o vs) := by
  have hst := run_storeCells_cells (P := Tryz.prog) b o vs 0 w (fun j hj => by rw [Nat.add_zero]; exact h j hj) (fun j hj => by rw [Nat.add_zero]; exact hf j hj) h1
  simp only [StX, Instr.storeAt, Instr.sureAddr, Sem.run_bind, Sem.run_pure, Result.andThen_ok, storeVar, hs, Value.cells, List.size_toArray, List.toList_toArray, ne_eq, not_true_eq_false, if_false]
  rw [hst]
  rfl

end Go.Proofs.YtaghbfnikcldiaaGreat
