/- Rw, Sl: together. -/
import Derived.Test.YtfmpibmhhfmajaaGreatDoorMgBase
import Derived.Laws.Rows
import Derived.Laws.Tables
import Derived.Laws.Cells
import Derived.Laws.IdiomCopy
import Derived.Laws.StructEq
namespace Go.Proofs.YtfmpibmhhfmajaaGreatDoor

/- Rw: A block of cells; whole values that are read, written and laid by one rule. -/
section
set_option maxRecDepth 100000
open Go.RowKit

/-- A block of cells. -/
def Row (w : World) (g : Nat) (T : TypeId) (cs : Array Value) : Prop := w.heap[g]? = some (.cells cs T (0, 0))
theorem Row.lt {w : World} {g : Nat} {T : TypeId} {cs : Array Value} (h : Row w g T cs) : g < w.heap.size := (Array.getElem?_eq_some_iff.1 h).1
theorem Row.below {w w' : World} {k : Nat} {T : TypeId} {cs : Array Value} (h : Row w k T cs) (hb : Below w.heap.size w w') : Row w' k T cs := (hb.block k h.lt).trans h
theorem Row.set {w : World} {g : Nat} {T : TypeId} {cs : Array Value} (h : Row w g T cs) (o : Nat) (v : Value) : Row (w.setCell ⟨g, o, none⟩ v) g T (cs.setIfInBounds o v) := by
  unfold Row at h ⊢
  simp [World.setCell, Array.getElem?_modify, h]
theorem Row.cell {w : World} {g : Nat} {T : TypeId} {cs : Array Value} (h : Row w g T cs) (o : Nat) : w.cell? ⟨g, o, none⟩ = cs[o]? := cell_of_row w g o cs T _ h
theorem Row.free {w : World} {g : Nat} {T : TypeId} {cs : Array Value} (h : Row w g T cs) (o : Nat) : w.frozen? ⟨g, o, none⟩ = false := by
  unfold Row at h
  simp [World.frozen?, h]
theorem Row.new (W : World) (cs : Array Value) (T : TypeId) : Row (W.alloc (.cells cs T)) W.heap.size T cs := heap_alloc_new W _
theorem results_cell_one {fn : Func} {p u : Tmp} {ty : TypeId} (h : fn.results = #[.cell p ty, .tmp u]) (tmps : Array Value) (w : World) (g : Nat) (cs : Array Value)
    (hp : tmps.getD p undef = .pointer (some ⟨g, 0, none⟩)) (hl : (loadVar ty ⟨g, 0, none⟩).run Tryz.prog w = .ok (.agg cs) w) :
    (results fn tmps).run Tryz.prog w = .ok (.tuple #[.agg cs, tmps.getD u undef]) w := by
  have hp' : tmps[p]?.getD undef = .pointer (some ⟨g, 0, none⟩) := by simpa using hp
  simp [results, h, hp', asAddr, hl]

/-- What an operation comes to, with its operands told. -/
noncomputable def LdX (t : TypeId) (p : Value) (w : World) : Result Next := (do pure (Next.value (← Instr.loadAt t p)) : Sem Next).run Tryz.prog w
noncomputable def StX (t : TypeId) (p v : Value) (w : World) : Result Next := (do Instr.storeAt t p v; pure Next.skip : Sem Next).run Tryz.prog w
noncomputable def AlX (t : TypeId) (w : World) : Result Next := (do pure (Next.value (← Instr.alloc t true (.tuple #[]))) : Sem Next).run Tryz.prog w
noncomputable def BxX (t : TypeId) (v : Value) (w : World) : Result Next := (do pure (Next.value (← Instr.box t v)) : Sem Next).run Tryz.prog w
noncomputable def EqX (op : BinOp) (t : TypeId) (a b : Operand) (x y : Value) (w : World) : Result Next := (do pure (Next.value (← (do eqGuard op t a b x y; binOp op t x y))) : Sem Next).run Tryz.prog w
noncomputable def BdX (t : TypeId) (parts : Array (Nat × Value)) (w : World) : Result Next := (do pure (Next.value (← Instr.build t parts)) : Sem Next).run Tryz.prog w
noncomputable def BsX (t : TypeId) (n : Nat) (parts : Array (Nat × Value)) (w : World) : Result Next := (do pure (Next.value (← Instr.buildSlice t n parts)) : Sem Next).run Tryz.prog w
theorem bx_any (t : TypeId) (cs : Array Value) (w : World) : BxX t (.agg cs) w = .ok (.value (.pointer (some ⟨w.heap.size, 0, none⟩))) (w.alloc (.cells cs t)) := by
  simp only [BxX, Sem.run_bind, Instr.box, newVar, newRow, run_newObj_alloc, Sem.run_pure, Result.andThen_ok, Value.cells]
theorem al_any (t : TypeId) (cs : Array Value) (w : World) (h : ∀ W, (zeroValue t).run Tryz.prog W = .ok (.agg cs) W) : AlX t w = .ok (.value (.pointer (some ⟨w.heap.size, 0, none⟩))) (w.alloc (.cells cs t)) := by
  simp only [AlX, Sem.run_bind, Instr.alloc, h, newVar, newRow, run_newObj_alloc, Sem.run_pure, Result.andThen_ok, Value.cells]
theorem alloc_setRow (W : World) (old cs : Array Value) (T : TypeId) : (W.alloc (.cells old T)).setRow W.heap.size cs = W.alloc (.cells cs T) := by
  have e : (W.heap.push (Obj.cells old T)).modify W.heap.size (fun | .cells _ elem frozen => .cells cs elem frozen | o => o) = W.heap.push (Obj.cells cs T) := by
    apply Array.ext_getElem?
    intro i
    rw [Array.getElem?_modify, Array.getElem?_push, Array.getElem?_push]
    by_cases h : W.heap.size = i
    · subst h; simp
    · rw [if_neg h, if_neg (fun e => h e.symm), if_neg (fun e => h e.symm)]
  exact congrArg (fun h => ({ W with heap := h } : World)) e
theorem Below.row {B : Nat} {a b : World} (h : Below B a b) {g : Nat} (hg : B ≤ g) (cs : Array Value) : Below B a (b.setRow g cs) :=
  ⟨h.os, h.tape, h.output, by simp only [World.setRow, Array.size_modify]; exact h.size, fun k hk => (setRow_other _ _ k _ (by omega)).trans (h.block k hk)⟩
/-- A whole value out of cells that lie one behind the other, anywhere. -/
theorem ld_cells {w : World} {b o : Nat} (t : TypeId) (vs : List Value) (h : ∀ j v, vs[j]? = some v → w.cell? ⟨b, o + j, none⟩ = some v) (ha : ∀ W, (isAgg t).run Tryz.prog W = .ok true W) (hs : ∀ W, (sizeOf t).run Tryz.prog W = .ok vs.length W) :
    LdX t (.pointer (some ⟨b, o, none⟩)) w = .ok (.value (.agg vs.toArray)) w := by
  have hl : (loadCells ⟨b, o, none⟩ vs.length).run Tryz.prog w = .ok vs.toArray w :=
    run_loadCells_list (P := Tryz.prog) w ⟨b, o, none⟩ vs (fun j v hv => by rw [Addr.add_lit]; exact h j v hv)
  simp only [LdX, Instr.loadAt, Instr.sureAddr, Sem.run_bind, Sem.run_pure, Result.andThen_ok, loadVar, ha, hs, hl, if_true]
/-- A whole value into cells that lie one behind the other. -/
theorem st_cells {w : World} {b o : Nat} (t : TypeId) (vs : List Value) (h : ∀ j, j < vs.length → (w.cell? ⟨b, o + j, none⟩).isSome = true) (hf : ∀ j, j < vs.length → w.frozen? ⟨b, o + j, none⟩ = false) (h1 : ∀ v ∈ vs, v.oneCell' = true)
    (hs : ∀ W, (sizeOf t).run Tryz.prog W = .ok vs.length W) : StX t (.pointer (some ⟨b, o, none⟩)) (.agg vs.toArray) w = .ok .skip (w.setCells b o vs) := by
  have hst := run_storeCells_cells (P := Tryz.prog) b o vs 0 w (fun j hj => by rw [Nat.add_zero]; exact h j hj) (fun j hj => by rw [Nat.add_zero]; exact hf j hj) h1
  simp only [StX, Instr.storeAt, Instr.sureAddr, Sem.run_bind, Sem.run_pure, Result.andThen_ok, storeVar, hs, Value.cells, List.size_toArray, List.toList_toArray, ne_eq, not_true_eq_false, if_false]
  rw [hst]
  rfl
end

/- Sl: Slices of structs, whichever struct it is: their cells one behind the other, rows of the call's own, what is put behind them, parts of them. -/
section
set_option maxRecDepth 100000
open Go.RowKit Go.Lib Go.ChangeShapes Go.WideShapes Go.ChangeAt

/-- How one lies: its cells, how many, of which type; its slice's type. -/
structure Lay (α : Type) where
  enc : α → List Value
  n : Nat
  T : TypeId
  S : TypeId
  z : Value
  bytes : Nat
structure Lay.Ok {α : Type} (L : Lay α) : Prop where
  len : ∀ x, (L.enc x).length = L.n
  one : ∀ x v, v ∈ L.enc x → v.oneCell' = true
  und : Tryz.prog.underlying L.S = some (.slice L.T)
  info : (Tryz.prog.info? L.T).map (fun i => (i.zero, i.size, i.bytes)) = some (some L.z, L.n, L.bytes)
  zs : L.z.cells.size = L.n
  pos : 0 < L.n
  few : L.bytes ≤ 10000
  agg : ∀ W, (isAgg L.T).run Tryz.prog W = .ok true W

section
variable {α : Type} {L : Lay α}

theorem Lay.Ok.sz (k : L.Ok) (W : World) : (sizeOf L.T).run Tryz.prog W = .ok L.n W := by
  obtain ⟨i0, hi0, _, hzs, _⟩ := info_parts k.info
  simp [Go.sizeOf, typeInfo, hi0, hzs]

/-- The cells of these, one behind the other. -/
def cellsG (L : Lay α) (l : List α) : List Value := l.flatMap L.enc
theorem cellsG_cons (x : α) (l : List α) : cellsG L (x :: l) = L.enc x ++ cellsG L l := rfl
theorem cellsG_append (a b : List α) : cellsG L (a ++ b) = cellsG L a ++ cellsG L b := by simp [cellsG]
theorem cellsG_len (k : L.Ok) : ∀ (l : List α), (cellsG L l).length = l.length * L.n
  | [] => by simp [cellsG]
  | x :: r => by
    rw [cellsG_cons, List.length_append, cellsG_len k r, k.len, List.length_cons, Nat.add_mul]
    omega
theorem cellsG_one (k : L.Ok) (l : List α) : ∀ v ∈ cellsG L l, v.oneCell' = true := by
  intro v hv
  obtain ⟨x, _, hx⟩ := List.mem_flatMap.1 hv
  exact k.one x v hx
theorem cellsG_take (k : L.Ok) (l : List α) (i : Nat) (hi : i ≤ l.length) : (cellsG L l).take (i * L.n) = cellsG L (l.take i) := by
  have e : cellsG L l = cellsG L (l.take i) ++ cellsG L (l.drop i) := by rw [← cellsG_append, List.take_append_drop]
  have hl : (cellsG L (l.take i)).length = i * L.n := by rw [cellsG_len k, List.length_take, Nat.min_eq_left hi]
  rw [e, ← hl, List.take_left]
theorem cellsG_drop (k : L.Ok) (l : List α) (i : Nat) (hi : i ≤ l.length) : (cellsG L l).drop (i * L.n) = cellsG L (l.drop i) := by
  have e : cellsG L l = cellsG L (l.take i) ++ cellsG L (l.drop i) := by rw [← cellsG_append, List.take_append_drop]
  have hl : (cellsG L (l.take i)).length = i * L.n := by rw [cellsG_len k, List.length_take, Nat.min_eq_left hi]
  rw [e, ← hl, List.drop_left]
theorem cellsG_get (k : L.Ok) {l : List α} {j : Nat} {x : α} (h : l[j]? = some x) {i : Nat} {u : Value} (hu : (L.enc x)[i]? = some u) : (cellsG L l)[j * L.n + i]? = some u := by
  obtain ⟨hj, rfl⟩ := List.getElem?_eq_some_iff.1 h
  have hi : i < (L.enc l[j]).length := (List.getElem?_eq_some_iff.1 hu).1
  rw [← List.getElem?_drop, cellsG_drop k l j (Nat.le_of_lt hj), List.drop_eq_getElem_cons hj, cellsG_cons, List.getElem?_append_left hi]
  exact hu
theorem cellsG_set (k : L.Ok) {l : List α} {j : Nat} (hj : j < l.length) {y : α} {i : Nat} {v : Value} (hi : i < L.n) (hy : L.enc y = (L.enc l[j]).set i v) : (cellsG L l).set (j * L.n + i) v = cellsG L (l.set j y) := by
  have e : l = l.take j ++ l[j] :: l.drop (j + 1) := by rw [← List.drop_eq_getElem_cons hj, List.take_append_drop]
  have hl : (cellsG L (l.take j)).length = j * L.n := by rw [cellsG_len k, List.length_take, Nat.min_eq_left (Nat.le_of_lt hj)]
  have e2 : l.set j y = l.take j ++ y :: l.drop (j + 1) := by rw [List.set_eq_take_append_cons_drop, if_pos hj]
  have hn : i < (L.enc l[j]).length := by rw [k.len]; exact hi
  rw [e2, cellsG_append, cellsG_cons, hy]
  conv => lhs; rw [e]
  rw [cellsG_append, cellsG_cons, List.set_append, if_neg (by omega), hl, Nat.add_sub_cancel_left, List.set_append, if_pos hn]
theorem cellsG_put (k : L.Ok) {l : List α} {j : Nat} (hj : j < l.length) (y : α) : (cellsG L l).take (j * L.n) ++ L.enc y ++ (cellsG L l).drop (j * L.n + L.n) = cellsG L (l.set j y) := by
  rw [cellsG_take k l j (Nat.le_of_lt hj), show j * L.n + L.n = (j + 1) * L.n by rw [Nat.add_mul]; omega, cellsG_drop k l (j + 1) hj, List.set_eq_take_append_cons_drop, if_pos hj, cellsG_append, cellsG_cons, List.append_assoc]

/-- A slice reads as these. -/
structure SlP (L : Lay α) (w : World) (a : Option Addr) (cap : Nat) (l : List α) : Prop where
  cap : l.length ≤ cap
  len : l.length ≤ maxLen
  cell : l ≠ [] → ∃ b o, a = some ⟨b, o, none⟩ ∧ b < w.heap.size ∧ ∀ j u, (cellsG L l)[j]? = some u → w.cell? ⟨b, o + j, none⟩ = some u
theorem SlP.below {w w' : World} {a : Option Addr} {cap : Nat} {l : List α} (h : SlP L w a cap l) (hb : Below w.heap.size w w') : SlP L w' a cap l := by
  refine ⟨h.cap, h.len, fun hne => ?_⟩
  obtain ⟨b, o, e, hlt, hc⟩ := h.cell hne
  exact ⟨b, o, e, Nat.lt_of_lt_of_le hlt hb.size, fun j u hu => (hb.cell (p := ⟨b, o + j, none⟩) hlt).trans (hc j u hu)⟩
theorem SlP.nil (w : World) (a : Option Addr) (cap : Nat) : SlP L w a cap [] := ⟨by simp, by simp, fun h => absurd rfl h⟩
/-- The one at a place, cell by cell, and whole. -/
theorem SlP.at {w : World} {a : Option Addr} {cap : Nat} {l : List α} (h : SlP L w a cap l) (k : L.Ok) (j : Nat) (hj : j < l.length) :
    ∃ b o, a = some ⟨b, o, none⟩ ∧ b < w.heap.size ∧ (∀ i u, (L.enc l[j])[i]? = some u → w.cell? ⟨b, o + j * L.n + i, none⟩ = some u) ∧ LdX L.T (.pointer (some ⟨b, o + j * L.n, none⟩)) w = .ok (.value (.agg (L.enc l[j]).toArray)) w := by
  obtain ⟨b, o, e, hb, hc⟩ := h.cell (by intro e; subst e; simp at hj)
  have hat : ∀ i u, (L.enc l[j])[i]? = some u → w.cell? ⟨b, o + j * L.n + i, none⟩ = some u := fun i u hu => by
    rw [Nat.add_assoc]
    exact hc _ _ (cellsG_get k (List.getElem?_eq_getElem hj) hu)
  exact ⟨b, o, e, hb, hat, ld_cells L.T (L.enc l[j]) hat k.agg (fun W => by rw [k.len]; exact k.sz W)⟩

/-- A row of the call's own, from block base on. -/
def OwnS (L : Lay α) (w : World) (base : Nat) (v : Value) (l : List α) : Prop := w.ownsRow base L.T L.n v l.length (cellsG L l)
theorem OwnS.sl {w : World} {base : Nat} {v : Value} {l : List α} (h : OwnS L w base v l) : ∃ a cap, v = .slice a l.length cap ∧ SlP L w a cap l := by
  rcases h.2 with ⟨rfl, h0⟩ | ⟨g, cap, cur, rfl, h1, h2, h3, h4, h5, h6⟩
  · have := List.eq_nil_of_length_eq_zero h0
    subst this
    exact ⟨none, 0, rfl, SlP.nil _ _ _⟩
  · refine ⟨_, cap, rfl, h3, by omega, fun _ => ⟨g, 0, rfl, (Array.getElem?_eq_some_iff.1 h2).1, fun j u hu => ?_⟩⟩
    rw [← h6, List.getElem?_take] at hu
    split at hu
    · simp only [Array.getElem?_toList] at hu
      rw [Nat.zero_add]
      simp [World.cell?, h2, hu]
    · cases hu
theorem OwnS.below {w w' : World} {base : Nat} {v : Value} {l : List α} (h : OwnS L w base v l) (hb : Below w.heap.size w w') : OwnS L w' base v l := by
  refine ⟨h.1, ?_⟩
  rcases h.2 with h1 | ⟨g, cap, cur, e, h1, h2, h3⟩
  · exact .inl h1
  · exact .inr ⟨g, cap, cur, e, h1, (hb.block g (Array.getElem?_eq_some_iff.1 h2).1).trans h2, h3⟩
theorem OwnS.nil (w : World) (base : Nat) : OwnS L w base (.slice none 0 0) [] := ⟨by simp [cellsG], .inl ⟨rfl, rfl⟩⟩
theorem OwnS.grown {w w' : World} {base : Nat} {v : Value} {l : List α} (h : OwnS L w base v l) (hb : ∀ k, base ≤ k → k < w.heap.size → w'.heap[k]? = w.heap[k]?) : OwnS L w' base v l := by
  refine ⟨h.1, ?_⟩
  rcases h.2 with h1 | ⟨g, cap, cur, e, h1, h2, h3⟩
  · exact .inl h1
  · exact .inr ⟨g, cap, cur, e, h1, (hb g h1 (Array.getElem?_eq_some_iff.1 h2).1).trans h2, h3⟩
theorem OwnS.shape {w : World} {base : Nat} {v : Value} {l : List α} (h : OwnS L w base v l) : ∃ a cap, v = .slice a l.length cap := by
  rcases h.2 with ⟨e, h0⟩ | ⟨g, cap, cur, e, _⟩
  · exact ⟨none, 0, by rw [e, h0]⟩
  · exact ⟨_, cap, e⟩
theorem OwnS.base {w : World} {base base' : Nat} {v : Value} {l : List α} (h : OwnS L w base v l) (hb : base' ≤ base) : OwnS L w base' v l :=
  ⟨h.1, h.2.elim Or.inl (fun ⟨g, cap, cur, hv, hg, r⟩ => Or.inr ⟨g, cap, cur, hv, Nat.le_trans hb hg, r⟩)⟩
theorem OwnS.row {w : World} {base : Nat} {v : Value} {l : List α} (h : OwnS L w base v l) : ∀ k, v.ownBlock = some k → base ≤ k := by
  intro k hk
  rcases h.2 with ⟨rfl, _⟩ | ⟨g, cap, cur, rfl, h1, _⟩
  · cases hk
  · simp [Value.ownBlock] at hk
    omega
theorem OwnS.lt {w : World} {base : Nat} {v : Value} {l : List α} (h : OwnS L w base v l) : ∀ k, v.ownBlock = some k → k < w.heap.size := by
  intro k hk
  rcases h.2 with ⟨rfl, _⟩ | ⟨g, cap, cur, rfl, _, h2, _⟩
  · cases hk
  · simp [Value.ownBlock] at hk
    have := (Array.getElem?_eq_some_iff.1 h2).1
    omega
/-- The row of a slice that is not empty. -/
theorem OwnS.at {w : World} {base : Nat} {v : Value} {l : List α} (h : OwnS L w base v l) (k : L.Ok) (j : Nat) (hj : j < l.length) :
    ∃ g cap, v = .slice (some ⟨g, 0, none⟩) l.length cap ∧ base ≤ g ∧ g < w.heap.size ∧ l.length ≤ cap ∧ cap ≤ maxLen ∧ (∀ i u, (L.enc l[j])[i]? = some u → w.cell? ⟨g, j * L.n + i, none⟩ = some u) ∧ ∀ o, w.frozen? ⟨g, o, none⟩ = false := by
  rcases h.2 with ⟨rfl, h0⟩ | ⟨g, cap, cur, rfl, h1, h2, h3, h4, h5, h6⟩
  · omega
  · refine ⟨g, cap, rfl, h1, (Array.getElem?_eq_some_iff.1 h2).1, h3, h4, fun i u hu => ?_, fun o => by simp [World.frozen?, h2]⟩
    have hi := cellsG_get k (List.getElem?_eq_getElem hj) hu
    rw [← h6, List.getElem?_take] at hi
    split at hi
    · simp only [Array.getElem?_toList] at hi
      simp [World.cell?, h2, hi]
    · cases hi
/-- One cell of one is turned. -/
theorem OwnS.set {w : World} {base g m cap : Nat} {l : List α} (h : OwnS L w base (.slice (some ⟨g, 0, none⟩) m cap) l) (k : L.Ok) (j : Nat) (hj : j < l.length) (y : α) (i : Nat) (v : Value) (hi : i < L.n) (hy : L.enc y = (L.enc l[j]).set i v) :
    OwnS L (w.setCell ⟨g, j * L.n + i, none⟩ v) base (.slice (some ⟨g, 0, none⟩) m cap) (l.set j y) := by
  rcases h.2 with ⟨e, _⟩ | ⟨g', cap', cur, e, h1, h2, h3, h4, h5, h6⟩
  · cases e
  · injection e with e1 e2 e3
    injection e1 with e1
    injection e1 with e1
    subst e1 e2 e3
    refine ⟨by rw [cellsG_len k], .inr ⟨g, cap, cur.set! (j * L.n + i) v, by rw [List.length_set], h1, ?_, by rw [List.length_set]; exact h3, h4, by simpa using h5, ?_⟩⟩
    · simp [World.setCell, Array.getElem?_modify, h2]
    · rw [List.length_set, ← cellsG_set k hj hi hy, ← h6]
      simp only [Array.set!_eq_setIfInBounds, Array.toList_setIfInBounds]
      rw [List.take_set]

/-- What a call has laid itself. -/
theorem OwnS.block (k : L.Ok) (w : World) (l : List α) (hl : l.length ≤ maxLen) (base : Nat) (hb : base ≤ w.heap.size) : OwnS L (w.alloc (.cells (cellsG L l).toArray L.T)) base (.slice (some ⟨w.heap.size, 0, none⟩) l.length l.length) l :=
  ⟨cellsG_len k l, .inr ⟨w.heap.size, l.length, _, rfl, hb, heap_alloc_new w _, Nat.le_refl _, hl, by simp [cellsG_len k], by simp; rw [← cellsG_len k, List.take_length]⟩⟩
theorem SlP.block (k : L.Ok) (w : World) (l : List α) (hl : l.length ≤ maxLen) : SlP L (w.alloc (.cells (cellsG L l).toArray L.T)) (some ⟨w.heap.size, 0, none⟩) l.length l := by
  obtain ⟨a, c, e, h⟩ := (OwnS.block k w l hl 0 (Nat.zero_le _)).sl
  injection e with e1 e2 e3
  subst e1 e3
  exact h
theorem SlP.one (k : L.Ok) (w : World) (x : α) : SlP L (w.alloc (.cells (L.enc x).toArray L.T)) (some ⟨w.heap.size, 0, none⟩) 1 [x] := by
  have := SlP.block k w [x] (by unfold maxLen; simp)
  simpa [cellsG] using this

/-- Some put behind those of a row of the call's own. -/
theorem run_append_sl (k : L.Ok) (w : World) (base : Nat) (v : Value) (xs ys : List α) (hown : OwnS L w base v xs) (A : Option Addr) (cA : Nat) (hy : SlP L w A cA ys) (hlen : xs.length + ys.length ≤ 10000000) (hb : base ≤ w.heap.size) (ty : TypeId) :
    ∃ v' w', (Builtin.append_ #[L.S, L.S] ty #[v, .slice A ys.length cA]).run Tryz.prog w = .ok v' w' ∧ OwnS L w' base v' (xs ++ ys) ∧ w.grownBy w' v.ownBlock := by
  obtain ⟨i0, hi0, hz0, hzs, hzb⟩ := info_parts k.info
  cases A with
  | none =>
    have hy0 : ys = [] := by
      cases ys with
      | nil => rfl
      | cons y r =>
        obtain ⟨b, o, e, _⟩ := hy.cell (by simp)
        cases e
    subst hy0
    rcases hown.2 with ⟨e, h⟩ | ⟨g, cap, cur, e, h1, h2, h3, h4, h5, h6⟩
    · subst e
      have hx0 := List.eq_nil_of_length_eq_zero h
      subst hx0
      refine ⟨.slice none 0 0, w, ?_, OwnS.nil _ _, grown_refl _ _⟩
      simp [Builtin.append_, run_underlying k.und, sizeOf, typeInfo, hi0, Builtin.lenOf, Builtin.firstCells]
    · subst e
      have hsrc : Src Tryz.prog i0.size L.S (.slice none 0 cA) 0 [] w := Src.ofNil w k.und cA
      have hr := run_append_room_src w L.S L.S ty L.T i0 k.und hi0 g 0 xs.length cap _ 0 [] hsrc (by omega) (by simp) (by simp)
      refine ⟨_, _, hr, ?_, grown_refl _ _⟩
      rw [List.append_nil]
      exact hown
  | some ad =>
    have hn : ∀ j u, (cellsG L ys)[j]? = some u → w.cell? (ad.add j) = some u := by
      intro j u hj
      have hne : ys ≠ [] := by intro e; subst e; simp [cellsG] at hj
      obtain ⟨b, o, e, _, hc⟩ := hy.cell hne
      injection e with e
      subst e
      rw [Addr.add_lit]
      exact hc j u hj
    have hf := k.few
    have hbb : (xs.length + ys.length) * L.bytes ≤ 140737488355328 := Nat.le_trans (Nat.mul_le_mul hlen hf) (by decide)
    obtain ⟨v', w', hr, h1, h2, h3⟩ := run_append_own w base L.S ty L.T i0 _ L.n L.bytes k.und hi0 hz0 hzs hzb k.zs k.pos v xs.length (cellsG L xs) hown ad ys.length cA (cellsG L ys) (cellsG_len k ys) hn (cellsG_one k ys) (by unfold maxLen; omega) hbb hb
    refine ⟨v', w', hr, ?_, h2⟩
    unfold OwnS
    rw [cellsG_append, List.length_append]
    exact h1
theorem wp_append_sl (k : L.Ok) {o : Oper} {a : Act} {w : World} {K : Act → World → Prop} {Q : Exit → Act → World → Prop} (s x : Operand)
    (ho : o.op = .call { callee := .builtin .append, args := #[s, x], argTypes := #[L.S, L.S] }) (base : Nat) (v : Value) (xs ys : List α) (hs : a.eval s = v) (hown : OwnS L w base v xs) (A : Option Addr) (cA : Nat)
    (hx : a.eval x = .slice A ys.length cA) (hy : SlP L w A cA ys) (hlen : xs.length + ys.length ≤ 10000000) (hb : base ≤ w.heap.size)
    (h : ∀ v' w', OwnS L w' base v' (xs ++ ys) → w.grownBy w' v.ownBlock → K (a.put o.dst v') w') : o.wp Tryz.prog a w K Q := by
  obtain ⟨v', w', hr, h1, h2⟩ := run_append_sl k w base v xs ys hown A cA hy hlen hb o.type
  unfold Oper.wp execOp
  simp only [ho, resolve, invoke, builtin, Sem.run_bind, Sem.run_pure, Result.andThen_ok, List.map_toArray, List.map_cons, List.map_nil, hs, hx, hr]
  exact h v' w' h1 h2
theorem wpList_append_sl (k : L.Ok) {w : World} {ops : Array Oper} {rest : List Oper} {o : Oper} {a : Act} {Q : Exit → Act → World → Prop} (hgd : o.guard = none) (s x : Operand)
    (ho : o.op = .call { callee := .builtin .append, args := #[s, x], argTypes := #[L.S, L.S] }) (base : Nat) (v : Value) (xs ys : List α) (hs : a.eval s = v) (hown : OwnS L w base v xs) (A : Option Addr) (cA : Nat)
    (hx : a.eval x = .slice A ys.length cA) (hy : SlP L w A cA ys) (hlen : xs.length + ys.length ≤ 10000000) (hb : base ≤ w.heap.size)
    (h : ∀ v' w', OwnS L w' base v' (xs ++ ys) → w.grownBy w' v.ownBlock → wpList Tryz.prog ops Q rest (a.put o.dst v') w') : wpList Tryz.prog ops Q (o :: rest) a w :=
  wpList_plain hgd fun _ hK => wp_append_sl k s x ho base v xs ys hs hown A cA hx hy hlen hb fun v' w' h1 h2 => hK _ _ (h v' w' h1 h2)
/-- s[:j]. -/
theorem sl_to (k : L.Ok) {a : Option Addr} {cap : Nat} {l : List α} (hc : l.length ≤ cap) (m : Nat) (i : Int) (hi : i = (m : Int)) (hm : m ≤ l.length) :
    ∃ a' c', (∀ W, (Instr.slice L.S (.slice a l.length cap) none (some (.int .i64 i)) none).run Tryz.prog W = .ok (.slice a' (l.take m).length c') W) ∧ ∀ W, SlP L W a cap l → SlP L W a' c' (l.take m) := by
  subst hi
  refine ⟨if cap = 0 then a else a.map (·.add 0), cap, fun W => ?_, fun W h => ⟨by rw [List.length_take]; omega, by have := h.len; rw [List.length_take]; omega, fun hne => ?_⟩⟩
  · have hz := k.sz W
    have h2 : (m : Int) ≤ (cap : Int) := by omega
    have h3 : min m l.length = m := by omega
    simp [Instr.slice, run_underlying k.und, Instr.sliceBounds, run_sliceBound, h2, h3, hz]
  · have hlt : 0 < l.length := by
      rcases Nat.eq_zero_or_pos l.length with h | h
      · rw [List.eq_nil_of_length_eq_zero h] at hne; simp at hne
      · exact h
    obtain ⟨b, o, rfl, hb, hcl⟩ := h.cell (by intro e; subst e; simp at hlt)
    refine ⟨b, o, by rw [if_neg (by omega), Option.map_some, Addr.add_lit]; rfl, hb, fun j x hj => ?_⟩
    rw [← cellsG_take k l m hm, List.getElem?_take] at hj
    split at hj
    · exact hcl _ _ hj
    · cases hj
end
end

end Go.Proofs.YtfmpibmhhfmajaaGreatDoor
