/- Whole arrays of 64 bytes in memory: what loads, stores, builds and comparisons of them come to, each told at once. -/
import Derived.Test.YtipikkniookanaaChecked
import Derived.Test.YtipikkniookanaaPlain
import Derived.WalkKit
import Derived.WalkSpells
import Derived.ProofKit
import Derived.Below
import Derived.IntWalk
import Derived.Lib.Hide
import Derived.Laws.BitsAllLaws
import Derived.Laws.Rows
import Derived.Laws.Tables
import Derived.Laws.IdiomCopy
import Derived.Laws.AppendOwn
import Derived.Laws.StructEq
import Derived.Stop.BytesEq
namespace Go.Proofs.Ytipikkniookanaa
open Go.RowKit

abbrev bv (x : Nat) : Value := .int .u8 (x : Int)
/-- An array of these bytes. -/
def arr (c : List Nat) : Array Value := (c.map bv).toArray
/-- A write: where, and what. -/
def wrL (x : Nat × List Nat) : List Value := .int .i64 (x.1 : Int) :: x.2.map bv
def wr (x : Nat × List Nat) : Array Value := (wrL x).toArray

theorem arr_size (c : List Nat) : (arr c).size = c.length := by simp [arr]
theorem arr_toList (c : List Nat) : (arr c).toList = c.map bv := by simp [arr]
theorem wr_size (x : Nat × List Nat) : (wr x).size = x.2.length + 1 := by simp [wr, wrL]

/-- What an operation comes to, with its operands told. -/
noncomputable def LdR (t : TypeId) (p : Value) (w : World) : Result Next := (do pure (Next.value (← Instr.loadAt t p)) : Sem Next).run Try.prog w
noncomputable def StR (t : TypeId) (p v : Value) (w : World) : Result Next := (do Instr.storeAt t p v; pure Next.skip : Sem Next).run Try.prog w
noncomputable def BxR (t : TypeId) (v : Value) (w : World) : Result Next := (do pure (Next.value (← Instr.box t v)) : Sem Next).run Try.prog w
noncomputable def AlR (t : TypeId) (w : World) : Result Next := (do pure (Next.value (← Instr.alloc t true (.tuple #[]))) : Sem Next).run Try.prog w
noncomputable def BdR (t : TypeId) (parts : Array (Nat × Value)) (w : World) : Result Next := (do pure (Next.value (← Instr.build t parts)) : Sem Next).run Try.prog w
noncomputable def BsR (t : TypeId) (n : Nat) (parts : Array (Nat × Value)) (w : World) : Result Next := (do pure (Next.value (← Instr.buildSlice t n parts)) : Sem Next).run Try.prog w
noncomputable def EqR (op : BinOp) (t : TypeId) (a b : Operand) (x y : Value) (w : World) : Result Next := (do pure (Next.value (← (do eqGuard op t a b x y; binOp op t x y))) : Sem Next).run Try.prog w
noncomputable def MkR (t : TypeId) (l c : Value) (w : World) : Result Next := (do pure (Next.value (← Instr.makeSlice t l c)) : Sem Next).run Try.prog w
noncomputable def CpR (t ty : TypeId) (x y : Value) (w : World) : Result Next := (do pure (Next.value (← Builtin.copy_ #[t, t] ty #[x, y])) : Sem Next).run Try.prog w
noncomputable def ApR (t ty : TypeId) (x y : Value) (w : World) : Result Next := (do pure (Next.value (← Builtin.append_ #[t, t] ty #[x, y])) : Sem Next).run Try.prog w

section
variable (ev : Operand → Value) (d : Option Tmp) (ty : TypeId) (pos : String) (af : Array Edge) (gd : Option (Nat × Bool)) (w : World)

theorem ld26 (x : Operand) : (execOp ev ⟨d, .load 90 x, ty, pos, af, gd⟩).run Try.prog w = LdR 90 (ev x) w := rfl
theorem ld66 (x : Operand) : (execOp ev ⟨d, .load 92 x, ty, pos, af, gd⟩).run Try.prog w = LdR 92 (ev x) w := rfl
theorem st26 (x y : Operand) : (execOp ev ⟨d, .store 90 x y, ty, pos, af, gd⟩).run Try.prog w = StR 90 (ev x) (ev y) w := rfl
theorem st66 (x y : Operand) : (execOp ev ⟨d, .store 92 x y, ty, pos, af, gd⟩).run Try.prog w = StR 92 (ev x) (ev y) w := rfl
theorem bx26 (x : Operand) : (execOp ev ⟨d, .box 90 x, ty, pos, af, gd⟩).run Try.prog w = BxR 90 (ev x) w := rfl
theorem al26 : (execOp ev ⟨d, .alloc 90, ty, pos, af, gd⟩).run Try.prog w = AlR 90 w := rfl
theorem al66 : (execOp ev ⟨d, .alloc 92, ty, pos, af, gd⟩).run Try.prog w = AlR 92 w := rfl
theorem bd26 (ps : Array (Nat × Operand)) : (execOp ev ⟨d, .build 90 ps, ty, pos, af, gd⟩).run Try.prog w = BdR 90 (ps.map fun (i, x) => (i, ev x)) w := rfl
theorem bd66 (ps : Array (Nat × Operand)) : (execOp ev ⟨d, .build 92 ps, ty, pos, af, gd⟩).run Try.prog w = BdR 92 (ps.map fun (i, x) => (i, ev x)) w := rfl
theorem bs61 (n : Nat) (ps : Array (Nat × Operand)) : (execOp ev ⟨d, .buildSlice 68 n ps, ty, pos, af, gd⟩).run Try.prog w = BsR 68 n (ps.map fun (i, x) => (i, ev x)) w := rfl
theorem bs48 (n : Nat) (ps : Array (Nat × Operand)) : (execOp ev ⟨d, .buildSlice 67 n ps, ty, pos, af, gd⟩).run Try.prog w = BsR 67 n (ps.map fun (i, x) => (i, ev x)) w := rfl
theorem mk48 (x y : Operand) : (execOp ev ⟨d, .makeSlice 67 x y, ty, pos, af, gd⟩).run Try.prog w = MkR 67 (ev x) (ev y) w := rfl

theorem eq26 (op : BinOp) (x y : Operand) (z : TypeId) : (execOp ev ⟨d, .binOp op 90 x y z, ty, pos, af, gd⟩).run Try.prog w = EqR op 90 x y (ev x) (ev y) w := rfl

theorem ap61 (x y : Operand) : (execOp ev ⟨d, .call { callee := .builtin .append, args := #[x, y], argTypes := #[68, 68] }, ty, pos, af, gd⟩).run Try.prog w = ApR 68 ty (ev x) (ev y) w := by simp only [execOp, resolve, invoke, builtin, ApR, Sem.run_bind, Sem.run_pure, Result.andThen_ok, List.map_toArray, List.map_cons, List.map_nil]
theorem ap48 (x y : Operand) : (execOp ev ⟨d, .call { callee := .builtin .append, args := #[x, y], argTypes := #[67, 67] }, ty, pos, af, gd⟩).run Try.prog w = ApR 67 ty (ev x) (ev y) w := by simp only [execOp, resolve, invoke, builtin, ApR, Sem.run_bind, Sem.run_pure, Result.andThen_ok, List.map_toArray, List.map_cons, List.map_nil]
theorem ap49 (x y : Operand) : (execOp ev ⟨d, .call { callee := .builtin .append, args := #[x, y], argTypes := #[79, 79] }, ty, pos, af, gd⟩).run Try.prog w = ApR 79 ty (ev x) (ev y) w := by simp only [execOp, resolve, invoke, builtin, ApR, Sem.run_bind, Sem.run_pure, Result.andThen_ok, List.map_toArray, List.map_cons, List.map_nil]
theorem cp46 (x y : Operand) : (execOp ev ⟨d, .call { callee := .builtin .copy, args := #[x, y], argTypes := #[24, 24] }, ty, pos, af, gd⟩).run Try.prog w = CpR 24 ty (ev x) (ev y) w := by simp only [execOp, resolve, invoke, builtin, CpR, Sem.run_bind, Sem.run_pure, Result.andThen_ok, List.map_toArray, List.map_cons, List.map_nil]
theorem cp48 (x y : Operand) : (execOp ev ⟨d, .call { callee := .builtin .copy, args := #[x, y], argTypes := #[67, 67] }, ty, pos, af, gd⟩).run Try.prog w = CpR 67 ty (ev x) (ev y) w := by simp only [execOp, resolve, invoke, builtin, CpR, Sem.run_bind, Sem.run_pure, Result.andThen_ok, List.map_toArray, List.map_cons, List.map_nil]

theorem oneCell_bv (x : Nat) : (bv x).oneCell' = true := rfl

/-- A block begins with these. -/
def RowAt (w : World) (b : Nat) (T : TypeId) (xs : List Value) : Prop := ∃ cur, w.heap[b]? = some (.cells cur T (0, 0)) ∧ xs.length ≤ cur.size ∧ cur.toList.take xs.length = xs

theorem RowAt.cell {w : World} {b : Nat} {T : TypeId} {xs : List Value} (h : RowAt w b T xs) {j : Nat} {v : Value} (hj : xs[j]? = some v) : w.cell? ⟨b, j, none⟩ = some v := by
  obtain ⟨cur, h1, h2, h3⟩ := h
  rw [cell_of_row w b j _ _ _ h1]
  rw [← h3, List.getElem?_take] at hj
  split at hj
  · simpa using hj
  · cases hj
theorem RowAt.lt {w : World} {b : Nat} {T : TypeId} {xs : List Value} (h : RowAt w b T xs) : b < w.heap.size := by
  obtain ⟨cur, h1, _⟩ := h
  exact (Array.getElem?_eq_some_iff.1 h1).1
theorem RowAt.same {w w' : World} {b : Nat} {T : TypeId} {xs : List Value} (h : RowAt w b T xs) (e : w'.heap[b]? = w.heap[b]?) : RowAt w' b T xs := by
  obtain ⟨cur, h1, h2, h3⟩ := h
  exact ⟨cur, e.trans h1, h2, h3⟩
theorem RowAt.frozen {w : World} {b : Nat} {T : TypeId} {xs : List Value} (h : RowAt w b T xs) (j : Nat) : w.frozen? ⟨b, j, none⟩ = false := by
  obtain ⟨cur, h1, _⟩ := h
  exact frozen_of_row w b j _ _ h1
theorem RowAt.of {w : World} {b : Nat} {T : TypeId} {cur : Array Value} (h : w.heap[b]? = some (.cells cur T (0, 0))) : RowAt w b T cur.toList := ⟨cur, h, by simp, List.take_of_length_le (by simp)⟩

/-- All but one block is as it was. -/
structure Upd (b : Nat) (w w' : World) : Prop where
  os : w'.os = w.os
  tape : w'.tape = w.tape
  output : w'.output = w.output
  size : w'.heap.size = w.heap.size
  block : ∀ k, k ≠ b → w'.heap[k]? = w.heap[k]?

/-- A list with some of it laid over. -/
def putL (cur : List Value) (o : Nat) (vs : List Value) : List Value := cur.take o ++ vs ++ cur.drop (o + vs.length)

theorem putL_len {cur : List Value} {o : Nat} {vs : List Value} (h : o + vs.length ≤ cur.length) : (putL cur o vs).length = cur.length := by
  unfold putL
  rw [List.length_append, List.length_append, List.length_take, List.length_drop]
  omega
theorem putL_take {cur : List Value} {o : Nat} {vs : List Value} {n : Nat} (h : o + vs.length ≤ n) (hn : n ≤ cur.length) : (putL cur o vs).take n = putL (cur.take n) o vs := by
  have e1 : (cur.take o).length = o := by rw [List.length_take]; omega
  unfold putL
  rw [List.take_append, List.take_of_length_le (by rw [List.length_append, e1]; omega), List.length_append, e1, List.take_take, Nat.min_eq_left (by omega), List.drop_take]

theorem setCells_block (b : Nat) (T : TypeId) : ∀ (vs : List Value) (o : Nat) (w : World) (cur : Array Value), w.heap[b]? = some (.cells cur T (0, 0)) → o + vs.length ≤ cur.size →
    (w.setCells b o vs).heap[b]? = some (.cells (putL cur.toList o vs).toArray T (0, 0)) ∧ Upd b w (w.setCells b o vs)
  | [], o, w, cur, h, _ => by
    refine ⟨?_, ⟨rfl, rfl, rfl, rfl, fun _ _ => rfl⟩⟩
    show w.heap[b]? = _
    rw [h]
    simp [putL]
  | v :: r, o, w, cur, h, hl => by
    simp only [List.length_cons] at hl
    have h1 : (w.setCell ⟨b, o, none⟩ v).heap[b]? = some (.cells (cur.setIfInBounds o v) T (0, 0)) := heap_setCell_same w b o cur T v h
    obtain ⟨h2, u⟩ := setCells_block b T r (o + 1) (w.setCell ⟨b, o, none⟩ v) (cur.setIfInBounds o v) h1 (by simp; omega)
    refine ⟨?_, ⟨u.os, u.tape, u.output, u.size.trans (by simp [World.setCell]), fun k hk => (u.block k hk).trans (heap_setCell_other w ⟨b, o, none⟩ k v hk)⟩⟩
    show (((w.setCell ⟨b, o, none⟩ v).setCells b (o + 1) r)).heap[b]? = _
    rw [h2]
    congr 3
    have hlen : o < cur.toList.length := by simp; omega
    unfold putL
    simp only [Array.toList_setIfInBounds, List.length_cons]
    rw [List.drop_set_of_lt (by omega), List.take_add_one, List.take_set_of_le (Nat.le_refl _), List.getElem?_set_self hlen]
    rw [show o + 1 + r.length = o + (r.length + 1) by omega]
    simp

theorem putL_step {cur : List Value} {o : Nat} (v : Value) (r : List Value) (ho : o < cur.length) : putL (cur.set o v) (o + 1) r = putL cur o (v :: r) := by
  unfold putL
  simp only [List.length_cons]
  rw [List.drop_set_of_lt (by omega), List.take_add_one, List.take_set_of_le (Nat.le_refl _), List.getElem?_set_self ho]
  rw [show o + 1 + r.length = o + (r.length + 1) by omega]
  simp

theorem fold_put (off : Nat) : ∀ (vs : List Value) (k : Nat) (cells : Array Value), off + k + vs.length ≤ cells.size →
    (vs.zipIdx k).foldl (fun cs (x : Value × Nat) => cs.setIfInBounds (off + x.2) x.1) cells = (putL cells.toList (off + k) vs).toArray
  | [], k, cells, _ => by simp [putL]
  | v :: r, k, cells, h => by
    simp only [List.length_cons] at h
    rw [List.zipIdx_cons, List.foldl_cons, fold_put off r (k + 1) _ (by simp; omega)]
    rw [Array.toList_setIfInBounds, ← Nat.add_assoc, putL_step v r (by simp; omega)]

theorem fill_put (off : Nat) (vs : List Value) (cells : Array Value) (h : off + vs.length ≤ cells.size) :
    vs.toArray.zipIdx.foldl (fun cs (x : Value × Nat) => cs.setIfInBounds (off + x.2) x.1) cells = (putL cells.toList off vs).toArray := by
  rw [← Array.foldl_toList, Array.toList_zipIdx]
  exact fold_put off vs 0 cells (by omega)

theorem fill_cons (place : Nat → Option (Nat × Nat)) (cells : Array Value) (i : Nat) (v : Value) (rest : List (Nat × Value)) (off : Nat) (vs : List Value) (hp : place i = some (off, vs.length)) (hv : v.cells = vs.toArray) (hl : off + vs.length ≤ cells.size) :
    Instr.fill place cells ((i, v) :: rest) = Instr.fill place (putL cells.toList off vs).toArray rest := by
  have h1 : ¬ (off + vs.length > cells.size) := by omega
  rw [Instr.fill, hp]
  simp only [hv, List.size_toArray, ne_eq, not_true_eq_false, h1, decide_false, Bool.or_self, Bool.false_eq_true, if_false]
  rw [← fill_put off vs cells hl]

theorem putL_all {cur vs : List Value} (h : cur.length = vs.length) : putL cur 0 vs = vs := by
  unfold putL
  rw [List.drop_eq_nil_of_le (by omega)]
  simp

/-- A store into a block that begins with these. -/
theorem RowAt.put {w : World} {b : Nat} {T : TypeId} {xs : List Value} (h : RowAt w b T xs) {o : Nat} {vs : List Value} (ho : o + vs.length ≤ xs.length) :
    RowAt (w.setCells b o vs) b T (putL xs o vs) ∧ Upd b w (w.setCells b o vs) := by
  obtain ⟨cur, h1, h2, h3⟩ := h
  obtain ⟨h4, u⟩ := setCells_block b T vs o w cur h1 (by omega)
  refine ⟨⟨_, h4, ?_, ?_⟩, u⟩
  · rw [putL_len ho, List.size_toArray, putL_len (by simp; omega)]
    simpa using h2
  · rw [putL_len ho]
    show (putL cur.toList o vs).take xs.length = _
    rw [putL_take ho (by simpa using h2), h3]

theorem add_at (b o j : Nat) : (⟨b, o, none⟩ : Addr).add j = ⟨b, o + j, none⟩ := by unfold Addr.add; split <;> simp_all

/-- A whole aggregate is read. -/
theorem ldR_at {w : World} {b : Nat} {T : TypeId} {xs : List Value} (h : RowAt w b T xs) (t : TypeId) (o : Nat) (vs : List Value) (hvs : (xs.drop o).take vs.length = vs) (ha : ∀ W, (isAgg t).run Try.prog W = .ok true W)
    (hs : ∀ W, (sizeOf t).run Try.prog W = .ok vs.length W) : LdR t (.pointer (some ⟨b, o, none⟩)) w = .ok (.value (.agg vs.toArray)) w := by
  have hl : (loadCells ⟨b, o, none⟩ vs.length).run Try.prog w = .ok vs.toArray w :=
    run_loadCells_list (P := Try.prog) w ⟨b, o, none⟩ vs (fun j v hv => by
      rw [add_at]
      refine h.cell ?_
      rw [← hvs, List.getElem?_take] at hv
      split at hv
      · rw [List.getElem?_drop] at hv; exact hv
      · cases hv)
  simp only [LdR, Instr.loadAt, Instr.sureAddr, Sem.run_bind, Sem.run_pure, Result.andThen_ok, loadVar, ha, hs, hl, if_true]

/-- A whole aggregate is written. -/
theorem stR_at {w : World} {b : Nat} {T : TypeId} {xs : List Value} (h : RowAt w b T xs) (t : TypeId) (o : Nat) (vs : List Value) (ho : o + vs.length ≤ xs.length) (h1 : ∀ v ∈ vs, v.oneCell' = true)
    (hs : ∀ W, (sizeOf t).run Try.prog W = .ok vs.length W) : ∃ w', StR t (.pointer (some ⟨b, o, none⟩)) (.agg vs.toArray) w = .ok .skip w' ∧ RowAt w' b T (putL xs o vs) ∧ Upd b w w' := by
  obtain ⟨h2, h3⟩ := h.put ho
  refine ⟨_, ?_, h2, h3⟩
  have hst := run_storeCells_cells (P := Try.prog) b o vs 0 w (fun j hj => by
      rw [Nat.add_zero, h.cell (List.getElem?_eq_getElem (show o + j < xs.length by omega))]; rfl) (fun j hj => h.frozen _) h1
  simp only [StR, Instr.storeAt, Instr.sureAddr, Sem.run_bind, Sem.run_pure, Result.andThen_ok, storeVar, hs, Value.cells, List.size_toArray, List.toList_toArray, ne_eq, not_true_eq_false, if_false]
  rw [hst]
  rfl

theorem isAgg26 (W : World) : (isAgg 90).run Try.prog W = .ok true W := by kernel_rfl
theorem isAgg66 (W : World) : (isAgg 92).run Try.prog W = .ok true W := by kernel_rfl
theorem sizeOf26 (W : World) : (sizeOf 90).run Try.prog W = .ok 64 W := by kernel_rfl
theorem sizeOf66 (W : World) : (sizeOf 92).run Try.prog W = .ok 65 W := by kernel_rfl
theorem sizeOf5 (W : World) : (sizeOf 5).run Try.prog W = .ok 1 W := by kernel_rfl

theorem ld_cell {w : World} {b : Nat} {T : TypeId} {xs : List Value} (h : RowAt w b T xs) {o : Nat} {c : List Nat} (hc : c.length = 64) (hx : (xs.drop o).take 64 = c.map bv) : LdR 90 (.pointer (some ⟨b, o, none⟩)) w = .ok (.value (.agg (arr c))) w :=
  ldR_at h 90 o (c.map bv) (by rw [List.length_map, hc]; exact hx) isAgg26 (fun W => by rw [List.length_map, hc]; exact sizeOf26 W)

theorem st_cell {w : World} {b : Nat} {T : TypeId} {xs : List Value} (h : RowAt w b T xs) {o : Nat} {c : List Nat} (hc : c.length = 64) (ho : o + 64 ≤ xs.length) : ∃ w', StR 90 (.pointer (some ⟨b, o, none⟩)) (.agg (arr c)) w = .ok .skip w' ∧ RowAt w' b T (putL xs o (c.map bv)) ∧ Upd b w w' :=
  stR_at h 90 o (c.map bv) (by rw [List.length_map, hc]; exact ho) (fun v hv => by obtain ⟨x, _, rfl⟩ := List.mem_map.1 hv; rfl) (fun W => by rw [List.length_map, hc]; exact sizeOf26 W)

theorem wrL_len (x : Nat × List Nat) (hc : x.2.length = 64) : (wrL x).length = 65 := by simp [wrL, hc]

theorem ld_wr {w : World} {b : Nat} {T : TypeId} {xs : List Value} (h : RowAt w b T xs) {o : Nat} {x : Nat × List Nat} (hc : x.2.length = 64) (hx : (xs.drop o).take 65 = wrL x) : LdR 92 (.pointer (some ⟨b, o, none⟩)) w = .ok (.value (.agg (wr x))) w :=
  ldR_at h 92 o (wrL x) (by rw [wrL_len x hc]; exact hx) isAgg66 (fun W => by rw [wrL_len x hc]; exact sizeOf66 W)

theorem wr_one (x : Nat × List Nat) : ∀ v ∈ wrL x, v.oneCell' = true := by
  intro v hv
  simp [wrL] at hv
  rcases hv with rfl | ⟨y, _, rfl⟩ <;> rfl

theorem st_wr {w : World} {b : Nat} {T : TypeId} {xs : List Value} (h : RowAt w b T xs) {o : Nat} {x : Nat × List Nat} (hc : x.2.length = 64) (ho : o + 65 ≤ xs.length) : ∃ w', StR 92 (.pointer (some ⟨b, o, none⟩)) (.agg (wr x)) w = .ok .skip w' ∧ RowAt w' b T (putL xs o (wrL x)) ∧ Upd b w w' :=
  stR_at h 92 o (wrL x) (by rw [wrL_len x hc]; exact ho) (wr_one x) (fun W => by rw [wrL_len x hc]; exact sizeOf66 W)

/-- A new variable. -/
theorem bx_agg (t : TypeId) (cs : Array Value) : BxR t (.agg cs) w = .ok (.value (.pointer (some ⟨w.heap.size, 0, none⟩))) (w.alloc (.cells cs t)) := by
  simp only [BxR, Sem.run_bind, Instr.box, newVar, newRow, run_newObj_alloc, Sem.run_pure, Result.andThen_ok, Value.cells]

theorem zero26 (W : World) : (zeroValue 90).run Try.prog W = .ok (.agg (arr zeroC)) W := by kernel_rfl
theorem zero66 (W : World) : (zeroValue 92).run Try.prog W = .ok (.agg (wr (0, zeroC))) W := by kernel_rfl

theorem al_cell : AlR 90 w = .ok (.value (.pointer (some ⟨w.heap.size, 0, none⟩))) (w.alloc (.cells (arr zeroC) 90)) := by
  simp only [AlR, Sem.run_bind, Instr.alloc, zero26, newVar, newRow, run_newObj_alloc, Sem.run_pure, Result.andThen_ok, Value.cells]
theorem al_wr : AlR 92 w = .ok (.value (.pointer (some ⟨w.heap.size, 0, none⟩))) (w.alloc (.cells (wr (0, zeroC)) 92)) := by
  simp only [AlR, Sem.run_bind, Instr.alloc, zero66, newVar, newRow, run_newObj_alloc, Sem.run_pure, Result.andThen_ok, Value.cells]

theorem bd_zero : BdR 90 #[] w = .ok (.value (.agg (arr zeroC))) w := by kernel_rfl
theorem bd_one : BdR 90 #[(0, .int .u8 1)] w = .ok (.value (.agg (arr (oneC 1)))) w := by kernel_rfl
theorem bd_two : BdR 90 #[(0, .int .u8 2)] w = .ok (.value (.agg (arr (oneC 2)))) w := by kernel_rfl
theorem bd_nine : BdR 90 #[(0, .int .u8 9)] w = .ok (.value (.agg (arr (oneC 9)))) w := by kernel_rfl

theorem bd_wr (i : Nat) {c : List Nat} (hc : c.length = 64) : BdR 92 #[(0, .int .i64 (i : Int)), (1, .agg (arr c))] w = .ok (.value (.agg (wr (i, c)))) w := by
  have hf : Instr.fill (fun i => (#[((0 : Nat), (1 : Nat)), (1, 64)])[i]?) (wr (0, zeroC)) [(0, .int .i64 (i : Int)), (1, .agg (arr c))] = some (wr (i, c)) := by
    rw [fill_cons _ _ 0 (.int .i64 (i : Int)) _ 0 [.int .i64 (i : Int)] rfl rfl (by rw [wr_size]; simp)]
    rw [fill_cons _ _ 1 (.agg (arr c)) _ 1 (c.map bv) (by rw [List.length_map, hc]; rfl) rfl (by rw [List.length_map, hc, List.size_toArray, putL_len (by simp [wr, wrL])]; simp [wr, wrL, zeroC_len])]
    unfold Instr.fill
    congr 2
    have e1 : putL (wr (0, zeroC)).toList 0 [.int .i64 (i : Int)] = wrL (i, zeroC) := by simp [wr, wrL, putL]
    rw [e1]
    unfold putL wrL
    simp only [List.take_succ_cons, List.take_zero, List.length_map, hc]
    rw [List.drop_eq_nil_of_le (by simp [zeroC_len])]
    simp
  have hb : ∀ parts, Try.prog.built 92 parts = Instr.fill (fun i => (#[((0 : Nat), (1 : Nat)), (1, 64)])[i]?) (wr (0, zeroC)) parts := fun parts => by kernel_rfl
  have hr := run_build (P := Try.prog) w 92 #[(0, .int .i64 (i : Int)), (1, .agg (arr c))] (wr (i, c)) ((hb _).trans hf)
  simp only [BdR, Sem.run_bind, hr, Sem.run_pure, Result.andThen_ok]

/-- A slice of one element. -/
theorem bs_one (t e : TypeId) (n : Nat) (hn : 0 < n) (hle : n ≤ 1000) (hu : ∀ W, (underlying t).run Try.prog W = .ok (.slice e) W) (hs : ∀ W, (sizeOf e).run Try.prog W = .ok n W) (z : Value) (hz : ∀ W, (zeroValue e).run Try.prog W = .ok z W) (vs : List Value) (hv : vs.length = n) :
    BsR t 1 #[(0, .agg vs.toArray)] w = .ok (.value (.slice (some ⟨w.heap.size, 0, none⟩) 1 1)) (w.alloc (.cells vs.toArray e)) := by
  have h0 : ¬ n = 0 := by omega
  have h24 : ¬ 2 ^ 24 < n := by omega
  have hf : ∀ Z : Array Value, Z.size = n → Instr.fill (fun i => some (i * n, n)) Z [(0, .agg vs.toArray)] = some vs.toArray := by
    intro Z hZ
    have e := fill_put 0 vs Z (by omega)
    simp only [Nat.zero_add] at e
    simp only [Instr.fill, Nat.zero_mul, Nat.zero_add, Value.cells, List.size_toArray, hv, hZ, ne_eq, not_true_eq_false, Nat.lt_irrefl, decide_false, Bool.or_self, Bool.false_eq_true, if_false, e, gt_iff_lt]
    rw [putL_all (by simp [hZ, hv])]
  simp only [BsR, Instr.buildSlice, Sem.run_bind, hu, hs, Result.andThen_ok, Nat.one_mul, gt_iff_lt, h24, if_false, h0, hz, Sem.run_pure, newRow]
  rw [hf _ (by simp)]
  simp only [Sem.run_bind, run_newObj_alloc, Result.andThen_ok, Sem.run_pure]

theorem und61 (W : World) : (underlying 68).run Try.prog W = .ok (.slice 92) W := by kernel_rfl
theorem und48 (W : World) : (underlying 67).run Try.prog W = .ok (.slice 90) W := by kernel_rfl

theorem bs_wr {x : Nat × List Nat} (hc : x.2.length = 64) : BsR 68 1 #[(0, .agg (wr x))] w = .ok (.value (.slice (some ⟨w.heap.size, 0, none⟩) 1 1)) (w.alloc (.cells (wr x) 92)) :=
  bs_one w 68 92 65 (by omega) (by omega) und61 sizeOf66 _ zero66 (wrL x) (wrL_len x hc)
theorem bs_cell {c : List Nat} (hc : c.length = 64) : BsR 67 1 #[(0, .agg (arr c))] w = .ok (.value (.slice (some ⟨w.heap.size, 0, none⟩) 1 1)) (w.alloc (.cells (arr c) 90)) :=
  bs_one w 67 90 64 (by omega) (by omega) und48 sizeOf26 _ zero26 (c.map bv) (by rw [List.length_map, hc])
theorem bs_none : BsR 67 0 #[] w = .ok (.value (.slice (some ⟨w.heap.size, 0, none⟩) 0 0)) (w.alloc (.cells #[] 90)) := by kernel_rfl

/-- Two cells are held against each other. -/
theorem cell_map {c : List Nat} (h : IsCell c) : arr c = ((c.map UInt8.ofNat).map Extern.Stop.cell).toArray := by
  unfold arr
  rw [List.map_map]
  congr 1
  apply List.map_congr_left
  intro x hx
  have := h.byte x hx
  simp only [Function.comp_def, Extern.Stop.cell, UInt8.toNat_ofNat']
  rw [Nat.mod_eq_of_lt this]
  rfl

theorem beq_cells {c e : List Nat} (hc : IsCell c) (he : IsCell e) : (c.map UInt8.ofNat == e.map UInt8.ofNat) = (c == e) := by
  by_cases h : c = e
  · subst h; simp
  · rw [beq_eq_false_iff_ne.2 h, beq_eq_false_iff_ne]
    intro h2
    apply h
    have h3 := congrArg (List.map UInt8.toNat) h2
    rw [List.map_map, List.map_map] at h3
    have id_of : ∀ {l : List Nat}, IsCell l → l.map (UInt8.toNat ∘ UInt8.ofNat) = l := by
      intro l hl
      conv => rhs; rw [← List.map_id l]
      apply List.map_congr_left
      intro x hx
      have := hl.byte x hx
      simp
      omega
    rwa [id_of hc, id_of he] at h3

theorem guard26 : Try.prog.eqGuardType Try.prog.depth 90 = false := by kernel_rfl

theorem eq_cell {c e : List Nat} (hc : IsCell c) (he : IsCell e) (a b : Operand) : EqR .eql 90 a b (.agg (arr c)) (.agg (arr e)) w = .ok (.value (.bool (c == e))) w := by
  simp only [EqR, Sem.run_bind, Sem.run_pure, Result.andThen_ok, run_eqGuard_agg w .eql 90 a b (arr c) (arr e) guard26, run_eql_struct]
  rw [cell_map hc, cell_map he, run_equalIn_bytes w 9998 90 5 64 Try.underlying90 Try.underlying5 sizeOf5 _ _ (by rw [List.length_map, hc.len]) (by rw [List.length_map, he.len]), beq_cells hc he]
  simp only [Result.andThen_ok]
theorem ne_cell {c e : List Nat} (hc : IsCell c) (he : IsCell e) (a b : Operand) : EqR .neq 90 a b (.agg (arr c)) (.agg (arr e)) w = .ok (.value (.bool (!(c == e)))) w := by
  simp only [EqR, Sem.run_bind, Sem.run_pure, Result.andThen_ok, run_eqGuard_agg w .neq 90 a b (arr c) (arr e) guard26, run_neq_struct]
  rw [cell_map hc, cell_map he, run_equalIn_bytes w 9998 90 5 64 Try.underlying90 Try.underlying5 sizeOf5 _ _ (by rw [List.length_map, hc.len]) (by rw [List.length_map, he.len]), beq_cells hc he]
  simp only [Result.andThen_ok]

end

end Go.Proofs.Ytipikkniookanaa
