/- Arrays of twenty truths and of twenty cells, made and written whole. -/
import Derived.Test.YtnnikgchffkalaaNew
namespace Go.Proofs.Ytnnikgchffkalaa
open Go.RowKit

section
variable (ev : Operand → Value) (d : Option Tmp) (ty : TypeId) (pos : String) (af : Array Edge) (gd : Option (Nat × Bool)) (w : World)

theorem st55 (x y : Operand) : (execOp ev ⟨d, .store 55 x y, ty, pos, af, gd⟩).run Try.prog w = StR 55 (ev x) (ev y) w := rfl
theorem st56 (x y : Operand) : (execOp ev ⟨d, .store 56 x y, ty, pos, af, gd⟩).run Try.prog w = StR 56 (ev x) (ev y) w := rfl
theorem al55 : (execOp ev ⟨d, .alloc 55, ty, pos, af, gd⟩).run Try.prog w = AlR 55 w := rfl
theorem al56 : (execOp ev ⟨d, .alloc 56, ty, pos, af, gd⟩).run Try.prog w = AlR 56 w := rfl
theorem bd55 (ps : Array (Nat × Operand)) : (execOp ev ⟨d, .build 55 ps, ty, pos, af, gd⟩).run Try.prog w = BdR 55 (ps.map fun (i, x) => (i, ev x)) w := rfl
theorem bd56 (ps : Array (Nat × Operand)) : (execOp ev ⟨d, .build 56 ps, ty, pos, af, gd⟩).run Try.prog w = BdR 56 (ps.map fun (i, x) => (i, ev x)) w := rfl
theorem mk46 (x y : Operand) : (execOp ev ⟨d, .makeSlice 46 x y, ty, pos, af, gd⟩).run Try.prog w = MkR 46 (ev x) (ev y) w := rfl

/-- Truths in a row. -/
def boolsL (l : List Bool) : List Value := l.map Value.bool
def noneA : Array Value := (boolsL (List.replicate 20 false)).toArray

theorem zero55 (W : World) : (zeroValue 55).run Try.prog W = .ok (.agg noneA) W := by kernel_rfl
theorem zero56 (W : World) : (zeroValue 56).run Try.prog W = .ok (.agg (rowZ 20)) W := by kernel_rfl
theorem sizeOf55 (W : World) : (sizeOf 55).run Try.prog W = .ok 20 W := by kernel_rfl
theorem sizeOf56 (W : World) : (sizeOf 56).run Try.prog W = .ok 1280 W := by kernel_rfl

theorem al_bools : AlR 55 w = .ok (.value (.pointer (some ⟨w.heap.size, 0, none⟩))) (w.alloc (.cells noneA 55)) := by
  simp only [AlR, Sem.run_bind, Instr.alloc, zero55, newVar, newRow, run_newObj_alloc, Sem.run_pure, Result.andThen_ok, Value.cells]
theorem al_rows : AlR 56 w = .ok (.value (.pointer (some ⟨w.heap.size, 0, none⟩))) (w.alloc (.cells (rowZ 20) 56)) := by
  simp only [AlR, Sem.run_bind, Instr.alloc, zero56, newVar, newRow, run_newObj_alloc, Sem.run_pure, Result.andThen_ok, Value.cells]
theorem bd_bools : BdR 55 #[] w = .ok (.value (.agg noneA)) w := by kernel_rfl
theorem bd_rows : BdR 56 #[] w = .ok (.value (.agg (rowZ 20))) w := by kernel_rfl
end

theorem bools_block (w : World) : RowAt (w.alloc (.cells noneA 55)) w.heap.size 55 (boolsL (List.replicate 20 false)) := by
  have := RowAt.of (heap_alloc_new w (.cells noneA 55))
  simpa only [noneA, List.toList_toArray] using this
theorem rows_block (w : World) : RowAt (w.alloc (.cells (rowZ 20) 56)) w.heap.size 56 (rowL (List.replicate 20 zeroC)) := by
  have := RowAt.of (heap_alloc_new w (.cells (rowZ 20) 56))
  simpa only [rowZ, List.toList_toArray] using this

theorem local_bools (w : World) : ∃ w', StR 55 (.pointer (some ⟨w.heap.size, 0, none⟩)) (.agg noneA) (w.alloc (.cells noneA 55)) = .ok .skip w' ∧ RowAt w' w.heap.size 55 (boolsL (List.replicate 20 false)) ∧ Below w.heap.size w w' ∧ w'.heap.size = w.heap.size + 1 := by
  have hl : (boolsL (List.replicate 20 false)).length = 20 := rfl
  obtain ⟨w', h1, h2, h3⟩ := stR_at (bools_block w) 55 0 (boolsL (List.replicate 20 false)) (by omega) (fun v hv => by simp only [boolsL, List.mem_map] at hv; obtain ⟨b, _, rfl⟩ := hv; rfl) (fun W => sizeOf55 W)
  rw [putL_all rfl] at h2
  exact ⟨w', h1, h2, ((Below.refl w.heap.size w).alloc (Nat.le_refl _) _).trans ⟨h3.os, h3.tape, h3.output, by rw [h3.size]; exact Nat.le_refl _, fun k hk => h3.block k (by omega)⟩, h3.size.trans (by simp)⟩
theorem local_rows (w : World) : ∃ w', StR 56 (.pointer (some ⟨w.heap.size, 0, none⟩)) (.agg (rowZ 20)) (w.alloc (.cells (rowZ 20) 56)) = .ok .skip w' ∧ RowAt w' w.heap.size 56 (rowL (List.replicate 20 zeroC)) ∧ Below w.heap.size w w' ∧ w'.heap.size = w.heap.size + 1 := by
  have hl : (rowL (List.replicate 20 zeroC)).length = 1280 := by rw [rowL_len (Cells.zero 20), List.length_replicate]
  obtain ⟨w', h1, h2, h3⟩ := stR_at (rows_block w) 56 0 (rowL (List.replicate 20 zeroC)) (by omega) (fun v hv => by simp only [rowL, List.mem_map] at hv; obtain ⟨b, _, rfl⟩ := hv; rfl) (fun W => by rw [hl]; exact sizeOf56 W)
  rw [putL_all rfl] at h2
  exact ⟨w', h1, h2, ((Below.refl w.heap.size w).alloc (Nat.le_refl _) _).trans ⟨h3.os, h3.tape, h3.output, by rw [h3.size]; exact Nat.le_refl _, fun k hk => h3.block k (by omega)⟩, h3.size.trans (by simp)⟩

/-- Twenty bytes of nought. -/
def bytesZ : Array Value := ((List.replicate 20 0).map bv).toArray
theorem mk_bytes (w : World) : MkR 46 (.int .i64 20) (.int .i64 20) w = .ok (.value (.slice (some ⟨w.heap.size, 0, none⟩) 20 20)) (w.alloc (.cells bytesZ 5)) := by
  obtain ⟨i, hi⟩ : ∃ i, Try.prog.info? 5 = some i := Option.isSome_iff_exists.1 (by kernel_rfl)
  have hz : (Try.prog.info? 5).bind (·.zero) = some (.int .u8 0) := by kernel_rfl
  have hb : (Try.prog.info? 5).map (·.bytes) = some 1 := by kernel_rfl
  have hs : (Try.prog.info? 5).map (·.size) = some 1 := by kernel_rfl
  rw [hi] at hz hb hs
  simp only [Option.bind_some, Option.map_some, Option.some.injEq] at hz hb hs
  have h := run_make (P := Try.prog) w 46 5 i _ Try.underlying46 hi hz .i64 .i64 20 20 (by omega) (by omega) (by rw [hb]; omega) (by omega)
  have e : madeCells (Value.int .u8 0).cells ((20 : Int).toNat * i.size) = bytesZ := by rw [hs]; kernel_rfl
  rw [e] at h
  simp only [MkR, Sem.run_bind, h, Sem.run_pure, Result.andThen_ok]
  rfl

end Go.Proofs.Ytnnikgchffkalaa
