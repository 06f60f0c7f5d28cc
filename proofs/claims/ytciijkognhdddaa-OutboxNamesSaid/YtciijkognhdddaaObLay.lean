/- Effects as values: how they lie, whole loads and stores told at once, when two are the same. -/
import Derived.Test.YtciijkognhdddaaSl
import Derived.Test.YtciijkognhdddaaObPlain
namespace Go.Proofs.Ytciijkognhdddaa
set_option maxRecDepth 100000
open Go.RowKit Go.ChangeShapes Go.WideShapes Go.ChangeAt

def efL (e : Ef) : List Value := [.int .i64 e.key, .int .i64 e.batch, .int .i64 e.due, .int .i64 e.kind, .int .i64 e.tries, .string e.order]
def efC (e : Ef) : Array Value := #[.int .i64 e.key, .int .i64 e.batch, .int .i64 e.due, .int .i64 e.kind, .int .i64 e.tries, .string e.order]
def efV (e : Ef) : Value := .agg (efC e)
theorem efL_arr (e : Ef) : (efL e).toArray = efC e := rfl
def LE : Lay Ef := ⟨efL, 6, 27, 22, efV noEf, 56⟩
theorem LE_ok : LE.Ok where
  len := fun _ => rfl
  one := fun x v h => by
    simp only [LE, efL, List.mem_cons, List.not_mem_nil, or_false] at h
    rcases h with rfl | rfl | rfl | rfl | rfl | rfl <;> rfl
  und := Try.underlying22
  info := by kernel_rfl
  zs := rfl
  pos := by decide
  few := by decide
  agg := fun W => by show (isAgg 27).run Try.prog W = _; kernel_rfl

section
variable (ev : Operand → Value) (d : Option Tmp) (ty : TypeId) (pos : String) (af : Array Edge) (gd : Option (Nat × Bool)) (w : World)
theorem ldEf (x : Operand) : (execOp ev ⟨d, .load 27 x, ty, pos, af, gd⟩).run Try.prog w = LdX 27 (ev x) w := rfl
theorem stEf (x y : Operand) : (execOp ev ⟨d, .store 27 x y, ty, pos, af, gd⟩).run Try.prog w = StX 27 (ev x) (ev y) w := rfl
theorem alEf : (execOp ev ⟨d, .alloc 27, ty, pos, af, gd⟩).run Try.prog w = AlX 27 w := rfl
theorem bxEf (x : Operand) : (execOp ev ⟨d, .box 27 x, ty, pos, af, gd⟩).run Try.prog w = BxX 27 (ev x) w := rfl
theorem eqEf (op : BinOp) (x y : Operand) (z : TypeId) : (execOp ev ⟨d, .binOp op 27 x y z, ty, pos, af, gd⟩).run Try.prog w = EqX op 27 x y (ev x) (ev y) w := rfl
theorem bdEf (ps : Array (Nat × Operand)) : (execOp ev ⟨d, .build 27 ps, ty, pos, af, gd⟩).run Try.prog w = BdX 27 (ps.map fun (i, x) => (i, ev x)) w := rfl
theorem bsEf (n : Nat) (ps : Array (Nat × Operand)) : (execOp ev ⟨d, .buildSlice 22 n ps, ty, pos, af, gd⟩).run Try.prog w = BsX 22 n (ps.map fun (i, x) => (i, ev x)) w := rfl
theorem bd_ef : BdX 27 #[] w = .ok (.value (efV noEf)) w := by kernel_rfl
theorem bs_ef (e : Ef) : BsX 22 1 #[(0, efV e)] w = .ok (.value (.slice (some ⟨w.heap.size, 0, none⟩) 1 1)) (w.alloc (.cells (efC e) 27)) := by kernel_rfl
theorem bs_ef0 : BsX 22 0 #[] w = .ok (.value (.slice (some ⟨w.heap.size, 0, none⟩) 0 0)) (w.alloc (.cells #[] 27)) := by kernel_rfl
theorem zeroEf (W : World) : (zeroValue 27).run Try.prog W = .ok (.agg (efC noEf)) W := by kernel_rfl
theorem al_ef : AlX 27 w = .ok (.value (.pointer (some ⟨w.heap.size, 0, none⟩))) (w.alloc (.cells (efC noEf) 27)) := al_any _ _ w zeroEf
theorem bx_ef (e : Ef) : BxX 27 (efV e) w = .ok (.value (.pointer (some ⟨w.heap.size, 0, none⟩))) (w.alloc (.cells (efC e) 27)) := bx_any _ _ w
theorem guardEf : Try.prog.eqGuardType Try.prog.depth 27 = false := by kernel_rfl
theorem fieldsEf : Try.prog.underlying 27 = some (.struct (Try.prog.fieldsOf 27)) := by kernel_rfl
end

theorem size6 (e : Ef) : (Try.prog.info? 27).map (·.size) = some (efC e).size := by
  show _ = some 6
  kernel_rfl
theorem load6 {W : World} {g : Nat} {e : Ef} (h : Row W g 27 (efC e)) : (loadVar 27 ⟨g, 0, none⟩).run Try.prog W = .ok (.agg (efC e)) W :=
  run_loadVar_row (P := Try.prog) W g 27 27 _ (0, 0) _ h Try.underlying27 rfl (size6 e)
theorem row_set {W : World} {g : Nat} {o : Ef} (h : Row W g 27 (efC o)) (e : Ef) : Row (W.setRow g (efC e)) g 27 (efC e) := setRow_heap _ _ _ _ _ _ h
theorem ld_row {W : World} {g : Nat} {e : Ef} (h : Row W g 27 (efC e)) : LdX 27 (.pointer (some ⟨g, 0, none⟩)) W = .ok (.value (efV e)) W := by
  have := run_loadVar_row (P := Try.prog) W g 27 27 _ (0, 0) _ h Try.underlying27 rfl (size6 e)
  simp only [LdX, Instr.loadAt, Instr.sureAddr, Sem.run_bind, Sem.run_pure, Result.andThen_ok, this]
  rfl
theorem st_row {W : World} {g : Nat} {o : Ef} (h : Row W g 27 (efC o)) (e : Ef) : StX 27 (.pointer (some ⟨g, 0, none⟩)) (efV e) W = .ok .skip (W.setRow g (efC e)) := by
  have := run_storeVar_row (P := Try.prog) W g 27 27 (efC o) (efC e) h (size6 e) rfl (by simp [efC, Value.oneCell'])
  simp only [StX, Instr.storeAt, Instr.sureAddr, Sem.run_bind, Sem.run_pure, Result.andThen_ok, efV]
  rw [this]
  rfl

theorem st_new (W : World) (e : Ef) : StX 27 (.pointer (some ⟨W.heap.size, 0, none⟩)) (efV e) (W.alloc (.cells (efC noEf) 27)) = .ok .skip (W.alloc (.cells (efC e) 27)) := by
  rw [st_row (Row.new W (efC noEf) 27) e, alloc_setRow]

/-- Whether two are the same. -/
def eqB (x y : Ef) : Bool := x.key == y.key && (x.batch == y.batch && (x.due == y.due && (x.kind == y.kind && (x.tries == y.tries && x.order.toList == y.order.toList))))
theorem eqB_iff (x y : Ef) : eqB x y = true ↔ x = y := by
  obtain ⟨a1, a2, a3, a4, a5, a6⟩ := x
  obtain ⟨b1, b2, b3, b4, b5, b6⟩ := y
  simp only [eqB, Bool.and_eq_true, toList_iff]
  simp only [beq_iff_eq, Ef.mk.injEq]
theorem eqB_refl (x : Ef) : eqB x x = true := (eqB_iff x x).2 rfl

end Go.Proofs.Ytciijkognhdddaa
