/- A command as a value: how it lies, whole loads, stores and new variables told at once; a command that came in. -/
import Derived.Test.YtfmpibmhhfmajaaGreatDoorSnPlain
namespace Go.Proofs.YtfmpibmhhfmajaaGreatDoor
set_option maxRecDepth 100000
open Go.RowKit Go.ChangeShapes Go.WideShapes Go.ChangeAt

/-- A command, and where its lines lie. -/
structure CmR where
  m : Cm
  a : Option Addr
  c : Nat
def noCmR : CmR := ⟨noCm, none, 0⟩
def cmC (r : CmR) : Array Value := #[.int .i64 r.m.kind, .string r.m.id, .slice r.a r.m.ls.length r.c, .string r.m.car, .string r.m.zone, .string r.m.serv, .int .i64 r.m.total, .int .i64 r.m.number, .bool r.m.yes]
def cmV (r : CmR) : Value := .agg (cmC r)
structure CmP (w : World) (r : CmR) : Prop where
  lns : LnsP w r.a r.c r.m.ls
  len : r.m.ls.length ≤ maxLen
  id : r.m.id.size ≤ maxLen
  car : r.m.car.size ≤ maxLen
  zone : r.m.zone.size ≤ maxLen
  serv : r.m.serv.size ≤ maxLen
theorem CmP.below {w w' : World} {r : CmR} (h : CmP w r) (hb : Below w.heap.size w w') : CmP w' r := ⟨h.lns.below hb, h.len, h.id, h.car, h.zone, h.serv⟩
theorem CmP.none (w : World) : CmP w noCmR := ⟨LnsP.nil _ _ _, by decide, by decide, by decide, by decide, by decide⟩

section
variable (ev : Operand → Value) (d : Option Tmp) (ty : TypeId) (pos : String) (af : Array Edge) (gd : Option (Nat × Bool)) (w : World)
theorem ldCm (x : Operand) : (execOp ev ⟨d, .load 26 x, ty, pos, af, gd⟩).run Tryz.prog w = LdX 26 (ev x) w := rfl
theorem stCm (x y : Operand) : (execOp ev ⟨d, .store 26 x y, ty, pos, af, gd⟩).run Tryz.prog w = StX 26 (ev x) (ev y) w := rfl
theorem alCm : (execOp ev ⟨d, .alloc 26, ty, pos, af, gd⟩).run Tryz.prog w = AlX 26 w := rfl
theorem bxCm (x : Operand) : (execOp ev ⟨d, .box 26 x, ty, pos, af, gd⟩).run Tryz.prog w = BxX 26 (ev x) w := rfl
theorem bdCm (ps : Array (Nat × Operand)) : (execOp ev ⟨d, .build 26 ps, ty, pos, af, gd⟩).run Tryz.prog w = BdX 26 (ps.map fun (i, x) => (i, ev x)) w := rfl
theorem bd_cm : BdX 26 #[] w = .ok (.value (cmV noCmR)) w := by kernel_rfl
def kindR (k : Int) : CmR := ⟨⟨k, ⟨#[]⟩, [], ⟨#[]⟩, ⟨#[]⟩, ⟨#[]⟩, 0, 0, false⟩, none, 0⟩
theorem bd_cmKind (k : Int) : BdX 26 #[(0, .int .i64 k)] w = .ok (.value (cmV (kindR k))) w := by kernel_rfl
theorem zeroCm (W : World) : (zeroValue 26).run Tryz.prog W = .ok (.agg (cmC noCmR)) W := by kernel_rfl
theorem al_cm : AlX 26 w = .ok (.value (.pointer (some ⟨w.heap.size, 0, none⟩))) (w.alloc (.cells (cmC noCmR) 26)) := al_any _ _ w zeroCm
theorem bx_cm (r : CmR) : BxX 26 (cmV r) w = .ok (.value (.pointer (some ⟨w.heap.size, 0, none⟩))) (w.alloc (.cells (cmC r) 26)) := bx_any _ _ w
end
theorem sizeCm (r : CmR) : (Tryz.prog.info? 26).map (·.size) = some (cmC r).size := by
  show _ = some 9
  kernel_rfl
theorem st_cm {W : World} {g : Nat} {o : CmR} (h : Row W g 26 (cmC o)) (r : CmR) : StX 26 (.pointer (some ⟨g, 0, none⟩)) (cmV r) W = .ok .skip (W.setRow g (cmC r)) := by
  have := run_storeVar_row (P := Tryz.prog) W g 26 26 (cmC o) (cmC r) h (sizeCm r) rfl (by simp [cmC, Value.oneCell'])
  simp only [StX, Instr.storeAt, Instr.sureAddr, Sem.run_bind, Sem.run_pure, Result.andThen_ok, cmV]
  rw [this]
  rfl
theorem st_cmnew (W : World) (r : CmR) : StX 26 (.pointer (some ⟨W.heap.size, 0, none⟩)) (cmV r) (W.alloc (.cells (cmC noCmR) 26)) = .ok .skip (W.alloc (.cells (cmC r) 26)) := by
  rw [st_cm (Row.new W (cmC noCmR) 26) r, alloc_setRow]
theorem Row.m {W : World} {g : Nat} {r : CmR} (h : Row W g 26 (cmC r)) :
    (W.cell? ⟨g, 0, none⟩ = some (.int .i64 r.m.kind) ∧ W.cell? ⟨g, 1, none⟩ = some (.string r.m.id) ∧ W.cell? ⟨g, 2, none⟩ = some (.slice r.a r.m.ls.length r.c) ∧ W.cell? ⟨g, 3, none⟩ = some (.string r.m.car) ∧ W.cell? ⟨g, 4, none⟩ = some (.string r.m.zone)) ∧
    W.cell? ⟨g, 5, none⟩ = some (.string r.m.serv) ∧ W.cell? ⟨g, 6, none⟩ = some (.int .i64 r.m.total) ∧ W.cell? ⟨g, 7, none⟩ = some (.int .i64 r.m.number) ∧ W.cell? ⟨g, 8, none⟩ = some (.bool r.m.yes) :=
  ⟨⟨h.cell 0, h.cell 1, h.cell 2, h.cell 3, h.cell 4⟩, h.cell 5, h.cell 6, h.cell 7, h.cell 8⟩
end Go.Proofs.YtfmpibmhhfmajaaGreatDoor
