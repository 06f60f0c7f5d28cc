/- Acts in variables: what loads, stores and new variables of them come to. -/
import Derived.Test.YtciijkognhdddaaObArgs
namespace Go.Proofs.Ytciijkognhdddaa
set_option maxRecDepth 100000
open Go.RowKit Go.ChangeShapes Go.WideShapes Go.ChangeAt

def acC (x : Ac) : Array Value := #[.int .i64 x.kind, .int .i64 x.ef.key, .int .i64 x.ef.batch, .int .i64 x.ef.due, .int .i64 x.ef.kind, .int .i64 x.ef.tries, .string x.ef.order, .int .i64 x.now]
def acV (x : Ac) : Value := .agg (acC x)
def noAc : Ac := ⟨0, noEf, 0⟩
section
variable (ev : Operand → Value) (d : Option Tmp) (ty : TypeId) (pos : String) (af : Array Edge) (gd : Option (Nat × Bool)) (w : World)
theorem ldAc (x : Operand) : (execOp ev ⟨d, .load 35 x, ty, pos, af, gd⟩).run Try.prog w = LdX 35 (ev x) w := rfl
theorem stAc (x y : Operand) : (execOp ev ⟨d, .store 35 x y, ty, pos, af, gd⟩).run Try.prog w = StX 35 (ev x) (ev y) w := rfl
theorem alAc : (execOp ev ⟨d, .alloc 35, ty, pos, af, gd⟩).run Try.prog w = AlX 35 w := rfl
theorem zeroAc (W : World) : (zeroValue 35).run Try.prog W = .ok (.agg (acC noAc)) W := by kernel_rfl
theorem al_ac : AlX 35 w = .ok (.value (.pointer (some ⟨w.heap.size, 0, none⟩))) (w.alloc (.cells (acC noAc) 35)) := al_any _ _ w zeroAc
end
theorem size8 (x : Ac) : (Try.prog.info? 35).map (·.size) = some (acC x).size := by
  show _ = some 8
  kernel_rfl
theorem stA_row {W : World} {g : Nat} {o : Ac} (h : Row W g 35 (acC o)) (e : Ac) : StX 35 (.pointer (some ⟨g, 0, none⟩)) (acV e) W = .ok .skip (W.setRow g (acC e)) := by
  have := run_storeVar_row (P := Try.prog) W g 35 35 (acC o) (acC e) h (size8 e) rfl (by simp [acC, Value.oneCell'])
  simp only [StX, Instr.storeAt, Instr.sureAddr, Sem.run_bind, Sem.run_pure, Result.andThen_ok, acV]
  rw [this]
  rfl
theorem stA_new (W : World) (e : Ac) : StX 35 (.pointer (some ⟨W.heap.size, 0, none⟩)) (acV e) (W.alloc (.cells (acC noAc) 35)) = .ok .skip (W.alloc (.cells (acC e) 35)) := by
  rw [stA_row (Row.new W (acC noAc) 35) e, alloc_setRow]
/-- The act at a place. -/
theorem SlP.ac {w : World} {a : Option Addr} {cap : Nat} {l : List Ac} (h : SlP LA w a cap l) (j : Nat) (hj : j < l.length) :
    ∃ b o, a = some ⟨b, o, none⟩ ∧ b < w.heap.size ∧ LdX 35 (.pointer (some ⟨b, o + j * 8, none⟩)) w = .ok (.value (acV l[j])) w := by
  obtain ⟨b, o, e, hb, _, hl⟩ := h.at LA_ok j hj
  exact ⟨b, o, e, hb, hl⟩
/-- An act in a variable: its cells, and its effect whole. -/
theorem Row.ac {W : World} {g : Nat} {x : Ac} (h : Row W g 35 (acC x)) : W.cell? ⟨g, 0, none⟩ = some (.int .i64 x.kind) ∧ W.cell? ⟨g, 1, none⟩ = some (.int .i64 x.ef.key) ∧ W.cell? ⟨g, 6, none⟩ = some (.string x.ef.order) ∧ W.cell? ⟨g, 7, none⟩ = some (.int .i64 x.now) ∧ LdX 27 (.pointer (some ⟨g, 1, none⟩)) W = .ok (.value (efV x.ef)) W := by
  refine ⟨h.cell 0, h.cell 1, h.cell 6, h.cell 7, ?_⟩
  exact ld_cells (b := g) (o := 1) 27 (efL x.ef) (fun j v hj => by
    match j, hj with
    | 0, hj => injection hj with hj; subst hj; exact h.cell 1
    | 1, hj => injection hj with hj; subst hj; exact h.cell 2
    | 2, hj => injection hj with hj; subst hj; exact h.cell 3
    | 3, hj => injection hj with hj; subst hj; exact h.cell 4
    | 4, hj => injection hj with hj; subst hj; exact h.cell 5
    | 5, hj => injection hj with hj; subst hj; exact h.cell 6
    | _ + 6, hj => cases hj) LE_ok.agg (fun W => LE_ok.sz W)

end Go.Proofs.Ytciijkognhdddaa
