/- A saga as a value: whole loads and stores told at once, when two are the same. -/
import Derived.Test.YtlggakjfgapppaaRw
import Derived.Test.YtlggakjfgapppaaSgPlain
namespace Go.Proofs.Ytlggakjfgapppaa
set_option maxRecDepth 100000
open Go.RowKit Go.ChangeShapes Go.WideShapes Go.ChangeAt

def sgC (s : Sg) : Array Value := #[.int .i64 s.phase, .bool s.given, .int .i64 s.ref]
def sgV (s : Sg) : Value := .agg (sgC s)
def noSg : Sg := ⟨0, false, 0⟩
section
variable (ev : Operand → Value) (d : Option Tmp) (ty : TypeId) (pos : String) (af : Array Edge) (gd : Option (Nat × Bool)) (w : World)
theorem ldSg (x : Operand) : (execOp ev ⟨d, .load 25 x, ty, pos, af, gd⟩).run Try.prog w = LdX 25 (ev x) w := rfl
theorem stSg (x y : Operand) : (execOp ev ⟨d, .store 25 x y, ty, pos, af, gd⟩).run Try.prog w = StX 25 (ev x) (ev y) w := rfl
theorem alSg : (execOp ev ⟨d, .alloc 25, ty, pos, af, gd⟩).run Try.prog w = AlX 25 w := rfl
theorem bxSg (x : Operand) : (execOp ev ⟨d, .box 25 x, ty, pos, af, gd⟩).run Try.prog w = BxX 25 (ev x) w := rfl
theorem eqSg (op : BinOp) (x y : Operand) (z : TypeId) : (execOp ev ⟨d, .binOp op 25 x y z, ty, pos, af, gd⟩).run Try.prog w = EqX op 25 x y (ev x) (ev y) w := rfl
theorem bdSg (ps : Array (Nat × Operand)) : (execOp ev ⟨d, .build 25 ps, ty, pos, af, gd⟩).run Try.prog w = BdX 25 (ps.map fun (i, x) => (i, ev x)) w := rfl
theorem bd_sg (p : Int) : BdX 25 #[(0, .int .i64 p)] w = .ok (.value (sgV ⟨p, false, 0⟩)) w := by kernel_rfl
theorem bd_sg0 : BdX 25 #[] w = .ok (.value (sgV noSg)) w := by kernel_rfl
theorem zeroSg (W : World) : (zeroValue 25).run Try.prog W = .ok (.agg (sgC noSg)) W := by kernel_rfl
theorem al_sg : AlX 25 w = .ok (.value (.pointer (some ⟨w.heap.size, 0, none⟩))) (w.alloc (.cells (sgC noSg) 25)) := al_any _ _ w zeroSg
theorem bx_sg (s : Sg) : BxX 25 (sgV s) w = .ok (.value (.pointer (some ⟨w.heap.size, 0, none⟩))) (w.alloc (.cells (sgC s) 25)) := bx_any _ _ w
theorem guardSg : Try.prog.eqGuardType Try.prog.depth 25 = false := by kernel_rfl
theorem fieldsSg : Try.prog.underlying 25 = some (.struct (Try.prog.fieldsOf 25)) := by kernel_rfl
end
theorem size3 (s : Sg) : (Try.prog.info? 25).map (·.size) = some (sgC s).size := by
  show _ = some 3
  kernel_rfl
theorem load3 {W : World} {g : Nat} {s : Sg} (h : Row W g 25 (sgC s)) : (loadVar 25 ⟨g, 0, none⟩).run Try.prog W = .ok (.agg (sgC s)) W :=
  run_loadVar_row (P := Try.prog) W g 25 25 _ (0, 0) _ h Try.underlying25 rfl (size3 s)
theorem sg_set {W : World} {g : Nat} {o : Sg} (h : Row W g 25 (sgC o)) (s : Sg) : Row (W.setRow g (sgC s)) g 25 (sgC s) := setRow_heap _ _ _ _ _ _ h
theorem ld_sg {W : World} {g : Nat} {s : Sg} (h : Row W g 25 (sgC s)) : LdX 25 (.pointer (some ⟨g, 0, none⟩)) W = .ok (.value (sgV s)) W := by
  simp only [LdX, Instr.loadAt, Instr.sureAddr, Sem.run_bind, Sem.run_pure, Result.andThen_ok, load3 h]
  rfl
theorem st_sg {W : World} {g : Nat} {o : Sg} (h : Row W g 25 (sgC o)) (s : Sg) : StX 25 (.pointer (some ⟨g, 0, none⟩)) (sgV s) W = .ok .skip (W.setRow g (sgC s)) := by
  have := run_storeVar_row (P := Try.prog) W g 25 25 (sgC o) (sgC s) h (size3 s) rfl (by simp [sgC, Value.oneCell'])
  simp only [StX, Instr.storeAt, Instr.sureAddr, Sem.run_bind, Sem.run_pure, Result.andThen_ok, sgV]
  rw [this]
  rfl
theorem st_sgnew (W : World) (s : Sg) : StX 25 (.pointer (some ⟨W.heap.size, 0, none⟩)) (sgV s) (W.alloc (.cells (sgC noSg) 25)) = .ok .skip (W.alloc (.cells (sgC s) 25)) := by
  rw [st_sg (Row.new W (sgC noSg) 25) s, alloc_setRow]
theorem Row.s {W : World} {g : Nat} {s : Sg} (h : Row W g 25 (sgC s)) : (W.cell? ⟨g, 0, none⟩ = some (.int .i64 s.phase) ∧ W.cell? ⟨g, 1, none⟩ = some (.bool s.given) ∧ W.cell? ⟨g, 2, none⟩ = some (.int .i64 s.ref)) ∧ W.frozen? ⟨g, 0, none⟩ = false ∧ W.frozen? ⟨g, 1, none⟩ = false ∧ W.frozen? ⟨g, 2, none⟩ = false :=
  ⟨⟨h.cell 0, h.cell 1, h.cell 2⟩, h.free 0, h.free 1, h.free 2⟩
theorem Row.more {w : World} {g : Nat} {T : TypeId} {cs : Array Value} (h : Row w g T cs) (o : Obj) : Row (w.alloc o) g T cs := h.below ((Below.refl _ _).alloc (Nat.le_refl _) o)

/-- Whether two are the same. -/
def sgEq (x y : Sg) : Bool := x.phase == y.phase && (x.given == y.given && x.ref == y.ref)
theorem sgEq_iff (x y : Sg) : sgEq x y = true ↔ x = y := by
  obtain ⟨a1, a2, a3⟩ := x
  obtain ⟨b1, b2, b3⟩ := y
  simp only [sgEq, Bool.and_eq_true, beq_iff_eq, Sg.mk.injEq]
theorem sgEq_self (x : Sg) : sgEq x x = true := (sgEq_iff x x).2 rfl
theorem stoodSg : Try.prog.stoodInHeld 25 = false := by kernel_rfl
set_option maxHeartbeats 4000000 in
theorem run_eq_sg (w : World) (x y : Sg) : (Op.equalIn 10000 25 (sgV x) (sgV y)).run Try.prog w = .ok (sgEq x y) w := by
  unfold sgV
  rw [run_equalIn_struct w 9999 25 _ _ fieldsSg stoodSg]
  have hf : (Try.prog.fieldsOf 25).toList = (match Try.prog.underlying 25 with | some (.struct fs) => fs | _ => #[]).toList := rfl
  rw [hf, Try.underlying25]
  simp only [sgC]
  unfold sgEq
  cases h1 : x.phase == y.phase
  · go_simp
  · cases h2 : x.given == y.given
    · go_simp
    · cases h3 : x.ref == y.ref
      · go_simp
      · go_simp
theorem ne_sg (w : World) (x y : Sg) (a b : Operand) : EqX .neq 25 a b (sgV x) (sgV y) w = .ok (.value (.bool (!(sgEq x y)))) w := by
  have h := run_eq_sg w x y
  unfold sgV at *
  simp only [EqX, Sem.run_bind, Sem.run_pure, Result.andThen_ok, run_eqGuard_agg w .neq 25 a b (sgC x) (sgC y) guardSg, run_neq_struct, h]
theorem eq_sg (w : World) (x y : Sg) (a b : Operand) : EqX .eql 25 a b (sgV x) (sgV y) w = .ok (.value (.bool (sgEq x y))) w := by
  have h := run_eq_sg w x y
  unfold sgV at *
  simp only [EqX, Sem.run_bind, Sem.run_pure, Result.andThen_ok, run_eqGuard_agg w .eql 25 a b (sgC x) (sgC y) guardSg, run_eql_struct, h]

theorem results_cell_two {fn : Func} {p u v : Tmp} {ty : TypeId} (h : fn.results = #[.cell p ty, .tmp u, .tmp v]) (tmps : Array Value) (w : World) (g : Nat) (cs : Array Value)
    (hp : tmps.getD p undef = .pointer (some ⟨g, 0, none⟩)) (hl : (loadVar ty ⟨g, 0, none⟩).run Try.prog w = .ok (.agg cs) w) :
    (results fn tmps).run Try.prog w = .ok (.tuple #[.agg cs, tmps.getD u undef, tmps.getD v undef]) w := by
  have hp' : tmps[p]?.getD undef = .pointer (some ⟨g, 0, none⟩) := by simpa using hp
  simp [results, h, hp', asAddr, hl]

/-- A saga, what it asks for and an error's number are answered; all that was there stays. -/
def StepP (r : Sg × Int × Int) (w : World) (e : Ending) (w' : World) : Prop := e = .returned (.tuple #[sgV r.1, .int .i64 r.2.1, .int .i64 r.2.2]) ∧ Below w.heap.size w w'
/-- A number is answered; all that was there stays. -/
def NumP (n : Int) (w : World) (e : Ending) (w' : World) : Prop := e = .returned (.int .i64 n) ∧ Below w.heap.size w w'

end Go.Proofs.Ytlggakjfgapppaa
