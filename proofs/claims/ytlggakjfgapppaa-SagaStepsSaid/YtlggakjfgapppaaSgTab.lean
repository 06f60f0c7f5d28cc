/- The document's table. -/
import Derived.Test.YtlggakjfgapppaaSgLay
namespace Go.Proofs.Ytlggakjfgapppaa
set_option maxRecDepth 100000
open Go.RowKit Go.ChangeShapes Go.WideShapes Go.ChangeAt

def tabC (g : Bool) : Array Value := ((List.range 65).flatMap fun i => [Value.int .i64 (rowT g (i / 5) (i % 5)).1, Value.int .i64 (rowT g (i / 5) (i % 5)).2]).toArray
def tabV (g : Bool) : Value := .agg (tabC g)

def zTab : Array Value := (List.replicate 130 (Value.int .i64 0)).toArray
section
variable (ev : Operand → Value) (d : Option Tmp) (ty : TypeId) (pos : String) (af : Array Edge) (gd : Option (Nat × Bool)) (w : World)
theorem alTb : (execOp ev ⟨d, .alloc 44, ty, pos, af, gd⟩).run Try.prog w = AlX 44 w := rfl
theorem bdTb (ps : Array (Nat × Operand)) : (execOp ev ⟨d, .build 44 ps, ty, pos, af, gd⟩).run Try.prog w = BdX 44 (ps.map fun (i, x) => (i, ev x)) w := rfl
theorem ldTb (x : Operand) : (execOp ev ⟨d, .load 44 x, ty, pos, af, gd⟩).run Try.prog w = LdX 44 (ev x) w := rfl
theorem stTb (x y : Operand) : (execOp ev ⟨d, .store 44 x y, ty, pos, af, gd⟩).run Try.prog w = StX 44 (ev x) (ev y) w := rfl
theorem zeroTb (W : World) : (zeroValue 44).run Try.prog W = .ok (.agg zTab) W := by kernel_rfl
theorem bd_tb : BdX 44 #[(1, .agg #[.int .i64 0, .int .i64 0, .int .i64 2, .int .i64 2, .int .i64 11, .int .i64 0, .int .i64 1, .int .i64 0, .int .i64 0, .int .i64 0]), (2, .agg #[.int .i64 0, .int .i64 0, .int .i64 3, .int .i64 0, .int .i64 10, .int .i64 7, .int .i64 2, .int .i64 0, .int .i64 0, .int .i64 0]), (3, .agg #[.int .i64 0, .int .i64 0, .int .i64 0, .int .i64 0, .int .i64 0, .int .i64 0, .int .i64 9, .int .i64 6, .int .i64 4, .int .i64 0]), (4, .agg #[.int .i64 0, .int .i64 0, .int .i64 5, .int .i64 0, .int .i64 9, .int .i64 6, .int .i64 4, .int .i64 0, .int .i64 0, .int .i64 0]), (5, .agg #[.int .i64 0, .int .i64 0, .int .i64 0, .int .i64 0, .int .i64 0, .int .i64 0, .int .i64 9, .int .i64 6, .int .i64 6, .int .i64 0]), (6, .agg #[.int .i64 0, .int .i64 0, .int .i64 7, .int .i64 5, .int .i64 9, .int .i64 6, .int .i64 (-1), .int .i64 0, .int .i64 0, .int .i64 0]), (7, .agg #[.int .i64 0, .int .i64 0, .int .i64 8, .int .i64 0, .int .i64 7, .int .i64 5, .int .i64 (-1), .int .i64 0, .int .i64 0, .int .i64 0]), (8, .agg #[.int .i64 0, .int .i64 0, .int .i64 0, .int .i64 0, .int .i64 0, .int .i64 0, .int .i64 (-1), .int .i64 0, .int .i64 0, .int .i64 0]), (9, .agg #[.int .i64 0, .int .i64 0, .int .i64 10, .int .i64 7, .int .i64 9, .int .i64 6, .int .i64 9, .int .i64 0, .int .i64 0, .int .i64 0]), (10, .agg #[.int .i64 0, .int .i64 0, .int .i64 11, .int .i64 0, .int .i64 10, .int .i64 7, .int .i64 10, .int .i64 0, .int .i64 0, .int .i64 0]), (11, .agg #[.int .i64 0, .int .i64 0, .int .i64 0, .int .i64 0, .int .i64 0, .int .i64 0, .int .i64 11, .int .i64 0, .int .i64 0, .int .i64 0]), (12, .agg #[.int .i64 0, .int .i64 0, .int .i64 0, .int .i64 0, .int .i64 0, .int .i64 0, .int .i64 (-1), .int .i64 0, .int .i64 0, .int .i64 0])] w = .ok (.value (tabV false)) w := by kernel_rfl
theorem stRw (x y : Operand) : (execOp ev ⟨d, .store 42 x y, ty, pos, af, gd⟩).run Try.prog w = StX 42 (ev x) (ev y) w := rfl
theorem al_tb : AlX 44 w = .ok (.value (.pointer (some ⟨w.heap.size, 0, none⟩))) (w.alloc (.cells zTab 44)) := al_any _ _ w zeroTb
end
theorem sizeTb (g : Bool) : (Try.prog.info? 44).map (·.size) = some (tabC g).size := by cases g <;> kernel_rfl
theorem load_tb {W : World} {k : Nat} {g : Bool} (h : Row W k 44 (tabC g)) : (loadVar 44 ⟨k, 0, none⟩).run Try.prog W = .ok (.agg (tabC g)) W :=
  run_loadVar_row (P := Try.prog) W k 44 44 _ (0, 0) _ h Try.underlying44 rfl (sizeTb g)
theorem ld_tb {W : World} {k : Nat} {g : Bool} (h : Row W k 44 (tabC g)) : LdX 44 (.pointer (some ⟨k, 0, none⟩)) W = .ok (.value (tabV g)) W := by
  simp only [LdX, Instr.loadAt, Instr.sureAddr, Sem.run_bind, Sem.run_pure, Result.andThen_ok, load_tb h]
  rfl
theorem st_tb {W : World} {k : Nat} {old : Array Value} (h : Row W k 44 old) (hs : old.size = 130) (g : Bool) : StX 44 (.pointer (some ⟨k, 0, none⟩)) (tabV g) W = .ok .skip (W.setRow k (tabC g)) := by
  have := run_storeVar_row (P := Try.prog) W k 44 44 old (tabC g) h (sizeTb g) (by rw [hs]; cases g <;> kernel_rfl) (by cases g <;> kernel_rfl)
  simp only [StX, Instr.storeAt, Instr.sureAddr, Sem.run_bind, Sem.run_pure, Result.andThen_ok, tabV]
  rw [this]
  rfl
theorem st_tbnew (W : World) (g : Bool) : StX 44 (.pointer (some ⟨W.heap.size, 0, none⟩)) (tabV g) (W.alloc (.cells zTab 44)) = .ok .skip (W.alloc (.cells (tabC g) 44)) := by
  rw [st_tb (Row.new W zTab 44) (by kernel_rfl) g, alloc_setRow]
/-- One of its rows' places is turned. -/
theorem st_rw (W : World) (cs : Array Value) (i : Nat) (a b : Int) (hi : i + 1 < cs.size) : StX 42 (.pointer (some ⟨W.heap.size, i, none⟩)) (.agg #[.int .i64 a, .int .i64 b]) (W.alloc (.cells cs 44)) = .ok .skip (W.alloc (.cells ((cs.setIfInBounds i (.int .i64 a)).setIfInBounds (i + 1) (.int .i64 b)) 44)) := by
  have R := Row.new W cs 44
  have := st_cells (w := W.alloc (.cells cs 44)) (b := W.heap.size) (o := i) 42 [.int .i64 a, .int .i64 b] (fun j hj => by
    rw [R.cell, Array.getElem?_eq_getElem (by simp at hj; omega)]; rfl) (fun j _ => R.free _) (by intro v hv; simp at hv; rcases hv with rfl | rfl <;> rfl) (fun W => by kernel_rfl)
  rw [show ([Value.int .i64 a, .int .i64 b] : List Value).toArray = #[.int .i64 a, .int .i64 b] from rfl] at this
  rw [this]
  simp only [World.setCells, World.setCell_alloc_new]
def tab1 : Array Value := ((tabC false).setIfInBounds 12 (.int .i64 10)).setIfInBounds 13 (.int .i64 7)
def tab2 : Array Value := (tab1.setIfInBounds 22 (.int .i64 9)).setIfInBounds 23 (.int .i64 6)
theorem tab_three : (tab2.setIfInBounds 42 (.int .i64 9)).setIfInBounds 43 (.int .i64 6) = tabC true := by kernel_rfl
theorem tab_sizes : (tabC false).size = 130 ∧ tab1.size = 130 ∧ tab2.size = 130 := ⟨by kernel_rfl, by kernel_rfl, by kernel_rfl⟩
attribute [local go_sem ↓] alTb bdTb ldTb stTb stRw
attribute [local go_sem] al_tb bd_tb st_tbnew

set_option maxHeartbeats 2000000 in
theorem table_any (g : Bool) (w : World) : Calls Try.prog 18 #[.bool g] w fun e w' => e = .returned (tabV g) ∧ Below w.heap.size w w' := by
  have W0 := Lib.hid (Row.new w zTab 44)
  have hsz : (w.alloc (.cells zTab 44)).heap.size = w.heap.size + 1 := by simp
  have B0 := Lib.hid ((Below.refl w.heap.size w).alloc (Nat.le_refl _) (.cells zTab 44))
  obtain ⟨z0, z1, z2⟩ := tab_sizes
  generalize hV : w.alloc (.cells zTab 44) = V at *
  have s0 : StX 44 (.pointer (some ⟨w.heap.size + 1, 0, none⟩)) (tabV false) (V.alloc (.cells zTab 44)) = .ok .skip (V.alloc (.cells (tabC false) 44)) := by
    have := st_tbnew V false
    rwa [hsz] at this
  have s1 : StX 42 (.pointer (some ⟨w.heap.size + 1, 12, none⟩)) (.agg #[.int .i64 10, .int .i64 7]) (V.alloc (.cells (tabC false) 44)) = .ok .skip (V.alloc (.cells tab1 44)) := by
    have := st_rw V (tabC false) 12 10 7 (by rw [z0]; decide)
    rwa [hsz] at this
  have s2 : StX 42 (.pointer (some ⟨w.heap.size + 1, 22, none⟩)) (.agg #[.int .i64 9, .int .i64 6]) (V.alloc (.cells tab1 44)) = .ok .skip (V.alloc (.cells tab2 44)) := by
    have := st_rw V tab1 22 9 6 (by rw [z1]; decide)
    rwa [hsz] at this
  have s3 : StX 42 (.pointer (some ⟨w.heap.size + 1, 42, none⟩)) (.agg #[.int .i64 9, .int .i64 6]) (V.alloc (.cells tab2 44)) = .ok .skip (V.alloc (.cells (tabC true) 44)) := by
    have := st_rw V tab2 42 9 6 (by rw [z2]; decide)
    rwa [hsz, tab_three] at this
  have R : ∀ g, Row (V.alloc (.cells (tabC g) 44)) (w.heap.size + 1) 44 (tabC g) := fun g => by
    have := Row.new V (tabC g) 44
    rwa [hsz] at this
  have ld := fun g => ld_tb (R g)
  have W1 := Lib.hid (fun g => W0.out.more (.cells (tabC g) 44))
  have st := fun g => st_tb (W1.out g) (by kernel_rfl) g
  have B1 := Lib.hid (fun g => Below.row (B0.out.alloc B0.out.size (.cells (tabC g) 44)) (Nat.le_refl _) (tabC g))
  clear R z0 z1 z2
  cases g
  all_goals
    go_enter Try.func18, Try.ntmps18
    go_wp2_with fail
    (try simp only [Exit.inBlock, Exit.then])
  · refine bodyPost_ret (v := tabV false) ?_ rfl ⟨rfl, B1.out false⟩
    exact results_cell_row rfl _ _ w.heap.size 44 _ (0, 0) _ rfl (setRow_heap _ _ _ _ _ _ (W1.out false)) Try.underlying44 rfl (sizeTb false)
  · refine bodyPost_ret (v := tabV true) ?_ rfl ⟨rfl, B1.out true⟩
    exact results_cell_row rfl _ _ w.heap.size 44 _ (0, 0) _ rfl (setRow_heap _ _ _ _ _ _ (W1.out true)) Try.underlying44 rfl (sizeTb true)

end Go.Proofs.Ytlggakjfgapppaa
