/- Whole batches and caps in variables: what loads, stores and new variables of them come to, each told at once. -/
import Derived.Test.YtieoihmndpkdoaaBtOwn
import Derived.Laws.Rows
import Derived.Laws.Tables
namespace Go.Proofs.Ytieoihmndpkdoaa
set_option maxRecDepth 100000
open Go.RowKit Go.ChangeShapes Go.WideShapes Go.ChangeAt

/-- What an operation comes to, with its operands told. -/
noncomputable def LdX (t : TypeId) (p : Value) (w : World) : Result Next := (do pure (Next.value (← Instr.loadAt t p)) : Sem Next).run Try.prog w
noncomputable def StX (t : TypeId) (p v : Value) (w : World) : Result Next := (do Instr.storeAt t p v; pure Next.skip : Sem Next).run Try.prog w
noncomputable def AlX (t : TypeId) (w : World) : Result Next := (do pure (Next.value (← Instr.alloc t true (.tuple #[]))) : Sem Next).run Try.prog w
noncomputable def BxX (t : TypeId) (v : Value) (w : World) : Result Next := (do pure (Next.value (← Instr.box t v)) : Sem Next).run Try.prog w

section
variable (ev : Operand → Value) (d : Option Tmp) (ty : TypeId) (pos : String) (af : Array Edge) (gd : Option (Nat × Bool)) (w : World)

theorem ldBt (x : Operand) : (execOp ev ⟨d, .load 28 x, ty, pos, af, gd⟩).run Try.prog w = LdX 28 (ev x) w := rfl
theorem stBt (x y : Operand) : (execOp ev ⟨d, .store 28 x y, ty, pos, af, gd⟩).run Try.prog w = StX 28 (ev x) (ev y) w := rfl
theorem alBt : (execOp ev ⟨d, .alloc 28, ty, pos, af, gd⟩).run Try.prog w = AlX 28 w := rfl
theorem bxBt (x : Operand) : (execOp ev ⟨d, .box 28 x, ty, pos, af, gd⟩).run Try.prog w = BxX 28 (ev x) w := rfl
theorem ldCp (x : Operand) : (execOp ev ⟨d, .load 23 x, ty, pos, af, gd⟩).run Try.prog w = LdX 23 (ev x) w := rfl

theorem bxCp (x : Operand) : (execOp ev ⟨d, .box 23 x, ty, pos, af, gd⟩).run Try.prog w = BxX 23 (ev x) w := rfl
theorem zeroBt (W : World) : (zeroValue 28).run Try.prog W = .ok (.agg zB) W := by kernel_rfl
theorem al_bt : AlX 28 w = .ok (.value (.pointer (some ⟨w.heap.size, 0, none⟩))) (w.alloc (.cells zB 28)) := by
  simp only [AlX, Sem.run_bind, Instr.alloc, zeroBt, newVar, newRow, run_newObj_alloc, Sem.run_pure, Result.andThen_ok, Value.cells]
theorem bx_bt (a : Option Addr) (cap : Nat) (b : Bt) : BxX 28 (btV a cap b) w = .ok (.value (.pointer (some ⟨w.heap.size, 0, none⟩))) (w.alloc (.cells (btC a cap b) 28)) := by
  unfold btV
  simp only [BxX, Sem.run_bind, Instr.box, newVar, newRow, run_newObj_alloc, Sem.run_pure, Result.andThen_ok, Value.cells]
  rfl
theorem bx_cp (c : Cp) : BxX 23 (cpV c) w = .ok (.value (.pointer (some ⟨w.heap.size, 0, none⟩))) (w.alloc (.cells #[.int .i64 c.count, .int .i64 c.wt] 23)) := by
  unfold cpV
  simp only [BxX, Sem.run_bind, Instr.box, newVar, newRow, run_newObj_alloc, Sem.run_pure, Result.andThen_ok, Value.cells]
end

theorem ld_bt {W : World} {g : Nat} {a : Option Addr} {cap : Nat} {b : Bt} (h : Row W g 28 (btC a cap b)) : LdX 28 (.pointer (some ⟨g, 0, none⟩)) W = .ok (.value (btV a cap b)) W := by
  simp only [LdX, Instr.loadAt, Instr.sureAddr, Sem.run_bind, Sem.run_pure, Result.andThen_ok, load9 h]
theorem st_bt {W : World} {g : Nat} {old : Array Value} (h : Row W g 28 old) (h9 : old.size = 9) (a : Option Addr) (cap : Nat) (b : Bt) : StX 28 (.pointer (some ⟨g, 0, none⟩)) (btV a cap b) W = .ok .skip (W.setRow g (btC a cap b)) := by
  have := run_storeVar_row (P := Try.prog) W g 28 28 old (btC a cap b) h (size9 _ _ _ _ _ _ _ _ _) h9 (by simp [btC, Value.oneCell'])
  simp only [StX, Instr.storeAt, Instr.sureAddr, Sem.run_bind, Sem.run_pure, Result.andThen_ok, btV]
  unfold btC at this
  rw [this]
  rfl
theorem sizeCp (x0 x1 : Value) : (Try.prog.info? 23).map (·.size) = some #[x0, x1].size := by
  show _ = some 2
  kernel_rfl
theorem ld_cp {W : World} {g : Nat} {c : Cp} (h : Row W g 23 #[.int .i64 c.count, .int .i64 c.wt]) : LdX 23 (.pointer (some ⟨g, 0, none⟩)) W = .ok (.value (cpV c)) W := by
  have := run_loadVar_row (P := Try.prog) W g 23 23 _ (0, 0) _ h Try.underlying23 rfl (sizeCp _ _)
  simp only [LdX, Instr.loadAt, Instr.sureAddr, Sem.run_bind, Sem.run_pure, Result.andThen_ok, this]
  rfl

/-- There is a variable for a batch. -/
def Slot (W : World) (g : Nat) : Prop := ∃ old, Row W g 28 old ∧ old.size = 9
theorem Slot.new (W : World) : Slot (W.alloc (.cells zB 28)) W.heap.size := ⟨zB, heap_alloc_new _ _, rfl⟩
theorem Slot.below {W W' : World} {g : Nat} (h : Slot W g) (b : Below W.heap.size W W') : Slot W' g := by
  obtain ⟨old, h1, h2⟩ := h
  exact ⟨old, h1.below b, h2⟩
theorem below_drew (W : World) : Below W.heap.size W W.drew := ⟨rfl, rfl, rfl, Nat.le_refl _, fun _ _ => rfl⟩
theorem Slot.lt {W : World} {g : Nat} (h : Slot W g) : g < W.heap.size := by
  obtain ⟨old, h1, _⟩ := h
  exact h1.lt
theorem Slot.drew {W : World} {g : Nat} (h : Slot W g) : Slot W.drew g := h
theorem Slot.store {W : World} {g : Nat} (h : Slot W g) (a : Option Addr) (cap : Nat) (b : Bt) : StX 28 (.pointer (some ⟨g, 0, none⟩)) (btV a cap b) W = .ok .skip (W.setRow g (btC a cap b)) := by
  obtain ⟨old, h1, h2⟩ := h
  exact st_bt h1 h2 a cap b
theorem Slot.row {W : World} {g : Nat} (h : Slot W g) (a : Option Addr) (cap : Nat) (b : Bt) : Row (W.setRow g (btC a cap b)) g 28 (btC a cap b) := by
  obtain ⟨old, h1, h2⟩ := h
  exact setRow_heap _ _ _ _ _ _ h1

theorem alloc_setRow (W : World) (old cs : Array Value) (T : TypeId) : (W.alloc (.cells old T)).setRow W.heap.size cs = W.alloc (.cells cs T) := by
  have e : (W.heap.push (Obj.cells old T)).modify W.heap.size (fun | .cells _ elem frozen => .cells cs elem frozen | o => o) = W.heap.push (Obj.cells cs T) := by
    apply Array.ext_getElem?
    intro i
    rw [Array.getElem?_modify, Array.getElem?_push, Array.getElem?_push]
    by_cases h : W.heap.size = i
    · subst h; simp
    · rw [if_neg h, if_neg (fun e => h e.symm), if_neg (fun e => h e.symm)]
  exact congrArg (fun h => ({ W with heap := h } : World)) e
theorem OwnT.setRow {W : World} {base g : Nat} {v : Value} {l : List ByteArray} (h : OwnT W base v l) (hg : g < base) (cs : Array Value) : OwnT (W.setRow g cs) base v l :=
  h.grown fun k h1 _ => setRow_other _ _ k _ (by omega)

/-- A batch in a variable. -/
structure Vb (W : World) (g : Nat) (a : Option Addr) (cap : Nat) (x : Bt) : Prop where
  row : Row W g 28 (btC a cap x)
  mem : StrsP W a cap x.mem
theorem Vb.below {W W' : World} {g : Nat} {a : Option Addr} {cap : Nat} {x : Bt} (h : Vb W g a cap x) (b : Below W.heap.size W W') : Vb W' g a cap x := ⟨h.row.below b, h.mem.below b⟩
theorem Vb.new {W : World} {a : Option Addr} {cap : Nat} {x : Bt} (h : StrsP W a cap x.mem) : Vb (W.alloc (.cells (btC a cap x) 28)) W.heap.size a cap x :=
  ⟨heap_alloc_new _ _, h.below ((Below.refl _ _).alloc (Nat.le_refl _) _)⟩
theorem Vb.c0 {W : World} {g : Nat} {a : Option Addr} {cap : Nat} {x : Bt} (h : Vb W g a cap x) : W.cell? ⟨g, 0, none⟩ = some (.int .i64 x.id) := h.row.cell 0
theorem Vb.c1 {W : World} {g : Nat} {a : Option Addr} {cap : Nat} {x : Bt} (h : Vb W g a cap x) : W.cell? ⟨g, 1, none⟩ = some (.int .i64 x.wt) := h.row.cell 1
theorem Vb.c2 {W : World} {g : Nat} {a : Option Addr} {cap : Nat} {x : Bt} (h : Vb W g a cap x) : W.cell? ⟨g, 2, none⟩ = some (.int .i64 x.born) := h.row.cell 2
theorem Vb.c3 {W : World} {g : Nat} {a : Option Addr} {cap : Nat} {x : Bt} (h : Vb W g a cap x) : W.cell? ⟨g, 3, none⟩ = some (.int .i64 x.kind) := h.row.cell 3
theorem Vb.c4 {W : World} {g : Nat} {a : Option Addr} {cap : Nat} {x : Bt} (h : Vb W g a cap x) : W.cell? ⟨g, 4, none⟩ = some (.int .i64 x.phase) := h.row.cell 4
theorem Vb.c5 {W : World} {g : Nat} {a : Option Addr} {cap : Nat} {x : Bt} (h : Vb W g a cap x) : W.cell? ⟨g, 5, none⟩ = some (.string x.car) ∧ W.cell? ⟨g, 6, none⟩ = some (.string x.zone) ∧ W.cell? ⟨g, 7, none⟩ = some (.string x.serv) := ⟨h.row.cell 5, h.row.cell 6, h.row.cell 7⟩
theorem Vb.c8 {W : World} {g : Nat} {a : Option Addr} {cap : Nat} {x : Bt} (h : Vb W g a cap x) : W.cell? ⟨g, 8, none⟩ = some (.slice a x.mem.length cap) := h.row.cell 8
theorem Vb.next {W W' : World} {g : Nat} {a : Option Addr} {cap : Nat} {x : Bt} (h : Vb W g a cap x) (b : Below W.heap.size W W') (o : Obj) : Vb (W'.alloc o) g a cap x := (h.below b).below ((Below.refl _ _).alloc (Nat.le_refl _) _)
/-- Caps in a variable; all that was there stays. -/
structure CapsI (w : World) (g : Nat) (c : Cp) (W : World) : Prop where
  row : Row W g 23 #[.int .i64 c.count, .int .i64 c.wt]
  low : Below w.heap.size w W
theorem CapsI.below {w W W' : World} {g : Nat} {c : Cp} (h : CapsI w g c W) (b : Below W.heap.size W W') : CapsI w g c W' := ⟨h.row.below b, h.low.trans (b.mono h.low.size)⟩
theorem CapsI.next {w W W' : World} {g : Nat} {c : Cp} (h : CapsI w g c W) (b : Below W.heap.size W W') (o : Obj) : CapsI w g c (W'.alloc o) := (h.below b).below ((Below.refl _ _).alloc (Nat.le_refl _) _)
theorem CapsI.new (w : World) (c : Cp) : CapsI w w.heap.size c (w.alloc (.cells #[.int .i64 c.count, .int .i64 c.wt] 23)) := ⟨heap_alloc_new _ _, (Below.refl _ _).alloc (Nat.le_refl _) _⟩
theorem CapsI.setRow {w W : World} {n g : Nat} {c : Cp} (h : CapsI w n c W) (hn : n ≠ g) (hg : w.heap.size ≤ g) (cs : Array Value) : CapsI w n c (W.setRow g cs) :=
  ⟨(setRow_other _ _ _ _ hn).trans h.row, Below.row h.low hg cs⟩
/-- A store into a block that came later. -/
theorem StrsP.setRow {W : World} {a : Option Addr} {cap : Nat} {l : List ByteArray} (h : StrsP W a cap l) {g : Nat} (hg : l ≠ [] → ∀ x, a = some x → x.block ≠ g) (cs : Array Value) : StrsP (W.setRow g cs) a cap l := by
  refine ⟨h.cap, h.len, fun hne => ?_⟩
  obtain ⟨b, o, e, hlt, hc⟩ := h.cell hne
  have hb := hg hne _ e
  refine ⟨b, o, e, by simp only [World.setRow, Array.size_modify]; exact hlt, fun j x hx => ?_⟩
  rw [← hc j x hx]
  simp only [World.cell?]
  rw [setRow_other _ _ b _ hb]

/-- A batch that came in, in a variable. -/
structure Vp (W : World) (g : Nat) (a : Option Addr) (cap : Nat) (x : Bt) : Prop where
  var : Vb W g a cap x
  bt : BtP W a cap x
theorem Vp.below {W W' : World} {g : Nat} {a : Option Addr} {cap : Nat} {x : Bt} (h : Vp W g a cap x) (b : Below W.heap.size W W') : Vp W' g a cap x := ⟨h.var.below b, h.bt.below b⟩
theorem Vp.new {W : World} {a : Option Addr} {cap : Nat} {x : Bt} (h : BtP W a cap x) : Vp (W.alloc (.cells (btC a cap x) 28)) W.heap.size a cap x :=
  ⟨Vb.new h.mem, h.below ((Below.refl _ _).alloc (Nat.le_refl _) _)⟩

end Go.Proofs.Ytieoihmndpkdoaa
