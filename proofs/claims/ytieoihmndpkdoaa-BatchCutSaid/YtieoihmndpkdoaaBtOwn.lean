/- What own, hasRoom, Full and Part of package batch answer; an act's variables while it works on a batch. -/
import Derived.Test.YtieoihmndpkdoaaBtMem
import Derived.Test.YtieoihmndpkdoaaScRead
import Derived.WalkSpells
namespace Go.Proofs.Ytieoihmndpkdoaa
set_option maxRecDepth 100000
open Go.RowKit Go.ChangeShapes Go.WideShapes Go.ChangeAt

abbrev zB : Array Value := #[.int .i64 0, .int .i64 0, .int .i64 0, .int .i64 0, .int .i64 0, .string ⟨#[]⟩, .string ⟨#[]⟩, .string ⟨#[]⟩, .slice none 0 0]
theorem cellsR9 {w : World} {g : Nat} {T : TypeId} {a0 a1 a2 a3 a4 a5 a6 a7 a8 : Value} (h : Row w g T #[a0, a1, a2, a3, a4, a5, a6, a7, a8]) :
    ((w.cell? ⟨g, 0, none⟩ = some a0 ∧ w.cell? ⟨g, 1, none⟩ = some a1 ∧ w.cell? ⟨g, 2, none⟩ = some a2 ∧ w.cell? ⟨g, 3, none⟩ = some a3 ∧ w.cell? ⟨g, 4, none⟩ = some a4) ∧
     w.cell? ⟨g, 5, none⟩ = some a5 ∧ w.cell? ⟨g, 6, none⟩ = some a6 ∧ w.cell? ⟨g, 7, none⟩ = some a7 ∧ w.cell? ⟨g, 8, none⟩ = some a8) ∧ ∀ o, w.frozen? ⟨g, o, none⟩ = false :=
  ⟨⟨⟨h.cell 0, h.cell 1, h.cell 2, h.cell 3, h.cell 4⟩, h.cell 5, h.cell 6, h.cell 7, h.cell 8⟩, h.free⟩
theorem size9 (x0 x1 x2 x3 x4 x5 x6 x7 x8 : Value) : (Try.prog.info? 28).map (·.size) = some #[x0, x1, x2, x3, x4, x5, x6, x7, x8].size := by
  show _ = some 9
  kernel_rfl
theorem wpList_store_batch {ops : Array Oper} {rest : List Oper} {o : Oper} {ac : Act} {w : World} {Q : Exit → Act → World → Prop} (hgd : o.guard = none) (x y : Operand) (ho : o.op = .store 28 x y)
    (g : Nat) (a : Option Addr) (cap : Nat) (b : Bt) (old : Array Value) (h9 : old.size = 9) (hx : ac.eval x = .pointer (some ⟨g, 0, none⟩))
    (hy : ac.eval y = btV a cap b) (hg : Row w g 28 old)
    (h : wpList Try.prog ops Q rest (ac.put o.dst undef) (w.setRow g (btC a cap b))) : wpList Try.prog ops Q (o :: rest) ac w :=
  wpList_store_row hgd 28 x y ho g _ hx hy 28 old hg (size9 _ _ _ _ _ _ _ _ _) h9 (by simp [Value.oneCell']) h
theorem load9 {w : World} {g : Nat} {a : Option Addr} {cap : Nat} {b : Bt} (hg : Row w g 28 (btC a cap b)) : (loadVar 28 ⟨g, 0, none⟩).run Try.prog w = .ok (btV a cap b) w :=
  run_loadVar_row w g 28 28 _ (0, 0) _ hg Try.underlying28 rfl (size9 _ _ _ _ _ _ _ _ _)
theorem OwnT.cell {w : World} {base k : Nat} {v : Value} {ls : List ByteArray} (h : OwnT w base v ls) (hk : k < base) (o : Nat) (x : Value) : OwnT (w.setCell ⟨k, o, none⟩ x) base v ls :=
  h.grown fun i h1 h2 => ((But.refl k w).set o x).block i h2 (by omega)

/-- A batch is answered whose members are the call's own; all that was there stays. -/
def OwnBt (b : Bt) (w : World) (e : Ending) (w' : World) : Prop := ∃ a cap, e = .returned (btV a cap b) ∧ OwnT w' w.heap.size (.slice a b.mem.length cap) b.mem ∧ Below w.heap.size w w'

set_option maxHeartbeats 4000000 in
theorem btOwn_any (a : Option Addr) (cap : Nat) (b : Bt) (w : World) (h : StrsP w a cap b.mem) (hl : b.mem.length ≤ 100000) : Calls Try.prog 31 #[btV a cap b] w (OwnBt b w) := by
  have D0 : Row (w.alloc (.cells (btC a cap b) 28)) w.heap.size 28 (btC a cap b) := heap_alloc_new _ _
  have B0 := ((Below.refl w.heap.size w).alloc (Nat.le_refl _) (.cells (btC a cap b) 28)).alloc (by simp) (.cells zB 28)
  have D : Hid (Row ((w.alloc (.cells (btC a cap b) 28)).alloc (.cells zB 28)) w.heap.size 28 (btC a cap b)) := Lib.hid (D0.below ((Below.refl _ _).alloc (Nat.le_refl _) _))
  have R : Hid (Row ((w.alloc (.cells (btC a cap b) 28)).alloc (.cells zB 28)) (w.heap.size + 1) 28 zB) := Lib.hid (heap_alloc2_new _ _ _)
  have L := Lib.hid (h.below B0)
  have B := Lib.hid B0
  have hz : w.heap.size + 2 ≤ ((w.alloc (.cells (btC a cap b) 28)).alloc (.cells zB 28)).heap.size := R.out.lt
  clear h D0 B0
  unfold btV
  unfold btC zB at *
  go_enter Try.func31, Try.ntmps31
  obtain ⟨⟨⟨c0, c1, c2, c3, c4⟩, c5, c6, c7, c8⟩, f⟩ := cellsR9 D.out
  go_wp2_with (at_builtin; go_must (refine wpList_append_texts rfl _ _ rfl (w.heap.size + 2) (.slice none 0 0) [] b.mem rfl (OwnT.nil _ _) a cap rfl L.out (by simp; omega) hz ?_))
  rintro v1 w1 o1 g1
  obtain ⟨a1, p1, e1⟩ := o1.shape
  subst e1
  obtain ⟨q, hq, bq⟩ := But.grown (B := w.heap.size + 2) g1 (by rintro k hk; cases hk)
  have D1 := Lib.hid (D.out.but bq (by omega))
  have R1 := Lib.hid (R.out.but bq (by omega))
  have B1 := Lib.hid (B.out.trans (bq.below (by omega) (by omega)))
  have O1 := Lib.hid o1
  clear c0 c1 c2 c3 c4 c5 c6 c7 c8 f o1 g1 bq D R B L
  obtain ⟨⟨⟨c0, c1, c2, c3, c4⟩, c5, c6, c7, c8⟩, f⟩ := cellsR9 D1.out
  have D2 := Lib.hid (D1.out.set 8 (.slice a1 b.mem.length p1))
  have R2 := Lib.hid (R1.out.but (g := w.heap.size) ((But.refl _ _).set 8 (.slice a1 b.mem.length p1)) (by omega))
  have O2 := Lib.hid (O1.out.cell (k := w.heap.size) (by omega) 8 (.slice a1 b.mem.length p1))
  have B2 := Lib.hid (B1.out.setCell (p := ⟨w.heap.size, 8, none⟩) (Nat.le_refl _) (.slice a1 b.mem.length p1))
  go_wp2_with (refine wpList_store_batch rfl _ _ rfl (w.heap.size + 1) a1 p1 b _ (by rfl) rfl rfl R2.out ?_)
  (try simp only [Exit.inBlock, Exit.then])
  apply bodyPost_ret
  case hd => rfl
  case hr => exact results_cell_row rfl _ _ (w.heap.size + 1) 28 _ (0, 0) _ rfl (setRow_heap _ _ _ _ _ _ R2.out) Try.underlying28 rfl (size9 _ _ _ _ _ _ _ _ _)
  case hR =>
    refine ⟨a1, p1, rfl, (O2.out.grown fun k h1 h2 => setRow_other _ _ k _ (by omega)).base (by omega), ?_⟩
    exact B2.out.trans ⟨rfl, rfl, rfl, by simp [World.setRow], fun k hk => setRow_other _ _ k _ (by omega)⟩

set_option maxHeartbeats 2000000 in
theorem room_any (a : Option Addr) (cap : Nat) (b : Bt) (c : Cp) (s : Int) (w : World) : Calls Try.prog 35 #[btV a cap b, cpV c, .int .i64 s] w (Tell (roomB b c s) w) := by
  have HE := Lib.hid (show roomB b c s = ((((b.mem.length : Nat) : Int) == 0) || (decide ((b.mem.length : Int) < c.count) && decide (s ≤ c.wt))) by
    unfold roomB
    congr 1
    rw [Bool.eq_iff_iff]
    simp)
  have B := Lib.hid (((Below.refl w.heap.size w).alloc (Nat.le_refl _) (Obj.cells (btC a cap b) 28)).alloc (by simp) (Obj.cells #[.int .i64 c.count, .int .i64 c.wt] 23))
  unfold btV cpV
  unfold btC at *
  generalize c.count = n at *
  generalize c.wt = t at *
  generalize b.mem.length = m at *
  cases h1 : (((m : Nat) : Int) == 0) <;> cases h2 : decide ((m : Int) < n) <;> cases h3 : decide (s ≤ t)
  all_goals
    rw [h1, h2, h3] at HE
    go_enter Try.func35, Try.ntmps35
    go_wp2_with fail
    go_ret
    exact ⟨by rw [HE.out]; rfl, B.out⟩

set_option maxHeartbeats 2000000 in
theorem full_any (a : Option Addr) (cap : Nat) (b : Bt) (c : Cp) (w : World) : Calls Try.prog 15 #[btV a cap b, cpV c] w (Tell (fullB b c) w) := by
  have HE := Lib.hid (show fullB b c = (decide (c.count ≤ (b.mem.length : Int)) || decide (c.wt ≤ b.wt)) from rfl)
  have B := Lib.hid (((Below.refl w.heap.size w).alloc (Nat.le_refl _) (Obj.cells (btC a cap b) 28)).alloc (by simp) (Obj.cells #[.int .i64 c.count, .int .i64 c.wt] 23))
  unfold btV cpV
  unfold btC at *
  generalize c.count = n at *
  generalize c.wt = t at *
  generalize b.mem.length = m at *
  generalize b.wt = u at *
  cases h1 : decide (n ≤ (m : Int)) <;> cases h2 : decide (t ≤ u)
  all_goals
    rw [h1, h2] at HE
    go_enter Try.func15, Try.ntmps15
    go_wp2_with fail
    go_ret
    exact ⟨by rw [HE.out]; rfl, B.out⟩

/-- An act's variables: a batch of its own, its result's block, perhaps caps between; all that was there stays. -/
structure BtI (w : World) (v r : Nat) (cs rs : Array Value) (W : World) : Prop where
  var : Row W v 28 cs
  res : Row W r 28 rs
  low : Below w.heap.size w W
theorem BtI.below {w W W' : World} {v r : Nat} {cs rs : Array Value} (h : BtI w v r cs rs W) (b : Below W.heap.size W W') : BtI w v r cs rs W' := ⟨h.var.below b, h.res.below b, h.low.trans (b.mono h.low.size)⟩
theorem BtI.set {w W : World} {v r : Nat} {cs rs : Array Value} (h : BtI w v r cs rs W) (hv : w.heap.size ≤ v) (hr : r ≠ v) (o : Nat) (x : Value) : BtI w v r (cs.setIfInBounds o x) rs (W.setCell ⟨v, o, none⟩ x) :=
  ⟨h.var.set o x, h.res.but ((But.refl _ _).set o x) hr, h.low.setCell (p := ⟨v, o, none⟩) hv x⟩
theorem Below.row {B : Nat} {w W : World} (h : Below B w W) {r : Nat} (hr : B ≤ r) (cs : Array Value) : Below B w (W.setRow r cs) :=
  ⟨h.os, h.tape, h.output, by simp only [World.setRow, Array.size_modify]; exact h.size, fun k hk => (setRow_other _ _ k _ (by omega)).trans (h.block k hk)⟩

theorem BtI.new (w : World) (cs rs : Array Value) : BtI w w.heap.size (w.heap.size + 1) cs rs ((w.alloc (.cells cs 28)).alloc (.cells rs 28)) :=
  ⟨Row.below (w := w.alloc (.cells cs 28)) (heap_alloc_new _ _) ((Below.refl _ _).alloc (Nat.le_refl _) _), heap_alloc2_new _ _ _, ((Below.refl w.heap.size w).alloc (Nat.le_refl _) _).alloc (by simp) _⟩
/-- A batch is answered; all that was there stays. -/
def BtPost (b : Bt) (w : World) (e : Ending) (w' : World) : Prop := ∃ a cap, e = .returned (btV a cap b) ∧ StrsP w' a cap b.mem ∧ Below w.heap.size w w'

set_option maxHeartbeats 4000000 in
theorem part_any (a a2 : Option Addr) (cap c2 : Nat) (b : Bt) (id s : Int) (l : List ByteArray) (w : World) (h : StrsP w a2 c2 l) (hl : l.length ≤ 100000) : Calls Try.prog 30 #[btV a cap b, .int .i64 id, .slice a2 l.length c2, .int .i64 s] w (BtPost (partV b id l s) w) := by
  have D2 := Lib.hid (BtI.new w (btC a2 c2 (partV b id l s)) zB)
  have C := Lib.hid (btOwn_any a2 c2 (partV b id l s) _ (h.below D2.out.low) hl)
  clear h
  unfold btV partV at *
  unfold btC zB at *
  go_enter Try.func30, Try.ntmps30
  go_wp2_with fail
  refine C.out.mono ?_
  rintro e w1 ⟨a1, p1, rfl, o1, b1⟩
  have D3 := Lib.hid (D2.out.below b1)
  have O1 := Lib.hid (o1.base (base' := w.heap.size + 2) D2.out.res.lt)
  clear C o1 b1 D2
  go_wp2_with (refine wpList_store_batch rfl _ _ rfl (w.heap.size + 1) a1 p1 ⟨id, s, b.born, b.kind, 2, b.car, b.zone, b.serv, l⟩ _ (by rfl) rfl rfl D3.out.res ?_)
  (try simp only [Exit.inBlock, Exit.then])
  apply bodyPost_ret
  case hd => rfl
  case hr => exact results_cell_row rfl _ _ (w.heap.size + 1) 28 _ (0, 0) _ rfl (setRow_heap _ _ _ _ _ _ D3.out.res) Try.underlying28 rfl (size9 _ _ _ _ _ _ _ _ _)
  case hR => exact ⟨a1, p1, rfl, (O1.out.grown fun k h1 h2 => setRow_other _ _ k _ (by omega)).reads.2, Below.row D3.out.low (by omega) _⟩

end Go.Proofs.Ytieoihmndpkdoaa
