/- What Copy of package order answers; the law's example of an order, and what orderAlive answers. -/
import Derived.Test.YtpmgafmbmjokhaaOrPut2
import Derived.Test.YtpmgafmbmjokhaaOrTake2
import Derived.Test.YtpmgafmbmjokhaaOrSame
namespace Go.Proofs.Ytpmgafmbmjokhaa
open Go.RowKit Go.ChangeShapes Go.WideShapes Go.ChangeAt

/-- An order is answered whose lines are the call's own; all that was there stays. -/
def CopyPost (o : Od) (w : World) (e : Ending) (w' : World) : Prop := ∃ a cap, e = .returned (odV a cap o) ∧ OwnL w' w.heap.size (.slice a o.ls.length cap) o.ls ∧ Below w.heap.size w w'

set_option maxRecDepth 100000 in
set_option maxHeartbeats 4000000 in
theorem copy_any (a : Option Addr) (cap : Nat) (o : Od) (w : World) (h : OdP w a cap o) (hl : o.ls.length ≤ 1000) : Calls Try.prog 9 #[odV a cap o] w (CopyPost o w) := by
  have D0 : Row (w.alloc (.cells (odC a cap o) 28)) w.heap.size 28 (odC a cap o) := heap_alloc_new _ _
  have B0 := ((Below.refl w.heap.size w).alloc (Nat.le_refl _) (.cells (odC a cap o) 28)).alloc (by simp) (.cells zO 28)
  have D : Hid (Row ((w.alloc (.cells (odC a cap o) 28)).alloc (.cells zO 28)) w.heap.size 28 (odC a cap o)) := Lib.hid (D0.below ((Below.refl _ _).alloc (Nat.le_refl _) _))
  have R : Hid (Row ((w.alloc (.cells (odC a cap o) 28)).alloc (.cells zO 28)) (w.heap.size + 1) 28 zO) := Lib.hid (heap_alloc2_new _ _ _)
  have L := Lib.hid (h.lns.below B0)
  have B := Lib.hid B0
  have hz : w.heap.size + 2 ≤ ((w.alloc (.cells (odC a cap o) 28)).alloc (.cells zO 28)).heap.size := R.out.lt
  clear h D0 B0
  unfold odV
  unfold odC zO at *
  go_enter Try.func9, Try.ntmps9
  obtain ⟨⟨⟨c0, c1, c2, c3, c4⟩, c5, c6, c7, c8, c9⟩, f⟩ := cellsR10 D.out
  go_wp2_with (at_builtin; go_must (refine wpList_append_lines rfl _ _ rfl (w.heap.size + 2) (.slice none 0 0) [] o.ls rfl (OwnL.nil _ _) a cap rfl L.out (by simp; omega) hz ?_))
  rintro v1 w1 o1 g1
  obtain ⟨a1, p1, e1⟩ := o1.shape
  subst e1
  obtain ⟨q, hq, bq⟩ := But.grown g1 (OwnL.nil ((w.alloc (.cells #[.string o.id, .slice a o.ls.length cap, .string o.car, .string o.zone, .string o.serv, .int .i64 o.total, .int .i64 o.phase, .bool o.given, .int .i64 o.ref, .int .i64 o.batch] 28)).alloc (.cells #[.string ⟨#[]⟩, .slice none 0 0, .string ⟨#[]⟩, .string ⟨#[]⟩, .string ⟨#[]⟩, .int .i64 0, .int .i64 0, .bool false, .int .i64 0, .int .i64 0] 28)) (w.heap.size + 2)).row
  have D1 := Lib.hid (D.out.but bq (by omega))
  have R1 := Lib.hid (R.out.but bq (by omega))
  have B1 := Lib.hid (B.out.trans (bq.below (by omega) (by omega)))
  have O1 := Lib.hid o1
  clear c0 c1 c2 c3 c4 c5 c6 c7 c8 c9 f o1 g1 bq D R B L
  obtain ⟨⟨⟨c0, c1, c2, c3, c4⟩, c5, c6, c7, c8, c9⟩, f⟩ := cellsR10 D1.out
  have D2 := Lib.hid (D1.out.set 1 (.slice a1 o.ls.length p1))
  have R2 := Lib.hid (R1.out.but (g := w.heap.size) ((But.refl _ _).set 1 (.slice a1 o.ls.length p1)) (by omega))
  have O2 := Lib.hid (O1.out.cell (k := w.heap.size) (by omega) 1 (.slice a1 o.ls.length p1))
  have B2 := Lib.hid (B1.out.setCell (p := ⟨w.heap.size, 1, none⟩) (Nat.le_refl _) (.slice a1 o.ls.length p1))
  go_wp2_with (refine wpList_store_order rfl _ _ rfl (w.heap.size + 1) o.id o.car o.zone o.serv a1 o.ls.length p1 o.total o.phase o.ref o.batch o.given rfl rfl R2.out ?_)
  (try simp only [Exit.inBlock, Exit.then])
  apply bodyPost_ret
  case hd => rfl
  case hr => exact results_cell_row rfl _ _ (w.heap.size + 1) 28 _ (0, 0) _ rfl (setRow_heap _ _ _ _ _ _ R2.out) Try.underlying28 rfl (size10 _ _ _ _ _ _ _ _ _ _)
  case hR =>
    refine ⟨a1, p1, rfl, (O2.out.grown fun k h1 h2 => setRow_other _ _ k _ (by omega)).base (by omega), ?_⟩
    exact B2.out.trans ⟨rfl, rfl, rfl, by simp [World.setRow], fun k hk => setRow_other _ _ k _ (by omega)⟩

theorem own_line (W : World) (base : Nat) (x : Ln) (hb : base ≤ W.heap.size) : OwnL (W.alloc (.cells #[.string x.sku, .int .i64 x.qty, .int .i64 x.wt] 34)) base (.slice (some ⟨W.heap.size, 0, none⟩) 1 1) [x] :=
  ⟨cellsL_len [x], .inr ⟨W.heap.size, 1, _, rfl, hb, heap_alloc_new W _, Nat.le_refl _, by unfold maxLen; omega, by simp, by simp [cellsL, cellsOf]⟩⟩

/-- The law's example. -/
def plainO : Od := ⟨⟨#[97, 49]⟩, [⟨⟨#[120]⟩, 2, 5⟩], ⟨#[99]⟩, ⟨#[122]⟩, ⟨#[115]⟩, 100, 3, false, 0, 7⟩
theorem plain_right : rightO plainO = true := by kernel_rfl
theorem plain_len : (orderL plainO).length = 19 := by
  simp [orderL, plainO, linesL, lineL, textL, numL_small, strL_len, givenN, ByteArray.size]

set_option maxRecDepth 100000 in
set_option maxHeartbeats 4000000 in
theorem plain_any (w : World) : Calls Try.prog 21 #[] w (CopyPost plainO w) := by
  have B := Lib.hid (((Below.refl w.heap.size w).alloc (Nat.le_refl _) (.cells zO 28)).alloc (by simp) (.cells #[.string ⟨#[120]⟩, .int .i64 2, .int .i64 5] 34))
  have R0 : Row (w.alloc (.cells zO 28)) w.heap.size 28 zO := heap_alloc_new _ _
  have R : Hid (Row ((w.alloc (.cells zO 28)).alloc (.cells #[.string ⟨#[120]⟩, .int .i64 2, .int .i64 5] 34)) w.heap.size 28 zO) := Lib.hid (R0.below ((Below.refl _ _).alloc (Nat.le_refl _) _))
  have O : Hid (OwnL ((w.alloc (.cells zO 28)).alloc (.cells #[.string ⟨#[120]⟩, .int .i64 2, .int .i64 5] 34)) (w.heap.size + 1) (.slice (some ⟨w.heap.size + 1, 0, none⟩) 1 1) [⟨⟨#[120]⟩, 2, 5⟩]) := Lib.hid (by
    have := own_line (w.alloc (.cells zO 28)) (w.heap.size + 1) ⟨⟨#[120]⟩, 2, 5⟩ (by simp)
    rwa [show (w.alloc (.cells zO 28)).heap.size = w.heap.size + 1 by simp] at this)
  clear R0
  unfold zO at *
  go_enter Try.func21, Try.ntmps21
  go_wp2_with (refine wpList_store_order rfl _ _ rfl w.heap.size ⟨#[97, 49]⟩ ⟨#[99]⟩ ⟨#[122]⟩ ⟨#[115]⟩ (some ⟨w.heap.size + 1, 0, none⟩) 1 1 100 3 0 7 false rfl rfl R.out ?_)
  (try simp only [Exit.inBlock, Exit.then])
  apply bodyPost_ret
  case hd => rfl
  case hr => exact results_cell_row rfl _ _ w.heap.size 28 _ (0, 0) _ rfl (setRow_heap _ _ _ _ _ _ R.out) Try.underlying28 rfl (size10 _ _ _ _ _ _ _ _ _ _)
  case hR =>
    refine ⟨some ⟨w.heap.size + 1, 0, none⟩, 1, rfl, (O.out.grown fun k h1 h2 => setRow_other _ _ k _ (by omega)).base (by omega), ?_⟩
    exact B.out.trans ⟨rfl, rfl, rfl, by simp [World.setRow], fun k hk => setRow_other _ _ k _ (by omega)⟩

end Go.Proofs.Ytpmgafmbmjokhaa
