/- What Copy of package order answers; the law's example of an order, and what orderAlive answers. -/
import Derived.Test.YtpmgafmbmjokhaaDoorOrPut2
import Derived.Test.YtpmgafmbmjokhaaDoorOrTake2
import Derived.Test.YtpmgafmbmjokhaaDoorOrSame
namespace Go.Proofs.YtpmgafmbmjokhaaDoor
open Go.RowKit Go.ChangeShapes Go.WideShapes Go.ChangeAt

/-- An order is answered whose lines are the call's own; all that was there stays. -/
def CopyPost (o : Od) (w : World) (e : Ending) (w' : World) : Prop := ∃ a cap, e = .returned (odV a cap o) ∧ OwnL w' w.heap.size (.slice a o.ls.length cap) o.ls ∧ Below w.heap.size w w'

theorem own_line (W : World) (base : Nat) (x : Ln) (hb : base ≤ W.heap.size) : OwnL (W.alloc (.cells #[.string x.sku, .int .i64 x.qty, .int .i64 x.wt] 49)) base (.slice (some ⟨W.heap.size, 0, none⟩) 1 1) [x] :=
  ⟨cellsL_len [x], .inr ⟨W.heap.size, 1, _, rfl, hb, heap_alloc_new W _, Nat.le_refl _, by unfold maxLen; omega, by simp, by simp [cellsL, cellsOf]⟩⟩

/-- The law's example. -/
def plainO : Od := ⟨⟨#[97, 49]⟩, [⟨⟨#[120]⟩, 2, 5⟩], ⟨#[99]⟩, ⟨#[122]⟩, ⟨#[115]⟩, 100, 3, false, 0, 7⟩
theorem plain_right : rightO plainO = true := by kernel_rfl
theorem plain_len : (orderL plainO).length = 19 := by
  simp [orderL, plainO, linesL, lineL, textL, numL_small, strL_len, givenN, ByteArray.size]

set_option maxRecDepth 100000 in
set_option maxHeartbeats 4000000 in
theorem plain_any (w : World) : Calls Tryd.prog 11 #[] w (CopyPost plainO w) := by
  have B := Lib.hid (((Below.refl w.heap.size w).alloc (Nat.le_refl _) (.cells zO 36)).alloc (by simp) (.cells #[.string ⟨#[120]⟩, .int .i64 2, .int .i64 5] 49))
  have R0 : Row (w.alloc (.cells zO 36)) w.heap.size 36 zO := heap_alloc_new _ _
  have R : Hid (Row ((w.alloc (.cells zO 36)).alloc (.cells #[.string ⟨#[120]⟩, .int .i64 2, .int .i64 5] 49)) w.heap.size 36 zO) := Lib.hid (R0.below ((Below.refl _ _).alloc (Nat.le_refl _) _))
  have O : Hid (OwnL ((w.alloc (.cells zO 36)).alloc (.cells #[.string ⟨#[120]⟩, .int .i64 2, .int .i64 5] 49)) (w.heap.size + 1) (.slice (some ⟨w.heap.size + 1, 0, none⟩) 1 1) [⟨⟨#[120]⟩, 2, 5⟩]) := Lib.hid (by
    have := own_line (w.alloc (.cells zO 36)) (w.heap.size + 1) ⟨⟨#[120]⟩, 2, 5⟩ (by simp)
    rwa [show (w.alloc (.cells zO 36)).heap.size = w.heap.size + 1 by simp] at this)
  clear R0
  unfold zO at *
  go_enter Tryd.func11, Tryd.ntmps11
  go_wp2_with (refine wpList_store_order rfl _ _ rfl w.heap.size ⟨#[97, 49]⟩ ⟨#[99]⟩ ⟨#[122]⟩ ⟨#[115]⟩ (some ⟨w.heap.size + 1, 0, none⟩) 1 1 100 3 0 7 false rfl rfl R.out ?_)
  (try simp only [Exit.inBlock, Exit.then])
  apply bodyPost_ret
  case hd => rfl
  case hr => exact results_cell_row rfl _ _ w.heap.size 36 _ (0, 0) _ rfl (setRow_heap _ _ _ _ _ _ R.out) Tryd.underlying36 rfl (size10 _ _ _ _ _ _ _ _ _ _)
  case hR =>
    refine ⟨some ⟨w.heap.size + 1, 0, none⟩, 1, rfl, (O.out.grown fun k h1 h2 => setRow_other _ _ k _ (by omega)).base (by omega), ?_⟩
    exact B.out.trans ⟨rfl, rfl, rfl, by simp [World.setRow], fun k hk => setRow_other _ _ k _ (by omega)⟩

end Go.Proofs.YtpmgafmbmjokhaaDoor
