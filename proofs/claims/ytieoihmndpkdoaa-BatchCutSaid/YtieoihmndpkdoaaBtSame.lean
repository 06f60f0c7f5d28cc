/- What Same of package batch, and the document's, answer, at any two batches. -/
import Derived.Test.YtieoihmndpkdoaaBtMem
namespace Go.Proofs.Ytieoihmndpkdoaa
set_option maxRecDepth 100000
open Go.RowKit

theorem eq_grT (a b c x y z : ByteArray) (w : World) : (binOp .eql 25 (.agg #[.string a, .string b, .string c]) (.agg #[.string x, .string y, .string z])).run Try.prog w = .ok (.bool (sameG a b c x y z)) w := by
  have u9 := Try.underlying9
  have a9 := Try.isAgg9
  have z9 := Try.sizeOf9
  have hS : Try.prog.underlying 25 = some (.struct (Try.prog.fieldsOf 25)) := by kernel_rfl
  have hp : Try.prog.stoodInHeld 25 = false := by kernel_rfl
  unfold sameG
  rw [run_eql_struct, show (10000 : Nat) = 9999 + 1 from rfl, run_equalIn_agg w 9999 25 _ _ hS hp]
  simp only [Program.fieldsOf, Try.underlying25]
  cases h1 : (a.toList == x.toList) <;> cases h2 : (b.toList == y.toList) <;> cases h3 : (c.toList == z.toList) <;> go_simp

set_option maxHeartbeats 4000000 in
theorem btSame_any (a1 a2 : Option Addr) (c1 c2 : Nat) (x y : Bt) (w : World) (h1 : BtP w a1 c1 x) (h2 : BtP w a2 c2 y) : Calls Try.prog 19 #[btV a1 c1 x, btV a2 c2 y] w (Tell (sameBt x y) w) := by
  have D0 := Lib.hid (BtB.new w a1 c1 x)
  have D2 := Lib.hid (BtB.new (w.alloc (.cells (btC a1 c1 x) 28)) a2 c2 y)
  have hz : (w.alloc (.cells (btC a1 c1 x) 28)).heap.size = w.heap.size + 1 := by simp
  have D1 := Lib.hid (D0.out.below ((Below.refl _ _).alloc (Nat.le_refl _) (.cells (btC a2 c2 y) 28)))
  have B := Lib.hid (((Below.refl w.heap.size w).alloc (Nat.le_refl _) (Obj.cells (btC a1 c1 x) 28)).alloc (by simp) (Obj.cells (btC a2 c2 y) 28))
  have C := Lib.hid (equalT_any a1 a2 c1 c2 x.mem y.mem _ (h1.mem.below B.out) (h2.mem.below B.out))
  rw [hz] at D2
  have HE := Lib.hid (show sameBt x y = ((x.id == y.id) && ((x.wt == y.wt) && ((x.born == y.born) && ((x.kind == y.kind) && ((x.phase == y.phase) && (sameG x.car x.zone x.serv y.car y.zone y.serv && sameT x.mem y.mem)))))) from rfl)
  have Q := eq_grT x.car x.zone x.serv y.car y.zone y.serv
  clear h1 h2 hz D0
  unfold btV
  unfold btC at *
  go_enter Try.func19, Try.ntmps19
  obtain ⟨⟨c0, c1', c2', c3, c4⟩, c5, c6, c7, c8⟩ := BtB.cells (b := x) D1.out
  obtain ⟨⟨d0, d1, d2, d3, d4⟩, d5, d6, d7, d8⟩ := BtB.cells (b := y) D2.out
  clear D1 D2
  have BW := B.out
  cases k1 : (x.id == y.id) with
  | false =>
    go_wp2_with fail
    go_ret
    exact ⟨by rw [HE.out, k1]; rfl, BW⟩
  | true =>
    cases k2 : (x.wt == y.wt) with
    | false =>
      go_wp2_with fail
      go_ret
      exact ⟨by rw [HE.out, k1, k2]; rfl, BW⟩
    | true =>
      cases k3 : (x.born == y.born) with
      | false =>
        go_wp2_with fail
        go_ret
        exact ⟨by rw [HE.out, k1, k2, k3]; rfl, BW⟩
      | true =>
        cases k4 : (x.kind == y.kind) with
        | false =>
          go_wp2_with fail
          go_ret
          exact ⟨by rw [HE.out, k1, k2, k3, k4]; rfl, BW⟩
        | true =>
          cases k5 : (x.phase == y.phase) with
          | false =>
            go_wp2_with fail
            go_ret
            exact ⟨by rw [HE.out, k1, k2, k3, k4, k5]; rfl, BW⟩
          | true =>
            cases k6 : sameG x.car x.zone x.serv y.car y.zone y.serv with
            | false =>
              rw [k6] at Q
              go_wp2_with fail
              go_ret
              exact ⟨by rw [HE.out, k1, k2, k3, k4, k5, k6]; rfl, BW⟩
            | true =>
              rw [k6] at Q
              go_wp2_with fail
              refine C.out.mono ?_
              rintro e w1 ⟨rfl, b1⟩
              go_wp2_with fail
              go_ret
              exact ⟨by rw [HE.out, k1, k2, k3, k4, k5, k6]; rfl, BW.trans (b1.mono BW.size)⟩

set_option maxHeartbeats 4000000 in
theorem refBtSame_any (a1 a2 : Option Addr) (c1 c2 : Nat) (x y : Bt) (w : World) (h1 : BtP w a1 c1 x) (h2 : BtP w a2 c2 y) : Calls Try.prog 20 #[btV a1 c1 x, btV a2 c2 y] w (Tell (sameBt x y) w) := by
  have D0 := Lib.hid (BtB.new w a1 c1 x)
  have D2 := Lib.hid (BtB.new (w.alloc (.cells (btC a1 c1 x) 28)) a2 c2 y)
  have hz : (w.alloc (.cells (btC a1 c1 x) 28)).heap.size = w.heap.size + 1 := by simp
  have D1 := Lib.hid (D0.out.below ((Below.refl _ _).alloc (Nat.le_refl _) (.cells (btC a2 c2 y) 28)))
  have B := Lib.hid (((Below.refl w.heap.size w).alloc (Nat.le_refl _) (Obj.cells (btC a1 c1 x) 28)).alloc (by simp) (Obj.cells (btC a2 c2 y) 28))
  have C := Lib.hid (refSameT_any a1 a2 c1 c2 x.mem y.mem _ (h1.mem.below B.out) (h2.mem.below B.out))
  rw [hz] at D2
  have HE := Lib.hid (show sameBt x y = ((x.id == y.id) && ((x.wt == y.wt) && ((x.born == y.born) && ((x.kind == y.kind) && ((x.phase == y.phase) && (sameG x.car x.zone x.serv y.car y.zone y.serv && sameT x.mem y.mem)))))) from rfl)
  have Q := eq_grT x.car x.zone x.serv y.car y.zone y.serv
  clear h1 h2 hz D0
  unfold btV
  unfold btC at *
  go_enter Try.func20, Try.ntmps20
  obtain ⟨⟨c0, c1', c2', c3, c4⟩, c5, c6, c7, c8⟩ := BtB.cells (b := x) D1.out
  obtain ⟨⟨d0, d1, d2, d3, d4⟩, d5, d6, d7, d8⟩ := BtB.cells (b := y) D2.out
  clear D1 D2
  have BW := B.out
  cases k1 : (x.id == y.id) with
  | false =>
    go_wp2_with fail
    go_ret
    exact ⟨by rw [HE.out, k1]; rfl, BW⟩
  | true =>
    cases k2 : (x.wt == y.wt) with
    | false =>
      go_wp2_with fail
      go_ret
      exact ⟨by rw [HE.out, k1, k2]; rfl, BW⟩
    | true =>
      cases k3 : (x.born == y.born) with
      | false =>
        go_wp2_with fail
        go_ret
        exact ⟨by rw [HE.out, k1, k2, k3]; rfl, BW⟩
      | true =>
        cases k4 : (x.kind == y.kind) with
        | false =>
          go_wp2_with fail
          go_ret
          exact ⟨by rw [HE.out, k1, k2, k3, k4]; rfl, BW⟩
        | true =>
          cases k5 : (x.phase == y.phase) with
          | false =>
            go_wp2_with fail
            go_ret
            exact ⟨by rw [HE.out, k1, k2, k3, k4, k5]; rfl, BW⟩
          | true =>
            cases k6 : sameG x.car x.zone x.serv y.car y.zone y.serv with
            | false =>
              rw [k6] at Q
              go_wp2_with fail
              go_ret
              exact ⟨by rw [HE.out, k1, k2, k3, k4, k5, k6]; rfl, BW⟩
            | true =>
              rw [k6] at Q
              go_wp2_with fail
              refine C.out.mono ?_
              rintro e w1 ⟨rfl, b1⟩
              go_wp2_with fail
              go_ret
              exact ⟨by rw [HE.out, k1, k2, k3, k4, k5, k6]; rfl, BW.trans (b1.mono BW.size)⟩

end Go.Proofs.Ytieoihmndpkdoaa
