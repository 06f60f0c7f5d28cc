/- The law's example: what empty and batchAlive answer; a batch in a variable. -/
import Derived.Test.YtieoihmndpkdoaaBtJoin
import Derived.Test.YtieoihmndpkdoaaBtRules
import Derived.Deep.DeepCutAuto
import Derived.Deep.CutBlock
import Derived.Deep.RegionHeldLaw
import Derived.Deep.RegionLaw
namespace Go.Proofs.Ytieoihmndpkdoaa
set_option maxRecDepth 100000
open Go.RowKit Go.ChangeShapes Go.WideShapes Go.ChangeAt

def bt0 : Bt := ⟨1, 0, 0, 1, 1, ⟨#[99]⟩, ⟨#[122]⟩, ⟨#[115]⟩, []⟩
def btA : Bt := ⟨1, 10, 0, 1, 1, ⟨#[99]⟩, ⟨#[122]⟩, ⟨#[115]⟩, [⟨#[97]⟩]⟩
def btAB : Bt := ⟨1, 20, 0, 1, 1, ⟨#[99]⟩, ⟨#[122]⟩, ⟨#[115]⟩, [⟨#[97]⟩, ⟨#[98]⟩]⟩
def cp2 : Cp := ⟨2, 100⟩
theorem ex1 : joinE bt0 cp2 ⟨#[97]⟩ 10 = 0 ∧ joinV bt0 cp2 ⟨#[97]⟩ 10 = btA := ⟨by kernel_rfl, by kernel_rfl⟩
theorem ex2 : joinE btA cp2 ⟨#[98]⟩ 10 = 0 ∧ joinV btA cp2 ⟨#[98]⟩ 10 = btAB := ⟨by kernel_rfl, by kernel_rfl⟩
theorem ex3 : joinE btAB cp2 ⟨#[100]⟩ 10 = 111 ∧ joinV btAB cp2 ⟨#[100]⟩ 10 = btAB := ⟨by kernel_rfl, by kernel_rfl⟩

/-- The empty batch is answered; all that was there stays. -/
def EmptyPost (w : World) (e : Ending) (w' : World) : Prop := e = .returned (btV none 0 bt0) ∧ Below w.heap.size w w'

set_option maxHeartbeats 1000000 in
theorem empty_any (w : World) : Calls Try.prog 11 #[] w (EmptyPost w) := by
  have R : Hid (Row (w.alloc (.cells zB 28)) w.heap.size 28 zB) := Lib.hid (heap_alloc_new _ _)
  have B := Lib.hid ((Below.refl w.heap.size w).alloc (Nat.le_refl _) (.cells zB 28))
  unfold zB at *
  go_enter Try.func11, Try.ntmps11
  go_wp2_with (refine wpList_store_batch rfl _ _ rfl w.heap.size none 0 bt0 _ (by rfl) rfl rfl R.out ?_)
  (try simp only [Exit.inBlock, Exit.then])
  apply bodyPost_ret
  case hd => rfl
  case hr => exact results_cell_row rfl _ _ w.heap.size 28 _ (0, 0) _ rfl (setRow_heap _ _ _ _ _ _ R.out) Try.underlying28 rfl (size9 _ _ _ _ _ _ _ _ _)
  case hR => exact ⟨rfl, Below.row B.out (Nat.le_refl _) _⟩

theorem join1 (W : World) : Calls Try.prog 10 #[btV none 0 bt0, cpV cp2, .string ⟨#[97]⟩, .int .i64 10] W (BtAns btA 0 W) := by
  have := btJoin_any none 0 bt0 cp2 ⟨#[97]⟩ 10 W (StrsP.nil _ _ _) (by decide) (by decide)
  rwa [ex1.1, ex1.2] at this
theorem join2 (a : Option Addr) (cap : Nat) (W : World) (h : StrsP W a cap btA.mem) : Calls Try.prog 10 #[btV a cap btA, cpV cp2, .string ⟨#[98]⟩, .int .i64 10] W (BtAns btAB 0 W) := by
  have := btJoin_any a cap btA cp2 ⟨#[98]⟩ 10 W h (by decide) (by decide)
  rwa [ex2.1, ex2.2] at this
theorem join3 (a : Option Addr) (cap : Nat) (W : World) (h : StrsP W a cap btAB.mem) : Calls Try.prog 10 #[btV a cap btAB, cpV cp2, .string ⟨#[100]⟩, .int .i64 10] W (BtAns btAB 111 W) := by
  have := btJoin_any a cap btAB cp2 ⟨#[100]⟩ 10 W h (by decide) (by decide)
  rwa [ex3.1, ex3.2] at this

attribute [local go_sem ↓] ldBt stBt alBt bxBt ldCp
attribute [local go_sem] al_bt bx_bt alloc_setRow

set_option maxHeartbeats 4000000 in
theorem alive_any (w : World) : Calls Try.prog 13 #[] w (Tell true w) := by
  have CE := Lib.hid (fun W => empty_any W)
  have C1 := Lib.hid (fun W => join1 W)
  have C2 := Lib.hid (fun a cap W h => join2 a cap W h)
  have C3 := Lib.hid (fun a cap W h => join3 a cap W h)
  have l1 : btA.mem.length = 1 := rfl
  have l2 : btAB.mem.length = 2 := rfl
  have l3 : btAB.wt = 20 := rfl
  have K0 := Lib.hid (CapsI.new w cp2)
  have LC := Lib.hid (fun W (h : CapsI w w.heap.size cp2 W) => ld_cp h.row)
  unfold EmptyPost at CE
  unfold BtAns at C1 C2 C3
  unfold cp2 at *
  generalize bt0 = x0 at *
  generalize btA = xa at *
  generalize btAB = xb at *
  go_enter Try.func13, Try.ntmps13
  go_wp2_with fail
  generalize w.alloc (Obj.cells #[Value.int IntKind.i64 2, Value.int IntKind.i64 100] 23) = W0 at *
  have KD := K0.out
  have kd1 := KD.below (below_drew W0)
  have kd2 := (KD.below ((Below.refl _ _).alloc (Nat.le_refl _) (.cells zB 28))).below (below_drew _)
  have ld : ∀ W, CapsI w w.heap.size ⟨2, 100⟩ W → LdX 23 (.pointer (some ⟨w.heap.size, 0, none⟩)) W = .ok (.value (cpV ⟨2, 100⟩)) W := fun W h => LC.out W h
  have ka : ∀ W o, CapsI w w.heap.size ⟨2, 100⟩ W → CapsI w w.heap.size ⟨2, 100⟩ (W.alloc o) := fun W o h => h.below ((Below.refl _ _).alloc (Nat.le_refl _) o)
  have sa : ∀ W : World, Slot (W.alloc (.cells zB 28)) W.heap.size := fun W => Slot.new W
  have st : ∀ (W : World) g a cap x, Slot W g → StX 28 (.pointer (some ⟨g, 0, none⟩)) (btV a cap x) W = .ok .skip (W.setRow g (btC a cap x)) := fun W g a cap x h => h.store a cap x
  go_cut [2, 3] (fun p e wx => ∃ g a c, p = .pointer (some ⟨g, 0, none⟩) ∧ e = .int .i64 0 ∧ Hid (Vb wx g a c xa) ∧ Hid (CapsI w w.heap.size ⟨2, 100⟩ wx))
  case first =>
    have hk0 := K0.out.row.lt
    go_region_law (first
      | (go_simp; go_at_call 11; refine (CE.out _).mono ?_; rintro e w2 ⟨rfl, b2⟩; have k2 : CapsI w w.heap.size ⟨2, 100⟩ w2 := CapsI.below (by simp only [*]) b2; have hk2 := k2.row.lt; (try have s2 : Slot w2 W0.heap.size := Slot.below (Slot.drew (Slot.new W0)) b2))
      | (go_simp; go_at_call 10; refine (C1.out _).mono ?_; rintro e w3 ⟨a3, p3, rfl, o3, b3⟩; have k3 : CapsI w w.heap.size ⟨2, 100⟩ w3 := CapsI.below (by simp only [*]) b3; (try have s3 := Slot.below (Slot.new _) b3); (try have s3 := Slot.below s2 b3)))
    all_goals
      have O3 := Lib.hid o3
      go_wp2_with fail
      go_meet
      first
        | exact ⟨_, a3, p3, rfl, rfl, Lib.hid (Vb.new O3.out.reads.2), Lib.hid (k3.below ((Below.refl _ _).alloc (Nat.le_refl _) _))⟩
        | exact ⟨_, a3, p3, rfl, rfl, Lib.hid ⟨s3.row a3 p3 xa, (O3.out.setRow (by first | exact s2.lt | simp) _).reads.2⟩, Lib.hid (k3.setRow (by omega) (by omega) _)⟩
  case rest =>
    obtain ⟨g1, a1, c1, rfl, rfl, V1, K1⟩ := hcut
    have ld1 := ld_bt V1.out.row
    have ldc := LC.out _ K1.out
    go_wp2_with fail
    refine (C2.out a1 c1 _ V1.out.mem).mono ?_
    rintro e w4 ⟨a4, c4, rfl, o4, b4⟩
    have N4 := Lib.hid (Vb.new o4.reads.2)
    have V4 := Lib.hid (V1.out.next b4 (.cells (btC a4 c4 xb) 28))
    have K4 := Lib.hid (K1.out.next b4 (.cells (btC a4 c4 xb) 28))
    clear ld1 ldc V1 K1 o4 b4
    have ld1 := ld_bt N4.out.row
    have ldc := LC.out _ K4.out
    go_wp2_with fail
    refine (C3.out a4 c4 _ N4.out.mem).mono ?_
    rintro e w5 ⟨a5, c5, rfl, o5, b5⟩
    have N5 := Lib.hid (N4.out.next b5 (.cells (btC a5 c5 xb) 28))
    have V5 := Lib.hid (V4.out.next b5 (.cells (btC a5 c5 xb) 28))
    have K5 := Lib.hid (K4.out.next b5 (.cells (btC a5 c5 xb) 28))
    clear ld1 ldc N4 V4 K4 o5 b5
    have m1 := N5.out.c8
    have m2 := N5.out.c1
    have m3 := V5.out.c8
    rw [l2] at m1
    rw [l3] at m2
    rw [l1] at m3
    clear l1 l2 l3
    go_wp2_with fail
    go_ret
    exact ⟨rfl, K5.out.low⟩

end Go.Proofs.Ytieoihmndpkdoaa
