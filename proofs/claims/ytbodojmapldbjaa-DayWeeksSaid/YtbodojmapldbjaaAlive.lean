/- What the chapter's example answers. -/
import Derived.Test.YtbodojmapldbjaaDoors
namespace Go.Proofs.Ytbodojmapldbjaa
open Go.RowKit

theorem ints_one (x : Int) (W : World) (T : TypeId) : IntsP (W.alloc (.cells #[.int .i64 x] T)) (some ⟨W.heap.size, 0, none⟩) 1 [x] := by
  refine ⟨by simp, fun _ => ⟨_, _, rfl, by simp, fun j v hj => ?_⟩⟩
  match j, hj with
  | 0, hj => simp at hj; subst hj; simp
  | _ + 1, hj => simp at hj

theorem ints_two (x y : Int) (W : World) (T : TypeId) : IntsP (W.alloc (.cells #[.int .i64 x, .int .i64 y] T)) (some ⟨W.heap.size, 0, none⟩) 2 [x, y] := by
  refine ⟨by simp, fun _ => ⟨_, _, rfl, by simp, fun j v hj => ?_⟩⟩
  match j, hj with
  | 0, hj => simp at hj; subst hj; simp
  | 1, hj => simp at hj; subst hj; simp
  | _ + 2, hj => simp at hj

theorem ints_three (x y z : Int) (W : World) (T : TypeId) : IntsP (W.alloc (.cells #[.int .i64 x, .int .i64 y, .int .i64 z] T)) (some ⟨W.heap.size, 0, none⟩) 3 [x, y, z] := by
  refine ⟨by simp, fun _ => ⟨_, _, rfl, by simp, fun j v hj => ?_⟩⟩
  match j, hj with
  | 0, hj => simp at hj; subst hj; simp
  | 1, hj => simp at hj; subst hj; simp
  | 2, hj => simp at hj; subst hj; simp
  | _ + 3, hj => simp at hj

def TrueB (w : World) (e : Ending) (w' : World) : Prop := e = .returned (.bool true) ∧ Below w.heap.size w w'

theorem below_new (w : World) (o : Obj) : Below w.heap.size w (w.alloc o) := (Below.refl _ _).alloc (Nat.le_refl _) _

set_option maxHeartbeats 2000000 in
/-- The chapter's example. -/
theorem alive_any (w : World) : Calls Try.prog 13 #[] w (TrueB w) := by
  have C1 := Lib.hid (fun W : World => doors_any _ 3 [64, 32, 64] _ (ints_three 64 32 64 W 3) (by decide))
  have hv : doorsV [64, 32, 64] = [32, 64] ∧ doorsE [64, 32, 64] = 0 := by decide
  have C2 := Lib.hid (fun a cap W (hw : IntsP W a cap [32, 64]) => next_any a cap [32, 64] 64 W hw (by decide))
  have hn : nextV [32, 64] 64 = 128 ∧ nextE [32, 64] 64 = 0 := by decide
  rw [hn.1, hn.2] at C2
  have C3 := Lib.hid (fun W => of_any 130 W)
  have ho : ofD 130 = 1 ∧ ofT 130 = 34 := by decide
  rw [ho.1, ho.2] at C3
  have C4 := Lib.hid (fun a cap (W : World) (hw : IntsP (W.alloc (.cells #[.int .i64 32, .int .i64 64] 3)) a cap [32, 64]) => same_any a _ cap 2 [32, 64] _ hw (ints_two 32 64 W 3) (by decide))
  have HV := Lib.hid hv
  clear hv hn ho
  go_enter Try.func13, Try.ntmps13
  go_wp2_with fail
  refine (C1.out _).mono ?_
  rintro e w1 ⟨a, cap, rfl, i1, b1⟩
  rw [HV.out.1] at i1 ⊢
  rw [HV.out.2]
  have b2 := (below_new w _).trans (b1.mono (below_new w _).size)
  have I1 := Lib.hid i1
  clear i1 b1
  go_wp2_with fail
  refine (C2.out _ _ _ I1.out).mono ?_
  rintro e w2 ⟨rfl, b3⟩
  go_wp2_with fail
  refine (C3.out _).mono ?_
  rintro e w' ⟨rfl, rfl⟩
  go_wp2_with fail
  refine (C4.out _ _ _ ((I1.out.below b3).below (below_new _ _))).mono ?_
  rintro e w4 ⟨rfl, b4⟩
  have b5 := (below_new w2 _).trans (b4.mono (below_new w2 _).size)
  have b6 := b2.trans (b3.mono b2.size)
  have b7 := b6.trans (b5.mono b6.size)
  clear b4 b5
  go_wp2_with fail
  go_ret
  exact ⟨rfl, b7⟩

end Go.Proofs.Ytbodojmapldbjaa
