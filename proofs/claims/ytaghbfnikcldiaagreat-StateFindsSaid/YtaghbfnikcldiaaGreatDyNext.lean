/- What Next and Passed of package day answer, and the document's Closes and Next. -/
import Derived.Test.YtaghbfnikcldiaaGreatDyLeaf
namespace Go.Proofs.YtaghbfnikcldiaaGreat
set_option maxRecDepth 100000
open Go.RowKit

set_option maxHeartbeats 1000000 in
theorem closedBy_any (a : Option Addr) (cap : Nat) (l : List Int) (t : Int) (w : World) (h : IntsP w a cap l) (hf : FitsP l) (h0 : 0 ≤ t) (h1 : t < 96) :
    Calls Tryz.prog 122 #[.slice a l.length cap, .int .i64 t] w fun e w' => e = .returned (.int .i64 (closedN l t : Nat)) ∧ Below w.heap.size w w' := by
  have hl := hf.len
  have C := Lib.hid (dySearch_any a cap l (t + 1) w h (by omega) hf.asc)
  have hlt : closedN l t ≤ l.length := closedN_le l t
  change Hid (Calls Tryz.prog 80 #[.slice a l.length cap, .int .i64 (t + 1)] w fun e w' => e = .returned (.tuple #[.int .i64 (closedN l t : Nat), .bool (l.contains (t + 1))]) ∧ ∃ q, w' = w.drewN q) at C
  generalize l.contains (t + 1) = c at C
  generalize closedN l t = n at *
  clear h hf
  go_enter Tryz.func122, Tryz.ntmps122
  go_wp2_with fail
  refine C.out.mono ?_
  rintro e w' ⟨rfl, q, rfl⟩
  go_wp2_with fail
  go_ret
  exact ⟨rfl, dyBelow_drewN (Below.refl _ _) q⟩

set_option maxHeartbeats 2000000 in
theorem closings_any (a : Option Addr) (cap : Nat) (l : List Int) (t : Int) (w : World) (h : IntsP w a cap l) (hf : FitsP l) (ht : dyRightB t = true) :
    Calls Tryz.prog 97 #[.slice a l.length cap, .int .i64 t] w fun e w' => e = .returned (.int .i64 (closeN l t)) ∧ Below w.heap.size w w' := by
  obtain ⟨t0, t1⟩ := rightB_true.1 ht
  have hl := hf.len
  have C1 := Lib.hid (fun W => of_any t W)
  have ho : ofD t = t / 96 := by simp [ofD, ht]
  have ho2 : ofT t = t % 96 := by simp [ofT, ht]
  rw [ho, ho2] at C1
  have HI := Lib.hid h
  have C2 := Lib.hid (fun W (hw : IntsP W a cap l) => closedBy_any a cap l (t % 96) W hw hf (by omega) (by omega))
  have E : closeN l t = t / 96 * l.length + (closedN l (t % 96) : Nat) := rfl
  obtain ⟨b1, b2, b3, b4⟩ := closeN_bounds hf t0 t1
  rw [E] at b3 b4
  rw [E]
  have hw1 : IntKind.i64.wrap (t / 96 * l.length) = t / 96 * l.length := IntWalk.i64_in _ (by omega)
  have hc := closedN_le l (t % 96)
  generalize closedN l (t % 96) = n at *
  have hw2 : IntKind.i64.wrap (t / 96 * l.length + n) = t / 96 * l.length + n := IntWalk.i64_in _ (by omega)
  have q0 : 0 ≤ t / 96 := by omega
  have q1 : t / 96 ≤ 1099511627776 := by omega
  clear h hf ht ho ho2 E
  go_enter Tryz.func97, Tryz.ntmps97
  go_wp2_with fail
  refine (C1.out _).mono ?_
  rintro e w' ⟨rfl, rfl⟩
  go_wp2_with fail
  refine (C2.out _ HI.out).mono ?_
  rintro e w' ⟨rfl, b5⟩
  go_wp2_with fail
  go_ret
  exact ⟨rfl, b5⟩


end Go.Proofs.YtaghbfnikcldiaaGreat
