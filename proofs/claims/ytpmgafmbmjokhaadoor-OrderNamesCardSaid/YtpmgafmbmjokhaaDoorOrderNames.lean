/- OrderNames: the law returns true: the error, the limits and the phases of package order have their numbers and names. It has no input; the condition is its row's: the variable of the phases' names lies as the program's text lays it. -/
import Derived.Test.YtpmgafmbmjokhaaDoorOrNames
import Derived.Test.YtpmgafmbmjokhaaDoorOrAlive
import Derived.Test.YtpmgafmbmjokhaaDoorRows
import Derived.Test.YtpmgafmbmjokhaaDoorCards
import Derived.Test.YtpmgafmbmjokhaaDoorTie
import Derived.ProofKit
import Derived.Lay
import Derived.LaidOnce
import Derived.SevenTiedAt
namespace Go.Proofs.YtpmgafmbmjokhaaDoor
open Go.RowKit Go.ChangeShapes Go.WideShapes Go.ChangeAt

set_option maxRecDepth 100000 in
set_option maxHeartbeats 8000000 in
theorem names_walk (w : World) (h : NamesAt w) : Calls Tryd.prog 3 #[] w fun e w' => e = .returned (.bool true) ∧ Below w.heap.size w w' := by
  have H := Lib.hid h
  have CN := Lib.hid (refNames_any w)
  clear h
  go_enter Tryd.func3, Tryd.ntmps3
  go_wp2_with fail
  refine CN.out.mono ?_
  rintro e w1 ⟨g, rfl, c1, hg1, b1⟩
  have H1 := Lib.hid (H.out.below b1)
  have C1 := Lib.hid c1
  have B1 := Lib.hid b1
  clear c1 b1 CN H
  go_wp2_with fail
  go_loopw [2] (fun i wr => ∃ n : Int, i = .int .i64 n ∧ -1 ≤ n ∧ n ≤ 15 ∧ Below w1.heap.size w1 wr) (fun i _ => (15 - intOf i).toNat)
  case atStart => exact ⟨-1, rfl, by omega, by omega, Below.refl _ _⟩
  case round =>
    obtain ⟨n, rfl, h0, h15, hb⟩ := hrel
    have HB := Lib.hid hb
    clear hb
    have hn : n = -1 ∨ n = 0 ∨ n = 1 ∨ n = 2 ∨ n = 3 ∨ n = 4 ∨ n = 5 ∨ n = 6 ∨ n = 7 ∨ n = 8 ∨ n = 9 ∨ n = 10 ∨ n = 11 ∨ n = 12 ∨ n = 13 ∨ n = 14 ∨ n = 15 := by omega
    clear h0 h15
    rcases hn with rfl | rfl | rfl | rfl | rfl | rfl | rfl | rfl | rfl | rfl | rfl | rfl | rfl | rfl | rfl | rfl | rfl
    · have CP := Lib.hid (fun W (b : Below w1.heap.size w1 W) => show Calls Tryd.prog 5 #[.int .i64 (-1)] W (TextB ⟨#[]⟩ W) from phase_any (-1) W (H1.out.below b))
      have CO := Lib.hid (fun W => show Calls Tryd.prog 6 #[.int .i64 (-1)] W (BoolB false W) from over_any (-1) W)
      have CU := Lib.hid (fun W => show Calls Tryd.prog 7 #[.int .i64 (-1)] W (BoolB false W) from undo_any (-1) W)
      go_wp2_with fail
      refine (CP.out _ HB.out).mono ?_
      rintro e w2 ⟨rfl, b2⟩
      go_wp2_with fail
      refine (CO.out _).mono ?_
      rintro e w3 ⟨rfl, b3⟩
      go_wp2_with fail
      refine (CU.out _).mono ?_
      rintro e w4 ⟨rfl, b4⟩
      have HB2 := HB.out.trans (b2.mono HB.out.size)
      have HB3 := HB2.trans (b3.mono HB2.size)
      have HB4 := HB3.trans (b4.mono HB3.size)
      clear b2 b3 b4
      go_wp2_with fail
      go_roundw
      case rel => exact ⟨0, by go_num, by omega, by omega, HB4⟩
      case measure => simp [intOf]
    · have CP := Lib.hid (fun W (b : Below w1.heap.size w1 W) => show Calls Tryd.prog 5 #[.int .i64 (0)] W (TextB (nmV 0) W) from phase_any (0) W (H1.out.below b))
      have CO := Lib.hid (fun W => show Calls Tryd.prog 6 #[.int .i64 (0)] W (BoolB false W) from over_any (0) W)
      have CU := Lib.hid (fun W => show Calls Tryd.prog 7 #[.int .i64 (0)] W (BoolB false W) from undo_any (0) W)
      have hc := (HB.out.cell (p := ⟨g, 0, none⟩) hg1).trans (C1.out 0 (by omega))
      generalize nmV 0 = s at *
      go_wp2_with fail
      refine (CP.out _ HB.out).mono ?_
      rintro e w2 ⟨rfl, b2⟩
      go_wp2_with fail
      refine (CO.out _).mono ?_
      rintro e w3 ⟨rfl, b3⟩
      go_wp2_with fail
      refine (CU.out _).mono ?_
      rintro e w4 ⟨rfl, b4⟩
      have HB2 := HB.out.trans (b2.mono HB.out.size)
      have HB3 := HB2.trans (b3.mono HB2.size)
      have HB4 := HB3.trans (b4.mono HB3.size)
      clear b2 b3 b4
      go_wp2_with fail
      go_roundw
      case rel => exact ⟨1, by go_num, by omega, by omega, HB4⟩
      case measure => simp [intOf]
    · have CP := Lib.hid (fun W (b : Below w1.heap.size w1 W) => show Calls Tryd.prog 5 #[.int .i64 (1)] W (TextB (nmV 1) W) from phase_any (1) W (H1.out.below b))
      have CO := Lib.hid (fun W => show Calls Tryd.prog 6 #[.int .i64 (1)] W (BoolB false W) from over_any (1) W)
      have CU := Lib.hid (fun W => show Calls Tryd.prog 7 #[.int .i64 (1)] W (BoolB false W) from undo_any (1) W)
      have hc := (HB.out.cell (p := ⟨g, 1, none⟩) hg1).trans (C1.out 1 (by omega))
      generalize nmV 1 = s at *
      go_wp2_with fail
      refine (CP.out _ HB.out).mono ?_
      rintro e w2 ⟨rfl, b2⟩
      go_wp2_with fail
      refine (CO.out _).mono ?_
      rintro e w3 ⟨rfl, b3⟩
      go_wp2_with fail
      refine (CU.out _).mono ?_
      rintro e w4 ⟨rfl, b4⟩
      have HB2 := HB.out.trans (b2.mono HB.out.size)
      have HB3 := HB2.trans (b3.mono HB2.size)
      have HB4 := HB3.trans (b4.mono HB3.size)
      clear b2 b3 b4
      go_wp2_with fail
      go_roundw
      case rel => exact ⟨2, by go_num, by omega, by omega, HB4⟩
      case measure => simp [intOf]
    · have CP := Lib.hid (fun W (b : Below w1.heap.size w1 W) => show Calls Tryd.prog 5 #[.int .i64 (2)] W (TextB (nmV 2) W) from phase_any (2) W (H1.out.below b))
      have CO := Lib.hid (fun W => show Calls Tryd.prog 6 #[.int .i64 (2)] W (BoolB false W) from over_any (2) W)
      have CU := Lib.hid (fun W => show Calls Tryd.prog 7 #[.int .i64 (2)] W (BoolB false W) from undo_any (2) W)
      have hc := (HB.out.cell (p := ⟨g, 2, none⟩) hg1).trans (C1.out 2 (by omega))
      generalize nmV 2 = s at *
      go_wp2_with fail
      refine (CP.out _ HB.out).mono ?_
      rintro e w2 ⟨rfl, b2⟩
      go_wp2_with fail
      refine (CO.out _).mono ?_
      rintro e w3 ⟨rfl, b3⟩
      go_wp2_with fail
      refine (CU.out _).mono ?_
      rintro e w4 ⟨rfl, b4⟩
      have HB2 := HB.out.trans (b2.mono HB.out.size)
      have HB3 := HB2.trans (b3.mono HB2.size)
      have HB4 := HB3.trans (b4.mono HB3.size)
      clear b2 b3 b4
      go_wp2_with fail
      go_roundw
      case rel => exact ⟨3, by go_num, by omega, by omega, HB4⟩
      case measure => simp [intOf]
    · have CP := Lib.hid (fun W (b : Below w1.heap.size w1 W) => show Calls Tryd.prog 5 #[.int .i64 (3)] W (TextB (nmV 3) W) from phase_any (3) W (H1.out.below b))
      have CO := Lib.hid (fun W => show Calls Tryd.prog 6 #[.int .i64 (3)] W (BoolB false W) from over_any (3) W)
      have CU := Lib.hid (fun W => show Calls Tryd.prog 7 #[.int .i64 (3)] W (BoolB false W) from undo_any (3) W)
      have hc := (HB.out.cell (p := ⟨g, 3, none⟩) hg1).trans (C1.out 3 (by omega))
      generalize nmV 3 = s at *
      go_wp2_with fail
      refine (CP.out _ HB.out).mono ?_
      rintro e w2 ⟨rfl, b2⟩
      go_wp2_with fail
      refine (CO.out _).mono ?_
      rintro e w3 ⟨rfl, b3⟩
      go_wp2_with fail
      refine (CU.out _).mono ?_
      rintro e w4 ⟨rfl, b4⟩
      have HB2 := HB.out.trans (b2.mono HB.out.size)
      have HB3 := HB2.trans (b3.mono HB2.size)
      have HB4 := HB3.trans (b4.mono HB3.size)
      clear b2 b3 b4
      go_wp2_with fail
      go_roundw
      case rel => exact ⟨4, by go_num, by omega, by omega, HB4⟩
      case measure => simp [intOf]
    · have CP := Lib.hid (fun W (b : Below w1.heap.size w1 W) => show Calls Tryd.prog 5 #[.int .i64 (4)] W (TextB (nmV 4) W) from phase_any (4) W (H1.out.below b))
      have CO := Lib.hid (fun W => show Calls Tryd.prog 6 #[.int .i64 (4)] W (BoolB false W) from over_any (4) W)
      have CU := Lib.hid (fun W => show Calls Tryd.prog 7 #[.int .i64 (4)] W (BoolB false W) from undo_any (4) W)
      have hc := (HB.out.cell (p := ⟨g, 4, none⟩) hg1).trans (C1.out 4 (by omega))
      generalize nmV 4 = s at *
      go_wp2_with fail
      refine (CP.out _ HB.out).mono ?_
      rintro e w2 ⟨rfl, b2⟩
      go_wp2_with fail
      refine (CO.out _).mono ?_
      rintro e w3 ⟨rfl, b3⟩
      go_wp2_with fail
      refine (CU.out _).mono ?_
      rintro e w4 ⟨rfl, b4⟩
      have HB2 := HB.out.trans (b2.mono HB.out.size)
      have HB3 := HB2.trans (b3.mono HB2.size)
      have HB4 := HB3.trans (b4.mono HB3.size)
      clear b2 b3 b4
      go_wp2_with fail
      go_roundw
      case rel => exact ⟨5, by go_num, by omega, by omega, HB4⟩
      case measure => simp [intOf]
    · have CP := Lib.hid (fun W (b : Below w1.heap.size w1 W) => show Calls Tryd.prog 5 #[.int .i64 (5)] W (TextB (nmV 5) W) from phase_any (5) W (H1.out.below b))
      have CO := Lib.hid (fun W => show Calls Tryd.prog 6 #[.int .i64 (5)] W (BoolB false W) from over_any (5) W)
      have CU := Lib.hid (fun W => show Calls Tryd.prog 7 #[.int .i64 (5)] W (BoolB false W) from undo_any (5) W)
      have hc := (HB.out.cell (p := ⟨g, 5, none⟩) hg1).trans (C1.out 5 (by omega))
      generalize nmV 5 = s at *
      go_wp2_with fail
      refine (CP.out _ HB.out).mono ?_
      rintro e w2 ⟨rfl, b2⟩
      go_wp2_with fail
      refine (CO.out _).mono ?_
      rintro e w3 ⟨rfl, b3⟩
      go_wp2_with fail
      refine (CU.out _).mono ?_
      rintro e w4 ⟨rfl, b4⟩
      have HB2 := HB.out.trans (b2.mono HB.out.size)
      have HB3 := HB2.trans (b3.mono HB2.size)
      have HB4 := HB3.trans (b4.mono HB3.size)
      clear b2 b3 b4
      go_wp2_with fail
      go_roundw
      case rel => exact ⟨6, by go_num, by omega, by omega, HB4⟩
      case measure => simp [intOf]
    · have CP := Lib.hid (fun W (b : Below w1.heap.size w1 W) => show Calls Tryd.prog 5 #[.int .i64 (6)] W (TextB (nmV 6) W) from phase_any (6) W (H1.out.below b))
      have CO := Lib.hid (fun W => show Calls Tryd.prog 6 #[.int .i64 (6)] W (BoolB false W) from over_any (6) W)
      have CU := Lib.hid (fun W => show Calls Tryd.prog 7 #[.int .i64 (6)] W (BoolB false W) from undo_any (6) W)
      have hc := (HB.out.cell (p := ⟨g, 6, none⟩) hg1).trans (C1.out 6 (by omega))
      generalize nmV 6 = s at *
      go_wp2_with fail
      refine (CP.out _ HB.out).mono ?_
      rintro e w2 ⟨rfl, b2⟩
      go_wp2_with fail
      refine (CO.out _).mono ?_
      rintro e w3 ⟨rfl, b3⟩
      go_wp2_with fail
      refine (CU.out _).mono ?_
      rintro e w4 ⟨rfl, b4⟩
      have HB2 := HB.out.trans (b2.mono HB.out.size)
      have HB3 := HB2.trans (b3.mono HB2.size)
      have HB4 := HB3.trans (b4.mono HB3.size)
      clear b2 b3 b4
      go_wp2_with fail
      go_roundw
      case rel => exact ⟨7, by go_num, by omega, by omega, HB4⟩
      case measure => simp [intOf]
    · have CP := Lib.hid (fun W (b : Below w1.heap.size w1 W) => show Calls Tryd.prog 5 #[.int .i64 (7)] W (TextB (nmV 7) W) from phase_any (7) W (H1.out.below b))
      have CO := Lib.hid (fun W => show Calls Tryd.prog 6 #[.int .i64 (7)] W (BoolB false W) from over_any (7) W)
      have CU := Lib.hid (fun W => show Calls Tryd.prog 7 #[.int .i64 (7)] W (BoolB false W) from undo_any (7) W)
      have hc := (HB.out.cell (p := ⟨g, 7, none⟩) hg1).trans (C1.out 7 (by omega))
      generalize nmV 7 = s at *
      go_wp2_with fail
      refine (CP.out _ HB.out).mono ?_
      rintro e w2 ⟨rfl, b2⟩
      go_wp2_with fail
      refine (CO.out _).mono ?_
      rintro e w3 ⟨rfl, b3⟩
      go_wp2_with fail
      refine (CU.out _).mono ?_
      rintro e w4 ⟨rfl, b4⟩
      have HB2 := HB.out.trans (b2.mono HB.out.size)
      have HB3 := HB2.trans (b3.mono HB2.size)
      have HB4 := HB3.trans (b4.mono HB3.size)
      clear b2 b3 b4
      go_wp2_with fail
      go_roundw
      case rel => exact ⟨8, by go_num, by omega, by omega, HB4⟩
      case measure => simp [intOf]
    · have CP := Lib.hid (fun W (b : Below w1.heap.size w1 W) => show Calls Tryd.prog 5 #[.int .i64 (8)] W (TextB (nmV 8) W) from phase_any (8) W (H1.out.below b))
      have CO := Lib.hid (fun W => show Calls Tryd.prog 6 #[.int .i64 (8)] W (BoolB true W) from over_any (8) W)
      have CU := Lib.hid (fun W => show Calls Tryd.prog 7 #[.int .i64 (8)] W (BoolB false W) from undo_any (8) W)
      have hc := (HB.out.cell (p := ⟨g, 8, none⟩) hg1).trans (C1.out 8 (by omega))
      generalize nmV 8 = s at *
      go_wp2_with fail
      refine (CP.out _ HB.out).mono ?_
      rintro e w2 ⟨rfl, b2⟩
      go_wp2_with fail
      refine (CO.out _).mono ?_
      rintro e w3 ⟨rfl, b3⟩
      go_wp2_with fail
      refine (CU.out _).mono ?_
      rintro e w4 ⟨rfl, b4⟩
      have HB2 := HB.out.trans (b2.mono HB.out.size)
      have HB3 := HB2.trans (b3.mono HB2.size)
      have HB4 := HB3.trans (b4.mono HB3.size)
      clear b2 b3 b4
      go_wp2_with fail
      go_roundw
      case rel => exact ⟨9, by go_num, by omega, by omega, HB4⟩
      case measure => simp [intOf]
    · have CP := Lib.hid (fun W (b : Below w1.heap.size w1 W) => show Calls Tryd.prog 5 #[.int .i64 (9)] W (TextB (nmV 9) W) from phase_any (9) W (H1.out.below b))
      have CO := Lib.hid (fun W => show Calls Tryd.prog 6 #[.int .i64 (9)] W (BoolB false W) from over_any (9) W)
      have CU := Lib.hid (fun W => show Calls Tryd.prog 7 #[.int .i64 (9)] W (BoolB true W) from undo_any (9) W)
      have hc := (HB.out.cell (p := ⟨g, 9, none⟩) hg1).trans (C1.out 9 (by omega))
      generalize nmV 9 = s at *
      go_wp2_with fail
      refine (CP.out _ HB.out).mono ?_
      rintro e w2 ⟨rfl, b2⟩
      go_wp2_with fail
      refine (CO.out _).mono ?_
      rintro e w3 ⟨rfl, b3⟩
      go_wp2_with fail
      refine (CU.out _).mono ?_
      rintro e w4 ⟨rfl, b4⟩
      have HB2 := HB.out.trans (b2.mono HB.out.size)
      have HB3 := HB2.trans (b3.mono HB2.size)
      have HB4 := HB3.trans (b4.mono HB3.size)
      clear b2 b3 b4
      go_wp2_with fail
      go_roundw
      case rel => exact ⟨10, by go_num, by omega, by omega, HB4⟩
      case measure => simp [intOf]
    · have CP := Lib.hid (fun W (b : Below w1.heap.size w1 W) => show Calls Tryd.prog 5 #[.int .i64 (10)] W (TextB (nmV 10) W) from phase_any (10) W (H1.out.below b))
      have CO := Lib.hid (fun W => show Calls Tryd.prog 6 #[.int .i64 (10)] W (BoolB false W) from over_any (10) W)
      have CU := Lib.hid (fun W => show Calls Tryd.prog 7 #[.int .i64 (10)] W (BoolB true W) from undo_any (10) W)
      have hc := (HB.out.cell (p := ⟨g, 10, none⟩) hg1).trans (C1.out 10 (by omega))
      generalize nmV 10 = s at *
      go_wp2_with fail
      refine (CP.out _ HB.out).mono ?_
      rintro e w2 ⟨rfl, b2⟩
      go_wp2_with fail
      refine (CO.out _).mono ?_
      rintro e w3 ⟨rfl, b3⟩
      go_wp2_with fail
      refine (CU.out _).mono ?_
      rintro e w4 ⟨rfl, b4⟩
      have HB2 := HB.out.trans (b2.mono HB.out.size)
      have HB3 := HB2.trans (b3.mono HB2.size)
      have HB4 := HB3.trans (b4.mono HB3.size)
      clear b2 b3 b4
      go_wp2_with fail
      go_roundw
      case rel => exact ⟨11, by go_num, by omega, by omega, HB4⟩
      case measure => simp [intOf]
    · have CP := Lib.hid (fun W (b : Below w1.heap.size w1 W) => show Calls Tryd.prog 5 #[.int .i64 (11)] W (TextB (nmV 11) W) from phase_any (11) W (H1.out.below b))
      have CO := Lib.hid (fun W => show Calls Tryd.prog 6 #[.int .i64 (11)] W (BoolB true W) from over_any (11) W)
      have CU := Lib.hid (fun W => show Calls Tryd.prog 7 #[.int .i64 (11)] W (BoolB false W) from undo_any (11) W)
      have hc := (HB.out.cell (p := ⟨g, 11, none⟩) hg1).trans (C1.out 11 (by omega))
      generalize nmV 11 = s at *
      go_wp2_with fail
      refine (CP.out _ HB.out).mono ?_
      rintro e w2 ⟨rfl, b2⟩
      go_wp2_with fail
      refine (CO.out _).mono ?_
      rintro e w3 ⟨rfl, b3⟩
      go_wp2_with fail
      refine (CU.out _).mono ?_
      rintro e w4 ⟨rfl, b4⟩
      have HB2 := HB.out.trans (b2.mono HB.out.size)
      have HB3 := HB2.trans (b3.mono HB2.size)
      have HB4 := HB3.trans (b4.mono HB3.size)
      clear b2 b3 b4
      go_wp2_with fail
      go_roundw
      case rel => exact ⟨12, by go_num, by omega, by omega, HB4⟩
      case measure => simp [intOf]
    · have CP := Lib.hid (fun W (b : Below w1.heap.size w1 W) => show Calls Tryd.prog 5 #[.int .i64 (12)] W (TextB (nmV 12) W) from phase_any (12) W (H1.out.below b))
      have CO := Lib.hid (fun W => show Calls Tryd.prog 6 #[.int .i64 (12)] W (BoolB true W) from over_any (12) W)
      have CU := Lib.hid (fun W => show Calls Tryd.prog 7 #[.int .i64 (12)] W (BoolB false W) from undo_any (12) W)
      have hc := (HB.out.cell (p := ⟨g, 12, none⟩) hg1).trans (C1.out 12 (by omega))
      generalize nmV 12 = s at *
      go_wp2_with fail
      refine (CP.out _ HB.out).mono ?_
      rintro e w2 ⟨rfl, b2⟩
      go_wp2_with fail
      refine (CO.out _).mono ?_
      rintro e w3 ⟨rfl, b3⟩
      go_wp2_with fail
      refine (CU.out _).mono ?_
      rintro e w4 ⟨rfl, b4⟩
      have HB2 := HB.out.trans (b2.mono HB.out.size)
      have HB3 := HB2.trans (b3.mono HB2.size)
      have HB4 := HB3.trans (b4.mono HB3.size)
      clear b2 b3 b4
      go_wp2_with fail
      go_roundw
      case rel => exact ⟨13, by go_num, by omega, by omega, HB4⟩
      case measure => simp [intOf]
    · have CP := Lib.hid (fun W (b : Below w1.heap.size w1 W) => show Calls Tryd.prog 5 #[.int .i64 (13)] W (TextB ⟨#[]⟩ W) from phase_any (13) W (H1.out.below b))
      have CO := Lib.hid (fun W => show Calls Tryd.prog 6 #[.int .i64 (13)] W (BoolB false W) from over_any (13) W)
      have CU := Lib.hid (fun W => show Calls Tryd.prog 7 #[.int .i64 (13)] W (BoolB false W) from undo_any (13) W)
      go_wp2_with fail
      refine (CP.out _ HB.out).mono ?_
      rintro e w2 ⟨rfl, b2⟩
      go_wp2_with fail
      refine (CO.out _).mono ?_
      rintro e w3 ⟨rfl, b3⟩
      go_wp2_with fail
      refine (CU.out _).mono ?_
      rintro e w4 ⟨rfl, b4⟩
      have HB2 := HB.out.trans (b2.mono HB.out.size)
      have HB3 := HB2.trans (b3.mono HB2.size)
      have HB4 := HB3.trans (b4.mono HB3.size)
      clear b2 b3 b4
      go_wp2_with fail
      go_roundw
      case rel => exact ⟨14, by go_num, by omega, by omega, HB4⟩
      case measure => simp [intOf]
    · have CP := Lib.hid (fun W (b : Below w1.heap.size w1 W) => show Calls Tryd.prog 5 #[.int .i64 (14)] W (TextB ⟨#[]⟩ W) from phase_any (14) W (H1.out.below b))
      have CO := Lib.hid (fun W => show Calls Tryd.prog 6 #[.int .i64 (14)] W (BoolB false W) from over_any (14) W)
      have CU := Lib.hid (fun W => show Calls Tryd.prog 7 #[.int .i64 (14)] W (BoolB false W) from undo_any (14) W)
      go_wp2_with fail
      refine (CP.out _ HB.out).mono ?_
      rintro e w2 ⟨rfl, b2⟩
      go_wp2_with fail
      refine (CO.out _).mono ?_
      rintro e w3 ⟨rfl, b3⟩
      go_wp2_with fail
      refine (CU.out _).mono ?_
      rintro e w4 ⟨rfl, b4⟩
      have HB2 := HB.out.trans (b2.mono HB.out.size)
      have HB3 := HB2.trans (b3.mono HB2.size)
      have HB4 := HB3.trans (b4.mono HB3.size)
      clear b2 b3 b4
      go_wp2_with fail
      go_roundw
      case rel => exact ⟨15, by go_num, by omega, by omega, HB4⟩
      case measure => simp [intOf]
    · go_wp2_with fail
      refine (alive_any _).mono ?_
      rintro e w5 ⟨rfl, b5⟩
      have HB5 := HB.out.trans (b5.mono HB.out.size)
      go_wp2_with fail
      go_ret
      exact ⟨rfl, B1.out.trans (HB5.mono B1.out.size)⟩


theorem own : ownKnob Tryd.prog.godebug = none := by kernel_rfl

set_option maxRecDepth 100000 in
theorem names_lifted (os : Os) (started : os.Started) (H : Type) (enc : TypeId × Value → H) :
    ReturnsInHanded {} Tryd.checked os 3 .any (fun w args => (Rows.orderNamesSpec.pre enc Tryd.prog Tryd.f3 [] false w args ∧ laidMetH Tryd.prog Rows.orderNamesRow.laid w) ∧ sizedMet enc Tryd.prog Tryd.f3 (OpenSpec.ofChange Rows.orderNamesSpec) false w args)
      (Rows.orderNamesSpec.post enc Tryd.prog Tryd.f3 false true false false) := by
  refine returnsInHanded_of_change_and (C := Tryd.checked) (X := fun w _ => laidMetH Tryd.prog Rows.orderNamesRow.laid w) (fun _ _ _ hh h => h.of_heap hh) own started (by kernel_rfl) Tryd.func3
    (ChangeSpec.witness_shaped (enc := enc) (C := Tryd.checked) (os := os) (X := fun w _ => laidMetH Tryd.prog Rows.orderNamesRow.laid w) false (World.laidAll Tryd.prog os Rows.orderNamesRow.laid) #[] 8 (World.laidAll_os _ _ _)
      (World.shaped_of_ZipB (by kernel_rfl) (by kernel_rfl)) (by kernel_rfl) (by kernel_rfl) (by kernel_rfl)
      (by rw [MakeChecks.laidMetH_plain _ _ _ (by kernel_rfl)]; exact laidMet_laidAll _ (by kernel_rfl) (by kernel_rfl))) ?_
  intro W base args ds gs before hval0 hW _ _ hL _
  have hW' := hW
  obtain ⟨p, q, hA0, hV, rfl, _, _⟩ := hW
  have hA : DataW.TrodAll enc Tryd.prog W 0 (fun _ => true) true Tryd.f3.params.toList args.toList ds p := hA0
  rw [Tryd.params3] at hA
  obtain ⟨h1, rfl, rfl⟩ := trodAll_none hA
  obtain ⟨rfl, rfl⟩ := trodVars_none hV
  have hargs : args = #[] := by simpa using h1
  subst hargs
  simp only [List.append_nil] at hW'
  refine (names_walk W (names_of_laid hL)).mono fun e W' ⟨he, hb⟩ => ?_
  subst he
  exact ⟨_, rfl, _, _, _, [], [], [], hW', trodAll_mk1 (shut_bool Tryd.underlying4 _), trodAll_mk0, rfl, hb.frame _, fun h => by cases h⟩

theorem names_row : Rows.OrderNamesSaid :=
  OpenClaim.holds_of_wide 3 Tryd.f3 rfl rfl rfl rfl rfl rfl rfl ⟨rfl, rfl, rfl, rfl, rfl⟩ rfl rfl rfl rfl rfl (by kernel_rfl) Tryd.func3 (by kernel_rfl)
    (of_decide_eq_true (by kernel_rfl)) (by unfold Func.isWrapper; first | (rw [if_pos (by decide +kernel)]; kernel_rfl) | (rw [if_neg (by decide +kernel)]; exact ⟨rfl, rfl⟩))
    (fun os started H enc _ => names_lifted os started H enc)

theorem orderNames_holds : Rows.OrderNamesCardSaid :=
  Claim7.holds_tied_plain_at .later [] [.data] true _ false names_row (fun _ h => by cases h) (by kernel_rfl) (fun _ h => by cases h) orderNames_row_tie rfl ⟨rfl, rfl⟩ (by kernel_rfl) rfl
    (fun f fn hf hfn => by
      obtain rfl : f = 3 := Option.some.inj ((show Tryd.prog.funcNamed Rows.orderNamesRow.func = some 3 by kernel_rfl).symm.trans hf) |>.symm
      obtain rfl : fn = Tryd.f3 := (Option.some.inj (Tryd.func3.symm.trans hfn)).symm
      exact ⟨by kernel_rfl, fun j t ht => by
        rw [Tryd.params3] at ht
        simp at ht⟩)
    (by kernel_rfl)
#print axioms orderNames_holds
end Go.Proofs.YtpmgafmbmjokhaaDoor
