/- SnapNames: the law returns true: the error and the kinds have their numbers; what can't be is told so. The condition is its row's: the variable kinds lies as the program's text lays it. -/
import Derived.Test.YtfmpibmhhfmajaaGreatDoorMgBase
import Derived.Test.YtfmpibmhhfmajaaGreatDoorPLb
import Derived.Test.YtfmpibmhhfmajaaGreatDoorLbShelf
import Derived.Test.YtfmpibmhhfmajaaGreatDoorPSl
import Derived.Test.YtfmpibmhhfmajaaGreatDoorMgLines
import Derived.Test.YtfmpibmhhfmajaaGreatDoorMgOrders
import Derived.Test.YtfmpibmhhfmajaaGreatDoorMgBatches
import Derived.Test.YtfmpibmhhfmajaaGreatDoorMgEffects
import Derived.Test.YtfmpibmhhfmajaaGreatDoorPDy
import Derived.Test.YtfmpibmhhfmajaaGreatDoorDyShelf
import Derived.Test.YtfmpibmhhfmajaaGreatDoorMgState
import Derived.Test.YtfmpibmhhfmajaaGreatDoorMgStates
import Derived.Test.YtfmpibmhhfmajaaGreatDoorMgRight
import Derived.Test.YtfmpibmhhfmajaaGreatDoorMgProg
import Derived.Test.YtfmpibmhhfmajaaGreatDoorMgCopy
import Derived.Test.YtfmpibmhhfmajaaGreatDoorPSc
import Derived.Test.YtfmpibmhhfmajaaGreatDoorPOr
import Derived.Test.YtfmpibmhhfmajaaGreatDoorPBt
import Derived.Test.YtfmpibmhhfmajaaGreatDoorPOb
import Derived.Test.YtfmpibmhhfmajaaGreatDoorSnPlain
import Derived.Test.YtfmpibmhhfmajaaGreatDoorSnLay
import Derived.Test.YtfmpibmhhfmajaaGreatDoorSnPlain2
import Derived.Test.YtfmpibmhhfmajaaGreatDoorSnRef3
import Derived.Test.YtfmpibmhhfmajaaGreatDoorSnRef4
import Derived.Test.YtfmpibmhhfmajaaGreatDoorSnKinds
import Derived.Test.YtfmpibmhhfmajaaGreatDoorSnLines
import Derived.Test.YtfmpibmhhfmajaaGreatDoorSnTold
import Derived.Test.YtfmpibmhhfmajaaGreatDoorSnRight
import Derived.Test.YtfmpibmhhfmajaaGreatDoorSnCon
import Derived.Test.YtfmpibmhhfmajaaGreatDoorSnRow
import Derived.Test.YtfmpibmhhfmajaaGreatDoorSnOwn
import Derived.Test.YtfmpibmhhfmajaaGreatDoorSnRead0
import Derived.Test.YtfmpibmhhfmajaaGreatDoorSnReadP
import Derived.Test.YtfmpibmhhfmajaaGreatDoorSnReadP2
import Derived.Test.YtfmpibmhhfmajaaGreatDoorSnReadP3
import Derived.Test.YtfmpibmhhfmajaaGreatDoorSnReadD
import Derived.Test.YtfmpibmhhfmajaaGreatDoorSnCmd
import Derived.Test.YtfmpibmhhfmajaaGreatDoorSnState
import Derived.Test.YtfmpibmhhfmajaaGreatDoorSnAlive
import Derived.Test.YtfmpibmhhfmajaaGreatDoorRSnapNamesA
import Derived.Test.YtfmpibmhhfmajaaGreatDoorRows
import Derived.Test.YtfmpibmhhfmajaaGreatDoorCards
import Derived.Test.YtfmpibmhhfmajaaGreatDoorTie
import Derived.ProofKit
import Derived.Lay
import Derived.LaidOnce
import Derived.SevenTiedAt
import Derived.MakeChecks
namespace Go.Proofs.YtfmpibmhhfmajaaGreatDoor
open Go.ChangeShapes Go.WideShapes Go.ChangeAt Go.RowKit

set_option maxRecDepth 100000
attribute [local go_sem ↓] ldCm stCm alCm bxCm bdCm ldSt stSt alSt bxSt bdSt
attribute [local go_sem] al_cm bx_cm st_cmnew bd_cm bd_cmKind al_sta bx_sta st_stnew bd_sta

def yesR (k : Int) (y : Bool) : CmR := ⟨⟨k, ⟨#[]⟩, [], ⟨#[]⟩, ⟨#[]⟩, ⟨#[]⟩, 0, 0, y⟩, none, 0⟩
theorem bd_cmYes (k : Int) (y : Bool) (w : World) : BdX 26 #[(0, .int .i64 k), (6, .bool y)] w = .ok (.value (cmV (yesR k y))) w := by kernel_rfl
attribute [local go_sem] bd_cmYes
theorem told_nil : toldE [] = 161 := by decide +kernel
theorem read_nil : readE [] = 161 := by decide +kernel
theorem told_six : toldE [6, 0] = 161 := by decide +kernel
theorem told_five : toldE [5, 7, 1] = 0 ∧ (toldV [5, 7, 1]).number = 7 ∧ (toldV [5, 7, 1]).yes = true := by decide +kernel
theorem right_no : rightC (yesR 6 true).m = false ∧ rightC (kindR 9).m = false := by decide +kernel
theorem empty_cm (k : Int) (y : Bool) (W : World) : CmP W (yesR k y) := ⟨LnsP.nil _ _ _, by show (0 : Nat) ≤ maxLen; omega, empty_le, empty_le, empty_le, empty_le⟩
theorem bytes_lit (W : World) (l : List Nat) (h : Bytes l) (hl : l.length ≤ 100) : BytesP (W.alloc (.cells (l.map fun n : Nat => Value.int .u8 (n : Int)).toArray 5)) (some ⟨W.heap.size, 0, none⟩) l.length l := by
  refine ⟨Nat.le_refl _, by omega, h, fun _ => ⟨W.heap.size, 0, rfl, by simp, fun j y hj => ?_⟩⟩
  rw [Nat.zero_add, (Row.new W (l.map fun n : Nat => Value.int .u8 (n : Int)).toArray 5).cell j]
  simp [hj]

set_option maxHeartbeats 8000000 in
theorem names_walk (HA : AliveC) (HR : CmRightC) (HT : ToldC) (HD : ReadC) (w : World) (HK : Hid (KdAt w)) :
    Calls Tryz.prog 3 #[] w (Tell true w) := by
  have C1 := Lib.hid (HT none 0 [] w HK.out (BytesP.nil _ _ _) (by simp))
  go_enter Tryz.func3, Tryz.ntmps3
  go_wp2_with fail
  refine C1.out.mono ?_
  rintro e w1 ⟨r1, rfl, _, _, b1⟩
  rw [told_nil]
  have B1 := Lib.hid (b1.alloc b1.size (.cells (cmC r1) 26))
  have C2 := Lib.hid (HD none 0 [] (w1.alloc (.cells (cmC r1) 26)) (BytesP.nil _ _ _) (by simp))
  clear b1 C1
  go_wp2_with fail
  generalize w1.alloc (.cells (cmC r1) 26) = W1 at *
  refine C2.out.mono ?_
  rintro e w2 ⟨r2, rfl, _, _, b2⟩
  rw [read_nil]
  have B2 := Lib.hid (B1.out.trans (b2.mono B1.out.size))
  have B3 := Lib.hid (B2.out.alloc B2.out.size (.cells (stC r2) 37))
  clear b2 C2 B1 B2
  have C3 := Lib.hid (fun (W : World) (k : KdAt W) => show Calls Tryz.prog 10 #[.slice (some ⟨W.heap.size, 0, none⟩) 2 2] (W.alloc (.cells #[.int .u8 6, .int .u8 0] 5)) (ToldPost [6, 0] (W.alloc (.cells #[.int .u8 6, .int .u8 0] 5))) from HT _ 2 [6, 0] _ (k.below ((Below.refl _ _).alloc (Nat.le_refl _) _)) (bytes_lit W [6, 0] (fun y hy => by simp at hy; omega) (by decide)) (by decide))
  have C4 := Lib.hid (fun (W : World) (k : KdAt W) => show Calls Tryz.prog 10 #[.slice (some ⟨W.heap.size, 0, none⟩) 3 3] (W.alloc (.cells #[.int .u8 5, .int .u8 7, .int .u8 1] 5)) (ToldPost [5, 7, 1] (W.alloc (.cells #[.int .u8 5, .int .u8 7, .int .u8 1] 5))) from HT _ 3 [5, 7, 1] _ (k.below ((Below.refl _ _).alloc (Nat.le_refl _) _)) (bytes_lit W [5, 7, 1] (fun y hy => by simp at hy; omega) (by decide)) (by decide))
  have C3' := C3.out (w2.alloc (.cells (stC r2) 37)) (HK.out.below B3.out)
  rw [show (w2.alloc (.cells (stC r2) 37)).heap.size = w2.heap.size + 1 by simp] at C3'
  have C3' := Lib.hid C3'
  go_wp2_with fail
  generalize w2.alloc (.cells (stC r2) 37) = W2 at *
  refine C3'.out.mono ?_
  rintro e w3 ⟨r3, rfl, _, _, b3⟩
  rw [told_six]
  have B4 := Lib.hid ((B3.out.alloc B3.out.size (.cells #[.int .u8 6, .int .u8 0] 5)).trans (b3.mono (Nat.le_trans B3.out.size (by simp))))
  have B5 := Lib.hid (B4.out.alloc B4.out.size (.cells (cmC r3) 26))
  clear b3 C3 C3' B3 B4
  have C4' := C4.out (w3.alloc (.cells (cmC r3) 26)) (HK.out.below B5.out)
  rw [show (w3.alloc (.cells (cmC r3) 26)).heap.size = w3.heap.size + 1 by simp] at C4'
  have C4' := Lib.hid C4'
  go_wp2_with fail
  generalize w3.alloc (.cells (cmC r3) 26) = W3 at *
  refine C4'.out.mono ?_
  rintro e w4 ⟨r4, rfl, hr4, _, b4⟩
  rw [told_five.1]
  have n4 : r4.m.number = 7 := by rw [hr4]; exact told_five.2.1
  have y4 : r4.m.yes = true := by rw [hr4]; exact told_five.2.2
  have B6 := Lib.hid ((B5.out.alloc B5.out.size (.cells #[.int .u8 5, .int .u8 7, .int .u8 1] 5)).trans (b4.mono (Nat.le_trans B5.out.size (by simp))))
  have B7 := Lib.hid (B6.out.alloc B6.out.size (.cells (cmC r4) 26))
  have R7 := Lib.hid (Row.new w4 (cmC r4) 26)
  clear b4 C4 C4' B5 B6 hr4
  go_wp2_with fail
  generalize w4.alloc (.cells (cmC r4) 26) = W4 at *
  generalize w4.heap.size = g4 at *
  refine (HA _ (HK.out.below B7.out)).mono ?_
  rintro e w5 ⟨rfl, b5⟩
  have B8 := Lib.hid (B7.out.trans (b5.mono B7.out.size))
  have R8 := Lib.hid (R7.out.below b5)
  have c7 := R8.out.m.2.2.2.1
  have c8 := R8.out.m.2.2.2.2
  rw [n4] at c7
  rw [y4] at c8
  have C6 := Lib.hid (HR (yesR 6 true) w5 (HK.out.below B8.out) (empty_cm _ _ _))
  rw [right_no.1] at C6
  clear b5 B7 R7
  go_wp2_with fail
  refine C6.out.mono ?_
  rintro e w6 ⟨rfl, b6⟩
  have B9 := Lib.hid (B8.out.trans (b6.mono B8.out.size))
  have C7 := Lib.hid (HR (kindR 9) w6 (HK.out.below B9.out) (empty_cm 9 false _))
  rw [right_no.2] at C7
  clear b6 C6 B8 c7 c8
  go_wp2_with fail
  refine C7.out.mono ?_
  rintro e w7 ⟨rfl, b7⟩
  have B10 := Lib.hid (B9.out.trans (b7.mono B9.out.size))
  clear b7 C7
  go_wp2_with fail
  go_ret
  exact ⟨rfl, B10.out⟩


set_option maxRecDepth 100000 in
set_option maxHeartbeats 1000000 in
theorem snapNames_lifted (os : Os) (started : os.Started) (H : Type) (enc : TypeId × Value → H) :
    ReturnsInHanded {} Tryz.checked os 3 .any (fun w args => (Rows.snapNamesSpec.pre enc Tryz.prog Tryz.f3 [] false w args ∧ laidMetH Tryz.prog Rows.snapNamesRow.laid w) ∧ sizedMet enc Tryz.prog Tryz.f3 (OpenSpec.ofChange Rows.snapNamesSpec) false w args)
      (Rows.snapNamesSpec.post enc Tryz.prog Tryz.f3 false true false false) := by
  refine returnsInHanded_of_change_and (C := Tryz.checked) (X := fun w _ => laidMetH Tryz.prog Rows.snapNamesRow.laid w) (fun _ _ _ hh h => h.of_heap hh) own started (by kernel_rfl) Tryz.func3
    (ChangeSpec.witness_shaped (enc := enc) (C := Tryz.checked) (os := os) (X := fun w _ => laidMetH Tryz.prog Rows.snapNamesRow.laid w) false (World.laidAll Tryz.prog os Rows.snapNamesRow.laid) #[] 8 (World.laidAll_os _ _ _)
      (World.shaped_of_ZipB (by kernel_rfl) (by kernel_rfl)) (by kernel_rfl) (by kernel_rfl) (by kernel_rfl)
      (by rw [MakeChecks.laidMetH_plain _ _ _ (by kernel_rfl)]; exact laidMet_laidAll _ (by kernel_rfl) (by kernel_rfl))) ?_
  intro W base args ds gs before hval0 hW _ _ hL _
  have hW' := hW
  obtain ⟨p, q, hA0, hV, rfl, _, _⟩ := hW
  have hA : DataW.TrodAll enc Tryz.prog W 0 (fun _ => true) true Tryz.f3.params.toList args.toList ds p := hA0
  rw [Tryz.params3] at hA
  obtain ⟨h1, rfl, rfl⟩ := trodAll_none hA
  have hargs : args = #[] := by simpa using h1
  subst hargs
  obtain ⟨rfl, rfl⟩ := trodVars_none hV
  clear hA0 hval0
  simp only [List.append_nil] at hW'

  refine (names_walk (snapAlive_of new_of state_of read_of command_of same_of) cmRight0 told_of read_of W (Lib.hid (kinds_of_laid hL))).mono fun e W' ⟨he, hb⟩ => ?_
  subst he
  exact ⟨_, rfl, _, _, _, [], [], [], hW', trodAll_mk1 (shut_bool Tryz.underlying4 _), trodAll_mk0, rfl, hb.frame _, fun h => by cases h⟩

theorem snapNames_rowsaid : Rows.SnapNamesSaid :=
  OpenClaim.holds_of_wide 3 Tryz.f3 rfl rfl rfl rfl rfl rfl rfl ⟨rfl, rfl, rfl, rfl, rfl⟩ rfl rfl rfl rfl rfl (by kernel_rfl) Tryz.func3 (by kernel_rfl)
    (of_decide_eq_true (by kernel_rfl)) (by unfold Func.isWrapper; first | (rw [if_pos (by decide +kernel)]; kernel_rfl) | (rw [if_neg (by decide +kernel)]; exact ⟨rfl, rfl⟩))
    (fun os started H enc _ => snapNames_lifted os started H enc)

theorem snapNames_holds : Rows.SnapNamesCardSaid :=
  Claim7.holds_tied_plain_at .later [] [.data] true _ false snapNames_rowsaid (fun _ h => by cases h) (by kernel_rfl) (fun _ h => by cases h) snapNames_row_tie rfl ⟨rfl, rfl⟩ (by kernel_rfl) rfl
    (fun f fn hf hfn => by
      obtain rfl : f = 3 := Option.some.inj ((show Tryz.prog.funcNamed Rows.snapNamesRow.func = some 3 by kernel_rfl).symm.trans hf) |>.symm
      obtain rfl : fn = Tryz.f3 := (Option.some.inj (Tryz.func3.symm.trans hfn)).symm
      exact ⟨by kernel_rfl, fun j t ht => by
        rw [Tryz.params3] at ht
        simp at ht⟩)
    (by kernel_rfl)
#print axioms snapNames_holds


end Go.Proofs.YtfmpibmhhfmajaaGreatDoor
