/- CheckNames: the law returns true: of nothing it is nothing. It has no conditions. -/
import Derived.Test.YtgelfopjolkfdaaArgs
namespace Go.Proofs.Ytgelfopjolkfdaa
open Go.ChangeShapes Go.WideShapes Go.ChangeAt Go.RowKit

/-- A given number is answered, and what was there is as it was. -/
def FixB (n : Int) (w : World) (e : Ending) (w' : World) : Prop := e = .returned (.int .u32 n) ∧ Below w.heap.size w w'

theorem numB_fix {n : Nat} {i : Int} (h : (n : Int) = i) {f : FuncId} {args : Array Value} {w w0 : World} (c : Calls Try.prog f args w (NumB n w0)) : Calls Try.prog f args w (FixB i w0) := by
  subst h
  exact c

theorem bytes000 : Bytes [0, 0, 0] := by unfold Bytes; decide

theorem of000 (w : World) : Calls Try.prog 10 #[.slice (some ⟨w.heap.size + 1, 0, none⟩) 1 1]
    ((w.alloc (.cells #[.int .u8 0, .int .u8 0, .int .u8 0] 5)).alloc (.cells #[.slice (some ⟨w.heap.size, 0, none⟩) 3 3] 27))
    (Num (noughts 3) ((w.alloc (.cells #[.int .u8 0, .int .u8 0, .int .u8 0] 5)).alloc (.cells #[.slice (some ⟨w.heap.size, 0, none⟩) 3 3] 27))) := by
  rw [noughts_crc]
  exact of_one (bytes_block _ bytes000 (by simp) w 5 (0, 0)) 27 _ (by simp)

set_option maxHeartbeats 2000000 in
theorem names_walk (w : World) : Calls Try.prog 3 #[] w (TrueB w) := by
  have C0 := Lib.hid (fun W => num_fix (show ((crc (flat []) : Nat) : Int) = 0 by rw [show flat [] = [] from rfl, crc_nil]; rfl) (of_any none 0 [] W (ListsP.nil W none 0)))
  have C1 := Lib.hid (fun W => numB_fix (show ((noughts (0 : Int).toNat : Nat) : Int) = 0 by decide) (noughts_any 0 W (by decide) (by decide)))
  have C2 := Lib.hid (fun W => numB_fix (show ((noughts (-5 : Int).toNat : Nat) : Int) = 0 by decide) (noughts_any (-5) W (by decide) (by decide)))
  have C3 := Lib.hid (fun W => numB_fix (show ((join 7 9 (0 : Int).toNat : Nat) : Int) = 14 by decide) (join_any 7 9 0 W (by decide) (by decide) (by decide) (by decide)))
  have C4 := Lib.hid (fun W => show Calls Try.prog 11 #[.int .i64 3] W (NumB (noughts 3) W) from noughts_any 3 W (by decide) (by decide))
  have C5 := Lib.hid of000
  generalize noughts 3 = p at C4 C5
  go_enter Try.func3, Try.ntmps3
  go_wp2_with fail
  refine (alive_any _).mono ?_
  rintro e w1 ⟨rfl, b1⟩
  go_wp2_with fail
  refine (C0.out _).mono ?_
  rintro e w' ⟨rfl, rfl⟩
  go_wp2_with fail
  refine (C1.out _).mono ?_
  rintro e w2 ⟨rfl, b2⟩
  go_wp2_with fail
  refine (C2.out _).mono ?_
  rintro e w3 ⟨rfl, b3⟩
  go_wp2_with fail
  refine (C3.out _).mono ?_
  rintro e w4 ⟨rfl, b4⟩
  go_wp2_with fail
  refine (C4.out _).mono ?_
  rintro e w5 ⟨rfl, b5⟩
  have b12 := b1.trans (b2.mono b1.size)
  have b13 := b12.trans (b3.mono b12.size)
  have b14 := b13.trans (b4.mono b13.size)
  have b15 := b14.trans (b5.mono b14.size)
  go_wp2_with fail
  refine (C5.out _).mono ?_
  rintro e w' ⟨rfl, rfl⟩
  go_wp2_with fail
  go_ret
  exact ⟨rfl, (b15.alloc b15.size _).alloc (Nat.le_trans b15.size (by simp)) _⟩


set_option maxRecDepth 100000 in
theorem checkNames_lifted (os : Os) (started : os.Started) (H : Type) (enc : TypeId × Value → H) :
    ReturnsInHanded {} Try.checked os 3 .any (Rows.checkNamesSpec.pre6 enc Try.prog Try.f3 Rows.checkNamesRow.domain false) (Rows.checkNamesSpec.post enc Try.prog Try.f3 false true false false) := by
  refine returnsInHanded_of_change (C := Try.checked) own started (by kernel_rfl) Try.func3
    (ChangeSpec.witness6 (enc := enc) (C := Try.checked) false ⟨#[], #[], []⟩ 8 (by kernel_rfl) (by kernel_rfl) (by kernel_rfl) (by kernel_rfl)) ?_
  intro W base args ds gs before hval0 hW _ _
  have hW' := hW
  obtain ⟨p, q, hA0, hV, rfl, _, _⟩ := hW
  have hA : DataW.TrodAll enc Try.prog W 0 (fun _ => true) true Try.f3.params.toList args.toList ds p := hA0
  rw [Try.params3] at hA
  obtain ⟨h1, rfl, rfl⟩ := trodAll_none hA
  have hargs : args = #[] := by simpa using h1
  subst hargs
  obtain ⟨rfl, rfl⟩ := trodVars_none hV
  clear hA0 hval0
  simp only [List.append_nil] at hW'

  refine (names_walk W).mono fun e W' ⟨he, hb⟩ => ?_
  subst he
  exact ⟨_, rfl, _, _, _, [], [], [], hW', trodAll_mk1 (shut_bool Try.underlying4 _), trodAll_mk0, rfl, hb.frame _, fun h => by cases h⟩

theorem checkNames_holds : Rows.CheckNamesSaid :=
  OpenClaim.holds_of_wide 3 Try.f3 rfl rfl rfl rfl rfl rfl rfl ⟨rfl, rfl, rfl, rfl, rfl⟩ rfl rfl rfl rfl rfl (by kernel_rfl) Try.func3 (by kernel_rfl)
    (of_decide_eq_true (by kernel_rfl)) (by unfold Func.isWrapper; first | (rw [if_pos (by decide +kernel)]; kernel_rfl) | (rw [if_neg (by decide +kernel)]; exact ⟨rfl, rfl⟩))
    (fun os started H enc _ => checkNames_lifted os started H enc)
#print axioms checkNames_holds


end Go.Proofs.Ytgelfopjolkfdaa
