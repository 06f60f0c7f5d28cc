/- HalvesNames: the law returns true: the error has its number, and there is nothing to try where no one is named. It has no conditions. -/
import Derived.Test.YtbhknaggbenfnaaHvAlive
import Derived.Test.YtbhknaggbenfnaaHvBound
import Derived.Test.YtbhknaggbenfnaaHvArgs
namespace Go.Proofs.Ytbhknaggbenfnaa
open Go.ChangeShapes Go.WideShapes Go.ChangeAt Go.RowKit

set_option maxRecDepth 100000

def tX : ByteArray := { data := #[120] }
theorem aa_twice : twiceT [tA, tA] = true := by
  rw [← Bool.not_eq_false, twiceT_no]
  decide

set_option maxHeartbeats 8000000 in
theorem names_walk (w : World) : Calls Try.prog 3 #[] w (Tell true w) := by
  have CA := Lib.hid (alive_any w)
  have CN := Lib.hid (fun W => new_any none 0 [] W (StrsP.nil _ _ _) (by simp) (by simp))
  have CT := Lib.hid (fun W : World => show Calls Try.prog 11 #[.slice (some ⟨W.heap.size, 0, none⟩) 2 2] (W.alloc (.cells #[.string tA, .string tA] 9)) (NewPost [tA, tA] (W.alloc (.cells #[.string tA, .string tA] 9))) from
    new_any (some ⟨W.heap.size, 0, none⟩) 2 [tA, tA] _ (OwnT.block W 0 [tA, tA] (Nat.zero_le _) (by simp)).reads.2 (by simp) (by
      intro s hs
      simp only [List.mem_cons, List.not_mem_nil, or_false] at hs
      rcases hs with rfl | rfl <;> decide))
  have CS := Lib.hid (fun W : World => show Calls Try.prog 12 #[.slice (some ⟨W.heap.size, 0, none⟩) 1 1] (W.alloc (.cells #[.string tX] 9)) (SplitPost [tX] [] (W.alloc (.cells #[.string tX] 9))) from
    split_any (some ⟨W.heap.size, 0, none⟩) 1 [tX] _ (strs_block1 W tX) (by simp))
  have B1 := Lib.hid (fun W => show Calls Try.prog 15 #[.int .i64 1, .int .i64 1] W (NumB 3 W) from bound_any 1 1 (by omega) W)
  have B2 := Lib.hid (fun W => show Calls Try.prog 15 #[.int .i64 8, .int .i64 2] W (NumB 17 W) from bound_any 8 2 (by omega) W)
  have B3 := Lib.hid (fun W => show Calls Try.prog 15 #[.int .i64 9, .int .i64 1] W (NumB 11 W) from bound_any 9 1 (by omega) W)
  have B4 := Lib.hid (fun W => show Calls Try.prog 15 #[.int .i64 0, .int .i64 0] W (NumB 0 W) from bound_any 0 0 (by omega) W)
  have B5 := Lib.hid (fun W => show Calls Try.prog 15 #[.int .i64 2, .int .i64 3] W (NumB 0 W) from bound_any 2 3 (by omega) W)
  go_enter Try.func3, Try.ntmps3
  go_wp2_with fail
  refine CA.out.mono ?_
  rintro e w1 ⟨rfl, b1⟩
  go_wp2_with fail
  refine (CN.out w1).mono ?_
  intro e w2 hn
  obtain ⟨g, rfl, hm⟩ : ∃ g, e = .returned (.tuple #[.pointer (some ⟨g, 0, none⟩), .int .i64 0]) ∧ MineH w1 w2 g (newH []) := by
    rcases hn with ⟨h1, _⟩ | ⟨_, h2⟩
    · cases h1
    · exact h2
  have M2 := Lib.hid hm.toL
  clear hn hm
  go_wp2_with fail
  refine (CT.out w2).mono ?_
  intro e w3 hn
  obtain ⟨rfl, b3⟩ : e = .returned (.tuple #[.pointer none, .int .i64 121]) ∧ Below (w2.alloc (.cells #[.string tA, .string tA] 9)).heap.size (w2.alloc (.cells #[.string tA, .string tA] 9)) w3 := by
    rcases hn with ⟨_, h1, h2⟩ | ⟨h1, _⟩
    · exact ⟨h1, h2⟩
    · rw [aa_twice] at h1; cases h1
  have k3 := ((Below.refl w2.heap.size w2).alloc (Nat.le_refl _) (.cells #[.string tA, .string tA] 9)).trans (b3.mono (by simp))
  have M3 := Lib.hid (M2.out.more k3)
  clear hn b3 k3 M2
  go_wp2_with fail
  refine (CS.out w3).mono ?_
  rintro e w4 ⟨v1, v2, rfl, o1, o2, b4⟩
  obtain ⟨a1, c1, rfl⟩ := o1.shape
  obtain ⟨a2, c2, rfl⟩ := o2.shape
  have k4 := ((Below.refl w3.heap.size w3).alloc (Nat.le_refl _) (.cells #[.string tX] 9)).trans (b4.mono (by simp))
  have M4 := Lib.hid (M3.out.more k4)
  have OK := Lib.hid (OkH.new [])
  have N4 := Lib.hid (show Calls Try.prog 13 #[.pointer (some ⟨g, 0, none⟩)] w4 (OwnTs [] w4) from M4.out.next OK.out (by simp))
  simp only [List.length_singleton, List.length_nil]
  clear o1 o2 b4 k4 M3
  go_wp2_with fail
  refine N4.out.mono ?_
  rintro e w5 ⟨v, rfl, o5, b5⟩
  obtain ⟨a5, c5, rfl⟩ := o5.shape
  have M5 := Lib.hid (M4.out.more b5)
  have T5 := Lib.hid (M5.out.tell OK.out (by simp) true)
  simp only [List.length_nil]
  clear o5 b5 M4 N4
  go_wp2_with fail
  refine T5.out.mono ?_
  rintro e w6 ⟨he, m6, _, _⟩
  obtain rfl : e = .returned (.int .i64 121) := he
  have K6 := Lib.hid (b1.trans (m6.low.mono b1.size))
  clear m6 M5 T5
  go_wp2_with fail
  refine (B1.out _).mono ?_
  rintro e w7 ⟨rfl, b7⟩
  have K7 := Lib.hid (K6.out.trans (b7.mono K6.out.size))
  go_wp2_with fail
  refine (B2.out _).mono ?_
  rintro e w8 ⟨rfl, b8⟩
  have K8 := Lib.hid (K7.out.trans (b8.mono K7.out.size))
  go_wp2_with fail
  refine (B3.out _).mono ?_
  rintro e w9 ⟨rfl, b9⟩
  have K9 := Lib.hid (K8.out.trans (b9.mono K8.out.size))
  go_wp2_with fail
  refine (B4.out _).mono ?_
  rintro e w10 ⟨rfl, b10⟩
  have K10 := Lib.hid (K9.out.trans (b10.mono K9.out.size))
  go_wp2_with fail
  refine (B5.out _).mono ?_
  rintro e w11 ⟨rfl, b11⟩
  have K11 := Lib.hid (K10.out.trans (b11.mono K10.out.size))
  go_wp2_with fail
  go_ret
  exact ⟨rfl, K11.out⟩


set_option maxRecDepth 100000 in
theorem halvesNames_lifted (os : Os) (started : os.Started) (H : Type) (enc : TypeId × Value → H) :
    ReturnsInHanded {} Try.checked os 3 .any (Rows.halvesNamesSpec.pre6 enc Try.prog Try.f3 Rows.halvesNamesRow.domain false) (Rows.halvesNamesSpec.post enc Try.prog Try.f3 false true false false) := by
  refine returnsInHanded_of_change (C := Try.checked) own started (by kernel_rfl) Try.func3
    (ChangeSpec.witness6 (enc := enc) (C := Try.checked) false ⟨#[], #[], []⟩ 8 (by kernel_rfl) (by kernel_rfl) (by kernel_rfl) (by kernel_rfl)) ?_
  intro W base args ds gs before hval0 hW _ _
  have hW' := hW
  obtain ⟨p, q, hA0, hV, rfl, _, _⟩ := hW
  have hA : DataW.TrodAll enc Try.prog W 0 (fun _ => true) true Try.f3.params.toList args.toList ds p := hA0
  rw [Try.params3] at hA
  obtain ⟨h1, rfl, rfl⟩ := trodAll_none hA
  have hargs : args = #[] := by simpa using h1
  subst hargs
  obtain ⟨rfl, rfl⟩ := trodVars_none hV
  clear hA0 hval0
  simp only [List.append_nil] at hW'

  refine (names_walk W).mono fun e W' ⟨he, hb⟩ => ?_
  subst he
  exact ⟨_, rfl, _, _, _, [], [], [], hW', trodAll_mk1 (shut_bool Try.underlying4 _), trodAll_mk0, rfl, hb.frame _, fun h => by cases h⟩

theorem halvesNames_holds : Rows.HalvesNamesSaid :=
  OpenClaim.holds_of_wide 3 Try.f3 rfl rfl rfl rfl rfl rfl rfl ⟨rfl, rfl, rfl, rfl, rfl⟩ rfl rfl rfl rfl rfl (by kernel_rfl) Try.func3 (by kernel_rfl)
    (of_decide_eq_true (by kernel_rfl)) (by unfold Func.isWrapper; first | (rw [if_pos (by decide +kernel)]; kernel_rfl) | (rw [if_neg (by decide +kernel)]; exact ⟨rfl, rfl⟩))
    (fun os started H enc _ => halvesNames_lifted os started H enc)
#print axioms halvesNames_holds


end Go.Proofs.Ytbhknaggbenfnaa
