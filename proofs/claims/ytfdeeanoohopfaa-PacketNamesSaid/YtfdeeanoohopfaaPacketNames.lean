/- PacketNames: the law returns true: the errors and the limit have their numbers, and the ends. It has no conditions. -/
import Derived.Test.YtfdeeanoohopfaaArgs
import Derived.Test.YtfdeeanoohopfaaReader
import Derived.Laws.MakeOwn
namespace Go.Proofs.Ytfdeeanoohopfaa
open Go.ChangeShapes Go.WideShapes Go.ChangeAt Go.RowKit

/-- make([]byte, 65537). -/
theorem make_long : ∃ C : Array Value, ∀ w, (Instr.makeSlice 22 (.int .i64 65537) (.int .i64 65537)).run Try.prog w = .ok (.slice (some ⟨w.heap.size, 0, none⟩) 65537 65537) (w.alloc (.cells C 5)) := by
  obtain ⟨i, hi⟩ : ∃ i, Try.prog.info? 5 = some i := Option.isSome_iff_exists.1 (by kernel_rfl)
  have hz : (Try.prog.info? 5).bind (·.zero) = some (.int .u8 0) := by kernel_rfl
  have hb : (Try.prog.info? 5).map (·.bytes) = some 1 := by kernel_rfl
  rw [hi] at hz hb
  simp only [Option.bind_some, Option.map_some, Option.some.injEq] at hz hb
  exact ⟨_, fun w => run_make (P := Try.prog) w 22 5 i _ Try.underlying22 hi hz .i64 .i64 65537 65537 (by omega) (by omega) (by rw [hb]; omega) (by omega)⟩

theorem open_nothing : openL [] = (0, [], 0, 61) := by decide
theorem open_one : openL [1] = (0, [], 0, 62) := by decide

/-- Nothing opens. -/
def NonePost (n : Int) (w : World) (e : Ending) (w' : World) : Prop := ∃ a c, e = .returned (.tuple #[.agg #[.int .u8 0, .slice a 0 c], .int .i64 0, .int .i64 n]) ∧ Below w.heap.size w w'

theorem names_nil (w : World) : Calls Try.prog 10 #[.slice none 0 0] w (NonePost 61 w) := by
  refine (open_any none 0 [] w (BytesP.nil _ _ _) (by simp)).mono ?_
  rw [open_nothing]
  rintro e w' ⟨a, c, rfl, _, hb⟩
  exact ⟨a, c, rfl, hb⟩

theorem names_one (W : World) (N : Nat) (hN : W.heap.size = N) : Calls Try.prog 10 #[.slice (some ⟨N, 0, none⟩) 1 1] (W.alloc (.cells #[.int .u8 1] 5)) (NonePost 62 W) := by
  subst hN
  refine (open_any _ 1 [1] _ (one_block 1 (by decide) W) (by simp)).mono ?_
  rw [open_one]
  rintro e w' ⟨a, c, rfl, _, hb⟩
  exact ⟨a, c, rfl, ((Below.refl W.heap.size W).alloc (Nat.le_refl _) _).trans (hb.mono (by simp))⟩

theorem zero_len : (numL 0).length = 1 := by rw [numL_small (by decide)]; rfl

set_option maxRecDepth 100000 in
set_option maxHeartbeats 4000000 in
theorem names_walk (w : World) : Calls Try.prog 3 #[] w (TrueB w) := by
  obtain ⟨C, hmk⟩ := make_long
  obtain ⟨M, hM, hMl⟩ : ∃ M : Nat, (M : Int) = 18446744073709551615 ∧ M < 18446744073709551616 := ⟨18446744073709551615, rfl, by decide⟩
  have CM := Lib.hid (fun W N hN => number_nil M 18446744073709551615 hM.symm hMl W N hN)
  have C0 := Lib.hid (fun W N hN => number_nil 0 0 rfl (by decide) W N hN)
  rw [zero_len] at C0
  have hten := numL_ten hMl
  have NW := Lib.hid (fun W a c (h : BytesP W a c (numL M)) => new_any a c (numL M) W h (by omega))
  have NR := Lib.hid (fun W g (h : RdP W g (numL M) 0 false) => rdNumber_ok W g (numL M) 0 M M (numL M).length h hMl (by
    have := numAt_numL M [] M 0 0 (by simp) (by simp)
    simpa using this) (by simp))
  rw [hM] at NR
  have ND := Lib.hid (fun W g (h : RdP W g (numL M) (0 + (numL M).length) false) => done_any W g (numL M) _ false h)
  rw [show (!false && decide (0 + (numL M).length = (numL M).length)) = true by simp] at ND
  generalize numL M = lm at *
  have FL := Lib.hid (fun W => frame_long 0 (some ⟨w.heap.size, 0, none⟩) 65537 65537 W (by decide))
  have b0 := (Below.refl w.heap.size w).alloc (Nat.le_refl _) (.cells C 5)
  go_enter Try.func3, Try.ntmps3
  go_wp2_with fail
  refine (FL.out _).mono ?_
  rintro e w1 ⟨rfl, b1⟩
  have B1 := Lib.hid (b0.trans (b1.mono b0.size))
  clear b0 b1 hmk FL
  go_wp2_with fail
  refine (names_nil _).mono ?_
  rintro e w2 ⟨a2, c2, rfl, b2⟩
  have B2 := Lib.hid (B1.out.trans (b2.mono B1.out.size))
  clear b2
  have b3 := B2.out.alloc B2.out.size (.cells #[.int .u8 0, .slice a2 0 c2] 27)
  go_wp2_with fail
  refine (names_one _ _ (by simp)).mono ?_
  rintro e w3 ⟨a3, c3, rfl, b4⟩
  have B3 := Lib.hid (b3.trans (b4.mono b3.size))
  clear b3 b4
  have b3 := B3.out.alloc B3.out.size (.cells #[.int .u8 0, .slice a3 0 c3] 27)
  go_wp2_with fail
  refine (CM.out _ _ (by simp)).mono ?_
  rintro e w4 ⟨a4, c4, rfl, hB4, b4⟩
  have B4 := Lib.hid (b3.trans (b4.mono b3.size))
  have HB4 := Lib.hid hB4
  clear b3 b4 hB4
  go_wp2_with fail
  refine (NW.out _ a4 c4 HB4.out).mono ?_
  rintro e w5 ⟨g, rfl, r5, b5, hg⟩
  have B5 := Lib.hid (B4.out.trans (b5.mono B4.out.size))
  have R5 := Lib.hid r5
  have HG := Lib.hid (Nat.le_trans B4.out.size hg)
  clear b5 r5 hg
  go_wp2_with fail
  refine (NR.out _ g R5.out).mono ?_
  rintro e w6 ⟨rfl, r6, b6⟩
  have B6 := Lib.hid (B5.out.trans (b6.mono HG.out))
  have R6 := Lib.hid r6
  clear b6 r6
  go_wp2_with fail
  refine (alive_any _).mono ?_
  rintro e w7 ⟨rfl, b7⟩
  have R7 := Lib.hid (R6.out.below b7)
  have B7 := Lib.hid (B6.out.trans (b7.mono B6.out.size))
  clear b7
  go_wp2_with fail
  refine (ND.out _ g R7.out).mono ?_
  rintro e w8 ⟨rfl, b8⟩
  have B8 := Lib.hid (B7.out.trans (b8.mono B7.out.size))
  clear b8
  go_wp2_with fail
  refine (C0.out _ _ rfl).mono ?_
  rintro e w9 ⟨a9, c9, rfl, _, b9⟩
  have B9 := Lib.hid (B8.out.trans (b9.mono B8.out.size))
  clear b9
  go_wp2_with fail
  go_ret
  exact ⟨rfl, B9.out⟩



set_option maxRecDepth 100000 in
theorem packetNames_lifted (os : Os) (started : os.Started) (H : Type) (enc : TypeId × Value → H) :
    ReturnsInHanded {} Try.checked os 3 .any (Rows.packetNamesSpec.pre6 enc Try.prog Try.f3 Rows.packetNamesRow.domain false) (Rows.packetNamesSpec.post enc Try.prog Try.f3 false true false false) := by
  refine returnsInHanded_of_change (C := Try.checked) own started (by kernel_rfl) Try.func3
    (ChangeSpec.witness6 (enc := enc) (C := Try.checked) false ⟨#[], #[], []⟩ 8 (by kernel_rfl) (by kernel_rfl) (by kernel_rfl) (by kernel_rfl)) ?_
  intro W base args ds gs before hval0 hW _ _
  have hW' := hW
  obtain ⟨p, q, hA0, hV, rfl, _, _⟩ := hW
  have hA : DataW.TrodAll enc Try.prog W 0 (fun _ => true) true Try.f3.params.toList args.toList ds p := hA0
  rw [Try.params3] at hA
  obtain ⟨h1, rfl, rfl⟩ := trodAll_none hA
  have hargs : args = #[] := by simpa using h1
  subst hargs
  obtain ⟨rfl, rfl⟩ := trodVars_none hV
  clear hA0 hval0
  simp only [List.append_nil] at hW'

  refine (names_walk W).mono fun e W' ⟨he, hb⟩ => ?_
  subst he
  exact ⟨_, rfl, _, _, _, [], [], [], hW', trodAll_mk1 (shut_bool Try.underlying4 _), trodAll_mk0, rfl, hb.frame _, fun h => by cases h⟩

theorem packetNames_holds : Rows.PacketNamesSaid :=
  OpenClaim.holds_of_wide 3 Try.f3 rfl rfl rfl rfl rfl rfl rfl ⟨rfl, rfl, rfl, rfl, rfl⟩ rfl rfl rfl rfl rfl (by kernel_rfl) Try.func3 (by kernel_rfl)
    (of_decide_eq_true (by kernel_rfl)) (by unfold Func.isWrapper; first | (rw [if_pos (by decide +kernel)]; kernel_rfl) | (rw [if_neg (by decide +kernel)]; exact ⟨rfl, rfl⟩))
    (fun os started H enc _ => packetNames_lifted os started H enc)
#print axioms packetNames_holds


end Go.Proofs.Ytfdeeanoohopfaa
