/- LabelNames: the law returns true: the error and the limit of package label have their numbers, and the ends are as the chapter says. It has no input; the conditions are those of its row: the listed tables of package unicode/utf8 lie as the program's text lays them. -/
import Derived.Test.YtobicfkbpoimnaaDoorAlive
import Derived.Test.YtobicfkbpoimnaaDoorRows
import Derived.Test.YtobicfkbpoimnaaDoorCards
import Derived.Test.YtobicfkbpoimnaaDoorTie
import Derived.ProofKit
import Derived.Lay
import Derived.LaidOnce
import Derived.SevenTiedAt
namespace Go.Proofs.YtobicfkbpoimnaaDoor
open Go.RowKit Go.ChangeShapes Go.WideShapes Go.ChangeAt

theorem names_next : nextE [97, 57, 57, 57, 57, 57, 57, 57, 57, 57, 57, 57, 57, 57, 57, 57] = 11 := by decide +kernel
theorem names_split : splitE [97, 32, 32, 98] = 11 := by decide +kernel
theorem names_signs : signsI [207, 137, 207, 137] = 2 ∧ signsI [97, 45, 45, 45, 45, 45, 45, 45, 45, 45, 45, 45, 45, 45, 45, 98] = 16 ∧ signsI [97, 45, 45, 45, 45, 45, 45, 45, 45, 45, 45, 45, 45, 45, 45, 45, 98] = -1 := by decide +kernel
theorem names_right : rightB [] = false ∧ rightB [97, 206] = false ∧ rightB [65] = false := by decide +kernel

set_option maxHeartbeats 2000000 in
theorem names_walk (w : World) : Calls Tryd.prog 3 #[] w fun e w' => e = .returned (.bool true) ∧ Below w.heap.size w w' := by
  have c1 := fun w => next_any ⟨#[97, 57, 57, 57, 57, 57, 57, 57, 57, 57, 57, 57, 57, 57, 57, 57]⟩ w (by decide)
  have c2 := fun w => split_any ⟨#[97, 32, 32, 98]⟩ w (by decide)
  have c3 := fun w => split_any ⟨#[]⟩ w (by decide)
  have c4 := fun w => signs_any ⟨#[207, 137, 207, 137]⟩ w (by decide)
  have c5 := fun w => signs_any ⟨#[97, 45, 45, 45, 45, 45, 45, 45, 45, 45, 45, 45, 45, 45, 45, 98]⟩ w (by decide)
  have c6 := fun w => signs_any ⟨#[97, 45, 45, 45, 45, 45, 45, 45, 45, 45, 45, 45, 45, 45, 45, 45, 98]⟩ w (by decide)
  have c7 := fun w => right_any ⟨#[]⟩ w (by decide)
  have c8 := fun w => right_any ⟨#[97, 206]⟩ w (by decide)
  have c9 := fun w => right_any ⟨#[65]⟩ w (by decide)
  simp only [names_next] at c1
  simp only [names_signs] at c4 c5 c6
  simp only [names_right] at c7 c8 c9
  have C1 := Lib.hid c1
  have C2 := Lib.hid c2
  have C3 := Lib.hid c3
  have C4 := Lib.hid c4
  have C5 := Lib.hid c5
  have C6 := Lib.hid c6
  have C7 := Lib.hid c7
  have C8 := Lib.hid c8
  have C9 := Lib.hid c9
  clear c1 c2 c3 c4 c5 c6 c7 c8 c9
  go_enter Tryd.func3, Tryd.ntmps3
  go_wp2_with fail
  refine (C1.out _).mono ?_
  rintro e w1 ⟨rfl, b1⟩
  go_wp2_with fail
  refine (C2.out _).mono ?_
  rintro e w2 ⟨v2, rfl, o2, b2⟩
  rw [names_split]
  clear o2
  go_wp2_with fail
  refine (C3.out _).mono ?_
  rintro e w3 ⟨v3, rfl, o3, b3⟩
  have ho : v3 = .slice none 0 0 ∨ ∃ g cap, v3 = .slice (some ⟨g, 0, none⟩) 0 cap := by
    rcases o3.2 with ⟨h, _⟩ | ⟨g, cap, _, h, _⟩
    · exact Or.inl h
    · exact Or.inr ⟨g, cap, h⟩
  rw [split_empty.2]
  clear o3
  obtain ⟨a3, cap3, rfl⟩ : ∃ a cap, v3 = .slice a 0 cap := by
    rcases ho with h | ⟨g, cap, h⟩
    · exact ⟨_, _, h⟩
    · exact ⟨_, _, h⟩
  clear ho
  go_wp2_with fail
  refine (alive_any _).mono ?_
  rintro e w4 ⟨rfl, b4⟩
  go_wp2_with fail
  refine (C4.out _).mono ?_
  rintro e w5 ⟨rfl, b5⟩
  go_wp2_with fail
  refine (C5.out _).mono ?_
  rintro e w6 ⟨rfl, b6⟩
  go_wp2_with fail
  refine (C6.out _).mono ?_
  rintro e w7 ⟨rfl, b7⟩
  go_wp2_with fail
  refine (C7.out _).mono ?_
  rintro e w8 ⟨rfl, b8⟩
  go_wp2_with fail
  refine (C8.out _).mono ?_
  rintro e w9 ⟨rfl, b9⟩
  go_wp2_with fail
  refine (C9.out _).mono ?_
  rintro e w10 ⟨rfl, b10⟩
  go_wp2_with fail
  go_ret
  have a2 := b1.trans (b2.mono b1.size)
  have a3 := a2.trans (b3.mono a2.size)
  have a4 := a3.trans (b4.mono a3.size)
  have a5 := a4.trans (b5.mono a4.size)
  have a6 := a5.trans (b6.mono a5.size)
  have a7 := a6.trans (b7.mono a6.size)
  have a8 := a7.trans (b8.mono a7.size)
  have a9 := a8.trans (b9.mono a8.size)
  exact ⟨rfl, a9.trans (b10.mono a9.size)⟩

theorem own : ownKnob Tryd.prog.godebug = none := by kernel_rfl
def laidTwo : List (String × DataW Unit) := Rows.labelNamesRow.laid

set_option maxRecDepth 100000 in
theorem names_lifted (os : Os) (started : os.Started) (H : Type) (enc : TypeId × Value → H) :
    ReturnsInHanded {} Tryd.checked os 3 .any (fun w args => (Rows.labelNamesSpec.pre enc Tryd.prog Tryd.f3 [] false w args ∧ laidMetH Tryd.prog laidTwo w) ∧ sizedMet enc Tryd.prog Tryd.f3 (OpenSpec.ofChange Rows.labelNamesSpec) false w args)
      (Rows.labelNamesSpec.post enc Tryd.prog Tryd.f3 false true false false) := by
  refine returnsInHanded_of_change_and (C := Tryd.checked) (X := fun w _ => laidMetH Tryd.prog laidTwo w) (fun _ _ _ hh h => h.of_heap hh) own started (by kernel_rfl) Tryd.func3
    (ChangeSpec.witness_shaped (enc := enc) (C := Tryd.checked) (os := os) (X := fun w _ => laidMetH Tryd.prog laidTwo w) false (World.laidAll Tryd.prog os laidTwo) #[] 8 (World.laidAll_os _ _ _)
      (World.shaped_of_ZipB (by kernel_rfl) (by kernel_rfl)) (by kernel_rfl) (by kernel_rfl) (by kernel_rfl)
      (by rw [MakeChecks.laidMetH_plain _ _ _ (by kernel_rfl)]; exact laidMet_laidAll _ (by kernel_rfl) (by kernel_rfl))) ?_
  intro W base args ds gs before hval0 hW _ _ hL _
  have hW' := hW
  obtain ⟨p, q, hA0, hV, rfl, _, _⟩ := hW
  have hA : DataW.TrodAll enc Tryd.prog W 0 (fun _ => true) true Tryd.f3.params.toList args.toList ds p := hA0
  rw [Tryd.params3] at hA
  obtain ⟨h1, rfl, rfl⟩ := trodAll_none hA
  obtain ⟨rfl, rfl⟩ := trodVars_none hV
  have hargs : args = #[] := by simpa using h1
  subst hargs
  simp only [List.append_nil] at hW'
  refine (names_walk W).mono fun e W' ⟨he, hb⟩ => ?_
  subst he
  exact ⟨_, rfl, _, _, _, [], [], [], hW', trodAll_mk1 (shut_bool Tryd.underlying4 _), trodAll_mk0, rfl, hb.frame _, fun h => by cases h⟩

theorem names_row : Rows.LabelNamesSaid :=
  OpenClaim.holds_of_wide 3 Tryd.f3 rfl rfl rfl rfl rfl rfl rfl ⟨rfl, rfl, rfl, rfl, rfl⟩ rfl rfl rfl rfl rfl (by kernel_rfl) Tryd.func3 (by kernel_rfl)
    (of_decide_eq_true (by kernel_rfl)) (by unfold Func.isWrapper; first | (rw [if_pos (by decide +kernel)]; kernel_rfl) | (rw [if_neg (by decide +kernel)]; exact ⟨rfl, rfl⟩))
    (fun os started H enc _ => names_lifted os started H enc)

theorem labelNames_holds : Rows.LabelNamesCardSaid :=
  Claim7.holds_tied_plain_at .later [] [.data, .pinned] true _ false names_row (fun _ h => by cases h) (by kernel_rfl) (fun _ h => by cases h) labelNames_row_tie rfl ⟨rfl, rfl⟩ (by kernel_rfl) rfl
    (fun f fn hf hfn => by
      obtain rfl : f = 3 := Option.some.inj ((show Tryd.prog.funcNamed Rows.labelNamesRow.func = some 3 by kernel_rfl).symm.trans hf) |>.symm
      obtain rfl : fn = Tryd.f3 := (Option.some.inj (Tryd.func3.symm.trans hfn)).symm
      exact ⟨by kernel_rfl, fun j t ht => by
        rw [Tryd.params3] at ht
        simp at ht⟩)
    (by kernel_rfl)
#print axioms labelNames_holds
end Go.Proofs.YtobicfkbpoimnaaDoor
