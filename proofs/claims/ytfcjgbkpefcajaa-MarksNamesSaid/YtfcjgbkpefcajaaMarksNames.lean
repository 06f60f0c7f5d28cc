/- MarksNames: the law returns true: the error and the limits have their numbers, and what has no place is refused. It has no conditions. -/
import Derived.Test.YtfcjgbkpefcajaaMkAlive
import Derived.Test.YtfcjgbkpefcajaaMake
import Derived.Test.YtfcjgbkpefcajaaArgs
namespace Go.Proofs.Ytfcjgbkpefcajaa
open Go.ChangeShapes Go.WideShapes Go.ChangeAt Go.RowKit

attribute [local go_sem ↓] ld26 ld66 st26 st66 bx26 al26 al66 bd26 bd66 bs61 bs48 mk48 eq26 ap61 ap48 ap49 cp46 cp48
attribute [local go_sem] bx_agg al_cell al_wr bd_zero bd_one bd_two bd_nine

attribute [local go_sem ↓] mkB

def nm1 : Pl := ((Pl.new 4).mput 1 1099511627776 1 (zeroL 48)).2

theorem bad1 : (Pl.new 4).mput 2 1 0 [] = (81, Pl.new 4) := rfl
theorem bad2 : (Pl.new 4).mput 0 0 0 [] = (81, Pl.new 4) := rfl
theorem bad3 : (Pl.new 4).mput 0 1099511627777 0 [] = (81, Pl.new 4) := by
  unfold Pl.mput
  rw [show okPut (Pl.new 4).sure.length 0 1099511627777 0 ([] : List Nat).length = false by decide +kernel]
  rfl
theorem bad4 : (Pl.new 4).mput 0 1 2 [] = (81, Pl.new 4) := rfl
theorem bad5 : (Pl.new 4).mput 0 1 0 (zeroL 49) = (81, Pl.new 4) := rfl
theorem bad6 : (Pl.new 1).mput 0 1 0 [] = (81, Pl.new 1) := rfl
theorem good7 : ((Pl.new 4).mput 1 1099511627776 1 (zeroL 48)).1 = 0 := by decide +kernel

set_option maxRecDepth 100000 in
set_option maxHeartbeats 4000000 in
theorem names_walk (w : World) : Calls Try.prog 3 #[] w (TrueB w) := by
  have M49 : ∀ W, MkR 31 (.int .i64 49) (.int .i64 49) W = .ok (.value (.slice (some ⟨W.heap.size, 0, none⟩) 49 49)) (W.alloc (.cells (arr (zeroL 49)) 5)) := mk_bytes 49 (by omega)
  have M48 : ∀ W, MkR 31 (.int .i64 48) (.int .i64 48) W = .ok (.value (.slice (some ⟨W.heap.size, 0, none⟩) 48 48)) (W.alloc (.cells (arr (zeroL 48)) 5)) := mk_bytes 48 (by omega)
  go_enter Try.func3, Try.ntmps3
  go_wp2_with fail
  refine (alive_any _).mono ?_
  rintro e w1 ⟨rfl, b1⟩
  have B1 := Lib.hid b1
  have N1 := Lib.hid (show Calls Try.prog 7 #[.int .i64 4] w1 (NewPost 4 w1) from new_any 4 w1)
  clear b1
  go_wp2_with fail
  refine N1.out.mono ?_
  rintro e w2 ⟨g1, rfl, h2, b2⟩
  have N2 := Lib.hid (show Calls Try.prog 7 #[.int .i64 1] w2 (NewPost 1 w2) from new_any 1 w2)
  have H2 := Lib.hid h2
  have B2 := Lib.hid b2
  clear h2 b2 N1
  go_wp2_with fail
  refine N2.out.mono ?_
  rintro e w3 ⟨g2, rfl, h3, b3⟩
  have P3 := Lib.hid (pair_new (L := fun _ => False) B1.out (fun _ h => h.elim) H2.out B2.out h3 b3)
  have C1 := Lib.hid (show Calls Try.prog 8 #[ptr g2, .int .i64 0] w3 (ReadPost (0, []) w3) from P3.out.swap.mread 0)
  clear h3 b3 H2 B2 N2 B1
  go_wp2_with fail
  refine C1.out.mono ?_
  rintro e w4 ⟨a, cap, rfl, _, b4⟩
  have P4 := Lib.hid (P3.out.more (stays_pl _ _) (stays_pl _ _) b4)
  have D1 := Lib.hid (show Calls Try.prog 9 #[ptr g1, .int .i64 2, .int .u64 1, .int .i64 0, .slice none 0 0] w4 (fun e w' => e = .returned (.int .i64 81) ∧ Pair w w' (atPl g1 (Pl.new 4)) (atPl g2 (Pl.new 1)) (fun _ => False) ∧ _) by have := P4.out.mput (stays_pl _ _) 2 1 0 none 0 [] (BytesP.nil _ _ _) (by decide); rw [bad1] at this; exact this)
  clear b4 P3 P4 C1
  simp only [List.length_nil]
  go_wp2_with fail
  refine D1.out.mono ?_
  rintro e w5 ⟨rfl, p5, _⟩
  have D2 := Lib.hid (show Calls Try.prog 9 #[ptr g1, .int .i64 0, .int .u64 0, .int .i64 0, .slice none 0 0] w5 (fun e w' => e = .returned (.int .i64 81) ∧ Pair w w' (atPl g1 (Pl.new 4)) (atPl g2 (Pl.new 1)) (fun _ => False) ∧ _) by have := p5.mput (stays_pl _ _) 0 0 0 none 0 [] (BytesP.nil _ _ _) (by decide); rw [bad2] at this; exact this)
  clear p5 D1
  go_wp2_with fail
  refine D2.out.mono ?_
  rintro e w6 ⟨rfl, p6, _⟩
  have D3 := Lib.hid (show Calls Try.prog 9 #[ptr g1, .int .i64 0, .int .u64 1099511627777, .int .i64 0, .slice none 0 0] w6 (fun e w' => e = .returned (.int .i64 81) ∧ Pair w w' (atPl g1 (Pl.new 4)) (atPl g2 (Pl.new 1)) (fun _ => False) ∧ _) by have := p6.mput (stays_pl _ _) 0 1099511627777 0 none 0 [] (BytesP.nil _ _ _) (by decide); rw [bad3] at this; exact this)
  clear p6 D2
  go_wp2_with fail
  refine D3.out.mono ?_
  rintro e w7 ⟨rfl, p7, _⟩
  have D4 := Lib.hid (show Calls Try.prog 9 #[ptr g1, .int .i64 0, .int .u64 1, .int .i64 2, .slice none 0 0] w7 (fun e w' => e = .returned (.int .i64 81) ∧ Pair w w' (atPl g1 (Pl.new 4)) (atPl g2 (Pl.new 1)) (fun _ => False) ∧ _) by have := p7.mput (stays_pl _ _) 0 1 2 none 0 [] (BytesP.nil _ _ _) (by decide); rw [bad4] at this; exact this)
  clear p7 D3
  go_wp2_with fail
  refine D4.out.mono ?_
  rintro e w8 ⟨rfl, p8, _⟩
  have bA := (Below.refl w8.heap.size w8).alloc (Nat.le_refl _) (.cells (arr (zeroL 49)) 5)
  have D5 := Lib.hid (show Calls Try.prog 9 #[ptr g1, .int .i64 0, .int .u64 1, .int .i64 0, .slice (some ⟨w8.heap.size, 0, none⟩) 49 49] (w8.alloc (.cells (arr (zeroL 49)) 5)) (fun e w' => e = .returned (.int .i64 81) ∧ Pair w w' (atPl g1 (Pl.new 4)) (atPl g2 (Pl.new 1)) (fun _ => False) ∧ _) by have := (p8.more (stays_pl _ _) (stays_pl _ _) bA).mput (stays_pl _ _) 0 1 0 (some ⟨w8.heap.size, 0, none⟩) 49 (zeroL 49) (zero_block 49 (by omega) w8) (by decide); rw [bad5] at this; exact this)
  clear p8 D4 bA
  go_wp2_with fail
  refine D5.out.mono ?_
  rintro e w9 ⟨rfl, p9, _⟩
  have D6 := Lib.hid (show Calls Try.prog 9 #[ptr g2, .int .i64 0, .int .u64 1, .int .i64 0, .slice none 0 0] w9 (fun e w' => e = .returned (.int .i64 81) ∧ Pair w w' (atPl g2 (Pl.new 1)) (atPl g1 (Pl.new 4)) (fun _ => False) ∧ _) by have := p9.swap.mput (stays_pl _ _) 0 1 0 none 0 [] (BytesP.nil _ _ _) (by decide); rw [bad6] at this; exact this)
  clear p9 D5
  go_wp2_with fail
  refine D6.out.mono ?_
  rintro e wA ⟨rfl, pA, _⟩
  have CT := Lib.hid (show Calls Try.prog 10 #[ptr g2] wA (NumB 0 wA) from pA.mtop)
  have PA := Lib.hid pA
  clear pA D6
  go_wp2_with fail
  refine CT.out.mono ?_
  rintro e wB ⟨rfl, bB⟩
  have pB := (PA.out.more (stays_pl _ _) (stays_pl _ _) bB).swap
  have bC := (Below.refl wB.heap.size wB).alloc (Nat.le_refl _) (.cells (arr (zeroL 48)) 5)
  have D7 := Lib.hid (show Calls Try.prog 9 #[ptr g1, .int .i64 1, .int .u64 1099511627776, .int .i64 1, .slice (some ⟨wB.heap.size, 0, none⟩) 48 48] (wB.alloc (.cells (arr (zeroL 48)) 5)) (fun e w' => e = .returned (.int .i64 0) ∧ Pair w w' (atPl g1 nm1) (atPl g2 (Pl.new 1)) (fun _ => False) ∧ _) by have := (pB.more (stays_pl _ _) (stays_pl _ _) bC).mput (stays_pl _ _) 1 1099511627776 1 (some ⟨wB.heap.size, 0, none⟩) 48 (zeroL 48) (zero_block 48 (by omega) wB) (by decide); rw [good7] at this; exact this)
  clear pB PA bB bC CT
  go_wp2_with fail
  refine D7.out.mono ?_
  rintro e wC ⟨rfl, pC, _⟩
  have BC := Lib.hid pC.low
  clear pC D7
  go_wp2_with fail
  go_ret
  exact ⟨rfl, BC.out⟩


set_option maxRecDepth 100000 in
theorem marksNames_lifted (os : Os) (started : os.Started) (H : Type) (enc : TypeId × Value → H) :
    ReturnsInHanded {} Try.checked os 3 .any (Rows.marksNamesSpec.pre6 enc Try.prog Try.f3 Rows.marksNamesRow.domain false) (Rows.marksNamesSpec.post enc Try.prog Try.f3 false true false false) := by
  refine returnsInHanded_of_change (C := Try.checked) own started (by kernel_rfl) Try.func3
    (ChangeSpec.witness6 (enc := enc) (C := Try.checked) false ⟨#[], #[], []⟩ 8 (by kernel_rfl) (by kernel_rfl) (by kernel_rfl) (by kernel_rfl)) ?_
  intro W base args ds gs before hval0 hW _ _
  have hW' := hW
  obtain ⟨p, q, hA0, hV, rfl, _, _⟩ := hW
  have hA : DataW.TrodAll enc Try.prog W 0 (fun _ => true) true Try.f3.params.toList args.toList ds p := hA0
  rw [Try.params3] at hA
  obtain ⟨h1, rfl, rfl⟩ := trodAll_none hA
  have hargs : args = #[] := by simpa using h1
  subst hargs
  obtain ⟨rfl, rfl⟩ := trodVars_none hV
  clear hA0 hval0
  simp only [List.append_nil] at hW'

  refine (names_walk W).mono fun e W' ⟨he, hb⟩ => ?_
  subst he
  exact ⟨_, rfl, _, _, _, [], [], [], hW', trodAll_mk1 (shut_bool Try.underlying4 _), trodAll_mk0, rfl, hb.frame _, fun h => by cases h⟩

theorem marksNames_holds : Rows.MarksNamesSaid :=
  OpenClaim.holds_of_wide 3 Try.f3 rfl rfl rfl rfl rfl rfl rfl ⟨rfl, rfl, rfl, rfl, rfl⟩ rfl rfl rfl rfl rfl (by kernel_rfl) Try.func3 (by kernel_rfl)
    (of_decide_eq_true (by kernel_rfl)) (by unfold Func.isWrapper; first | (rw [if_pos (by decide +kernel)]; kernel_rfl) | (rw [if_neg (by decide +kernel)]; exact ⟨rfl, rfl⟩))
    (fun os started H enc _ => marksNames_lifted os started H enc)
#print axioms marksNames_holds


end Go.Proofs.Ytfcjgbkpefcajaa
