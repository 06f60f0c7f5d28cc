/- ReelNames: the law returns true: the errors have their numbers, and frames have so many cells. It has no conditions. -/
import Derived.Test.YtipikkniookanaaRlAlive
import Derived.Test.YtipikkniookanaaMake
import Derived.Test.YtipikkniookanaaArgs
namespace Go.Proofs.Ytipikkniookanaa
open Go.ChangeShapes Go.WideShapes Go.ChangeAt Go.RowKit

attribute [local go_sem ↓] ld26 ld66 st26 st66 bx26 al26 al66 bd26 bd66 bs61 bs48 mk48 eq26 ap61 ap48 ap49 cp46 cp48 mkB
attribute [local go_sem] bx_agg al_cell al_wr bd_zero bd_one bd_two bd_nine

theorem numL_k : (numL 65536).length = 3 := by rw [numL_great (by omega), numL_great (by omega), numL_small (by omega)]; rfl
theorem cells_k (n : Nat) (q : Nat) (h : cellsN n = q) : ∀ W, Calls Try.prog 15 #[.int .i64 (n : Int)] W (IntB (q : Int) W) := fun W => by
  have := cells_any (n : Int) W
  rwa [show cellsI (n : Int) = cellsN n by simp [cellsI], h] at this

set_option maxRecDepth 100000 in
set_option maxHeartbeats 4000000 in
theorem names_walk (w : World) : Calls Try.prog 3 #[] w (TrueB w) := by
  have M41 : ∀ W, MkR 24 (.int .i64 41) (.int .i64 41) W = .ok (.value (.slice (some ⟨W.heap.size, 0, none⟩) 41 41)) (W.alloc (.cells (arr (zeroL 41)) 5)) := mk_bytes 41 (by omega)
  have M40 : ∀ W, MkR 24 (.int .i64 40) (.int .i64 40) W = .ok (.value (.slice (some ⟨W.heap.size, 0, none⟩) 40 40)) (W.alloc (.cells (arr (zeroL 40)) 5)) := mk_bytes 40 (by omega)
  have K1 := Lib.hid (show ∀ W, Calls Try.prog 15 #[.int .i64 40] W (IntB 1 W) from cells_k 40 1 (by rw [cellsN_small (by omega)]))
  have K2 := Lib.hid (show ∀ W, Calls Try.prog 15 #[.int .i64 41] W (IntB 2 W) from cells_k 41 2 (by rw [cellsN_small (by omega)]))
  have K3 := Lib.hid (show ∀ W, Calls Try.prog 15 #[.int .i64 (-1)] W (IntB 0 W) from fun W => by
    have := cells_any (-1) W
    rwa [show cellsI (-1) = 0 from rfl] at this)
  have K4 := Lib.hid (show ∀ W, Calls Try.prog 15 #[.int .i64 65537] W (IntB 0 W) from cells_k 65537 0 (by unfold cellsN; rw [if_neg (by omega)]))
  have K5 := Lib.hid (show ∀ W, Calls Try.prog 15 #[.int .i64 65536] W (IntB 1366 W) from cells_k 65536 1366 (by unfold cellsN; rw [if_pos (by omega), numL_k]))
  have A1 := Lib.hid (show (newRl 2).add [] = (91, newRl 2) from rfl)
  have F1 := Lib.hid (show (newRl 2).flush = (91, newRl 2) from rfl)
  have G1 := Lib.hid (show (newRl 2).begin (zeroL 41) = (92, newRl 2) from begin_no (by rw [zeroL_len, cellsN_small (by omega)]; simp [Rl.room, newRl, Pl.new]))
  obtain ⟨r1, hb1, y1, n1, s1, l1⟩ := new_begin (n := 2) (t := zeroL 40) (by omega) ⟨by simp [zeroL], zeroL_bytes 40⟩ (by rw [zeroL_len, cellsN_small (by omega)]; decide)
  have p1 : (piecesT (zeroL 40) []).length = 1 := by
    rw [piecesT_len (by rw [zeroL_len]; omega) (fun _ h => by simp at h), zeroL_len, cellsN_small (by omega)]
    rfl
  have A2 := Lib.hid (show r1.add [] = (92, r1) from y1.addNo (by rw [p1, show ([] : List Nat).length = 0 from rfl, cellsN_small (by omega)]; unfold Rl.room; rw [n1]; decide))
  have HB1 := Lib.hid hb1
  have LL1 := Lib.hid (show r1.P.loose.length + 1366 ≤ 100000 by omega)
  clear hb1 y1 n1 s1 l1 p1
  have N := Lib.hid (fun w1 (b1 : Below w.heap.size w w1) => Pair.newNo (w0 := w) (w := w1) (L := fun _ => False) 2 b1 (fun _ h => h.elim))
  rw [show clampN 2 4096 = 2 from rfl] at N
  go_enter Try.func3, Try.ntmps3
  go_wp2_with fail
  refine (ralive_any _).mono ?_
  rintro e w1 ⟨rfl, b1⟩
  go_wp2_with fail
  refine (N.out _ b1).mono ?_
  rintro e w2 ⟨g, rfl, h2, _⟩
  have CO := Lib.hid h2.openP
  have H2 := Lib.hid h2
  rw [show (Pl.new 2).last = List.replicate 2 zeroC from rfl, told_zero] at CO
  clear h2 N b1
  go_wp2_with fail
  refine CO.out.mono ?_
  rintro e w3 ⟨b, ta, tc, wa, wc, rfl, hn3, hv3, _, _, b3⟩
  have h3 : Pair w w3 (atRl b g (newRl 2)) noB (fun _ => False) := H2.out.toReel stays_no b3 hn3 hv3
  have C4 := Lib.hid (show Calls Try.prog 12 #[ptr b, .slice none 0 0] w3 (fun e w' => e = .returned (.int .i64 91) ∧ Pair w w' (atRl b g (newRl 2)) noB (fun _ => False)) by
    have := h3.radd stays_no none 0 [] (BytesP.nil _ _ _) (by simp [newRl, Pl.new])
    rw [A1.out] at this
    exact this.mono fun _ _ ⟨e, h, _⟩ => ⟨e, h⟩)
  clear h3 hv3 b3 hn3 H2 CO
  go_wp2_with fail
  refine C4.out.mono ?_
  rintro e w4 ⟨rfl, h4⟩
  have C5 := Lib.hid (show Calls Try.prog 13 #[ptr b] w4 (fun e w' => e = .returned (.int .i64 91) ∧ Pair w w' (atRl b g (newRl 2)) noB (fun _ => False)) by
    have := h4.rflush stays_no
    rw [F1.out] at this
    exact this.mono fun _ _ ⟨e, h, _⟩ => ⟨e, h⟩)
  clear h4 C4
  go_wp2_with fail
  refine C5.out.mono ?_
  rintro e w5 ⟨rfl, h5⟩
  have bA := (Below.refl w5.heap.size w5).alloc (Nat.le_refl _) (.cells (arr (zeroL 41)) 5)
  have C6 := Lib.hid (show Calls Try.prog 14 #[ptr b, .slice (some ⟨w5.heap.size, 0, none⟩) 41 41] (w5.alloc (.cells (arr (zeroL 41)) 5)) (fun e w' => e = .returned (.int .i64 92) ∧ Pair w w' (atRl b g (newRl 2)) noB (fun _ => False)) by
    have := (h5.more (stays_rl _ _ _) stays_no bA).rbegin stays_no (some ⟨w5.heap.size, 0, none⟩) 41 (zeroL 41) (zero_block 41 (by omega) w5) (Nat.le_refl _) (by simp [newRl, Pl.new])
    rw [G1.out, zeroL_len] at this
    exact this.mono fun _ _ ⟨e, h, _⟩ => ⟨e, h⟩)
  clear h5 C5 bA
  go_wp2_with fail
  refine C6.out.mono ?_
  rintro e w6 ⟨rfl, h6⟩
  have bA := (Below.refl w6.heap.size w6).alloc (Nat.le_refl _) (.cells (arr (zeroL 40)) 5)
  have C7 := Lib.hid (show Calls Try.prog 14 #[ptr b, .slice (some ⟨w6.heap.size, 0, none⟩) 40 40] (w6.alloc (.cells (arr (zeroL 40)) 5)) (fun e w' => e = .returned (.int .i64 0) ∧ Pair w w' (atRl b g r1) noB (fun _ => False)) by
    have := (h6.more (stays_rl _ _ _) stays_no bA).rbegin stays_no (some ⟨w6.heap.size, 0, none⟩) 40 (zeroL 40) (zero_block 40 (by omega) w6) (Nat.le_refl _) (by simp [newRl, Pl.new])
    rw [HB1.out, zeroL_len] at this
    exact this.mono fun _ _ ⟨e, h, _⟩ => ⟨e, h⟩)
  clear h6 C6 bA
  go_wp2_with fail
  refine C7.out.mono ?_
  rintro e w7 ⟨rfl, h7⟩
  have C8 := Lib.hid (show Calls Try.prog 12 #[ptr b, .slice none 0 0] w7 (fun e w' => e = .returned (.int .i64 92) ∧ Pair w w' (atRl b g r1) noB (fun _ => False)) by
    have := h7.radd stays_no none 0 [] (BytesP.nil _ _ _) LL1.out
    rw [A2.out] at this
    exact this.mono fun _ _ ⟨e, h, _⟩ => ⟨e, h⟩)
  clear h7 C7
  go_wp2_with fail
  refine C8.out.mono ?_
  rintro e w8 ⟨rfl, h8⟩
  have HLOW := Lib.hid h8.low
  clear h8 C8
  go_wp2_with fail
  refine (K1.out _).mono ?_
  rintro e w9 ⟨rfl, b9⟩
  go_wp2_with fail
  refine (K2.out _).mono ?_
  rintro e wA ⟨rfl, bA⟩
  go_wp2_with fail
  refine (K3.out _).mono ?_
  rintro e wB ⟨rfl, bB⟩
  go_wp2_with fail
  refine (K4.out _).mono ?_
  rintro e wC ⟨rfl, bC⟩
  go_wp2_with fail
  refine (K5.out _).mono ?_
  rintro e wD ⟨rfl, bD⟩
  have x1 := HLOW.out.trans (b9.mono HLOW.out.size)
  have x2 := x1.trans (bA.mono x1.size)
  have x3 := x2.trans (bB.mono x2.size)
  have x4 := x3.trans (bC.mono x3.size)
  have X5 := Lib.hid (x4.trans (bD.mono x4.size))
  go_wp2_with fail
  go_ret
  exact ⟨rfl, X5.out⟩


set_option maxRecDepth 100000 in
theorem reelNames_lifted (os : Os) (started : os.Started) (H : Type) (enc : TypeId × Value → H) :
    ReturnsInHanded {} Try.checked os 3 .any (Rows.reelNamesSpec.pre6 enc Try.prog Try.f3 Rows.reelNamesRow.domain false) (Rows.reelNamesSpec.post enc Try.prog Try.f3 false true false false) := by
  refine returnsInHanded_of_change (C := Try.checked) own started (by kernel_rfl) Try.func3
    (ChangeSpec.witness6 (enc := enc) (C := Try.checked) false ⟨#[], #[], []⟩ 8 (by kernel_rfl) (by kernel_rfl) (by kernel_rfl) (by kernel_rfl)) ?_
  intro W base args ds gs before hval0 hW _ _
  have hW' := hW
  obtain ⟨p, q, hA0, hV, rfl, _, _⟩ := hW
  have hA : DataW.TrodAll enc Try.prog W 0 (fun _ => true) true Try.f3.params.toList args.toList ds p := hA0
  rw [Try.params3] at hA
  obtain ⟨h1, rfl, rfl⟩ := trodAll_none hA
  have hargs : args = #[] := by simpa using h1
  subst hargs
  obtain ⟨rfl, rfl⟩ := trodVars_none hV
  clear hA0 hval0
  simp only [List.append_nil] at hW'

  refine (names_walk W).mono fun e W' ⟨he, hb⟩ => ?_
  subst he
  exact ⟨_, rfl, _, _, _, [], [], [], hW', trodAll_mk1 (shut_bool Try.underlying4 _), trodAll_mk0, rfl, hb.frame _, fun h => by cases h⟩

theorem reelNames_holds : Rows.ReelNamesSaid :=
  OpenClaim.holds_of_wide 3 Try.f3 rfl rfl rfl rfl rfl rfl rfl ⟨rfl, rfl, rfl, rfl, rfl⟩ rfl rfl rfl rfl rfl (by kernel_rfl) Try.func3 (by kernel_rfl)
    (of_decide_eq_true (by kernel_rfl)) (by unfold Func.isWrapper; first | (rw [if_pos (by decide +kernel)]; kernel_rfl) | (rw [if_neg (by decide +kernel)]; exact ⟨rfl, rfl⟩))
    (fun os started H enc _ => reelNames_lifted os started H enc)
#print axioms reelNames_holds


end Go.Proofs.Ytipikkniookanaa
