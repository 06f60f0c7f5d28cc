/- ReelCells: the law returns true for any number: a longer word has no fewer cells, one more at most, and each cell has 48 bytes of its frame. It has no conditions. -/
import Derived.Test.YtipikkniookanaaRlAlive
import Derived.Test.YtipikkniookanaaMake
import Derived.Test.YtipikkniookanaaArgs
namespace Go.Proofs.Ytipikkniookanaa
open Go.ChangeShapes Go.WideShapes Go.ChangeAt Go.RowKit

attribute [local go_sem ↓] ld26 ld66 st26 st66 bx26 al26 al66 bd26 bd66 bs61 bs48 mk48 eq26 ap61 ap48 ap49 cp46 cp48 mkB
attribute [local go_sem] bx_agg al_cell al_wr bd_zero bd_one bd_two bd_nine

theorem numL_three' {n : Nat} (h : n ≤ 65536) : (numL n).length = if n < 128 then 1 else if n < 16384 then 2 else 3 := by
  split
  · rename_i h1; rw [numL_small h1]; rfl
  · split
    · rename_i h1 h2; rw [numL_great (by omega), numL_small (by omega)]; rfl
    · rename_i h1 h2; rw [numL_great (by omega), numL_great (by omega), numL_small (by omega)]; rfl

set_option maxRecDepth 100000 in
set_option maxHeartbeats 4000000 in
theorem cells_walk (n : Int) (w : World) : Calls Try.prog 7 #[.int .i64 n] w (TrueB w) := by
  have CC := Lib.hid (fun k W => cells_any k W)
  by_cases h0 : n < 0
  · have t0 : decide (n < 0) = true := by simpa using h0
    have E := Lib.hid (show cellsI n = 0 by unfold cellsI; rw [if_neg (by omega)])
    have C := Lib.hid (fun W => CC.out n W)
    rw [E.out] at C
    go_enter Try.func7, Try.ntmps7
    go_wp2_with fail
    refine (ralive_any _).mono ?_
    rintro e w1 ⟨rfl, b1⟩
    go_wp2_with fail
    refine (C.out _).mono ?_
    rintro e w2 ⟨rfl, b2⟩
    go_wp2_with fail
    go_ret
    exact ⟨rfl, b1.trans (b2.mono b1.size)⟩
  · have t0 : decide (n < 0) = false := by simpa using h0
    by_cases h1 : 65536 ≤ n
    · have t1 : decide (65536 ≤ n) = true := by simpa using h1
      have C := Lib.hid (fun W => CC.out n W)
      by_cases h2 : n = 65536
      · subst h2
        have t2 : ((cellsI 65536 : Int) == 0) = false := by
          have h3 : 0 < cellsN 65536 := cellsN_pos (Nat.le_refl _)
          have : cellsI 65536 = cellsN 65536 := by unfold cellsI; rw [if_pos (by omega)]; congr 1
          rw [this]
          simp
          omega
        generalize cellsI 65536 = q at *
        go_enter Try.func7, Try.ntmps7
        go_wp2_with fail
        refine (ralive_any _).mono ?_
        rintro e w1 ⟨rfl, b1⟩
        go_wp2_with fail
        refine (C.out _).mono ?_
        rintro e w2 ⟨rfl, b2⟩
        go_wp2_with fail
        go_ret
        exact ⟨rfl, b1.trans (b2.mono b1.size)⟩
      · have E := Lib.hid (show cellsI n = 0 by unfold cellsI cellsN; rw [if_pos (by omega), if_neg (by omega)])
        rw [E.out] at C
        go_enter Try.func7, Try.ntmps7
        go_wp2_with fail
        refine (ralive_any _).mono ?_
        rintro e w1 ⟨rfl, b1⟩
        go_wp2_with fail
        refine (C.out _).mono ?_
        rintro e w2 ⟨rfl, b2⟩
        go_wp2_with fail
        go_ret
        exact ⟨rfl, b1.trans (b2.mono b1.size)⟩
    · have t1 : decide (65536 ≤ n) = false := by simpa using h1
      obtain ⟨m, rfl⟩ : ∃ m : Nat, n = (m : Int) := ⟨n.toNat, by omega⟩
      have hm : m < 65536 := by omega
      have ea : cellsI (m : Int) = cellsN m := by simp [cellsI]
      have eb : cellsI ((m : Int) + 1) = cellsN (m + 1) := by unfold cellsI; rw [if_pos (by omega)]; congr 1
      have CA := Lib.hid (fun W => CC.out (m : Int) W)
      have CB := Lib.hid (fun W => CC.out ((m : Int) + 1) W)
      rw [ea] at CA
      rw [eb] at CB
      have fa : cellsN m = (7 + (numL m).length + m + 47) / 48 := by unfold cellsN; rw [if_pos (by omega)]
      have fb : cellsN (m + 1) = (7 + (numL (m + 1)).length + (m + 1) + 47) / 48 := by unfold cellsN; rw [if_pos (by omega)]
      rw [numL_three' (by omega)] at fa fb
      obtain ⟨a, ha⟩ : ∃ a, cellsN m = a := ⟨_, rfl⟩
      obtain ⟨b, hb⟩ : ∃ b, cellsN (m + 1) = b := ⟨_, rfl⟩
      rw [ha] at CA fa
      rw [hb] at CB fb
      have g1 : a ≤ b := by rw [fa, fb]; split <;> split <;> (try split) <;> (try split) <;> omega
      have g2 : decide ((b : Int) ≤ (a : Int) + 1) = true := by simp only [decide_eq_true_eq]; rw [fa, fb]; split <;> split <;> (try split) <;> (try split) <;> omega
      have g3 : decide ((m : Int) + 8 ≤ 48 * (a : Int)) = true := by simp only [decide_eq_true_eq]; rw [fa]; split <;> (try split) <;> omega
      have g4 : decide (48 * ((a : Int) - 1) < (m : Int) + 10) = true := by simp only [decide_eq_true_eq]; rw [fa]; split <;> (try split) <;> omega
      have ga : a ≤ 1400 := by rw [fa]; split <;> (try split) <;> omega
      clear fa fb ha hb ea eb CC h0 h1
      go_enter Try.func7, Try.ntmps7
      go_wp2_with fail
      refine (ralive_any _).mono ?_
      rintro e w1 ⟨rfl, b1⟩
      go_wp2_with fail
      refine (CA.out _).mono ?_
      rintro e w2 ⟨rfl, b2⟩
      go_wp2_with fail
      refine (CB.out _).mono ?_
      rintro e w3 ⟨rfl, b3⟩
      have b23 := b2.trans (b3.mono b2.size)
      go_wp2_with fail
      go_ret
      exact ⟨rfl, b1.trans (b23.mono b1.size)⟩


set_option maxRecDepth 100000 in
theorem reelCells_lifted (os : Os) (started : os.Started) (H : Type) (enc : TypeId × Value → H) :
    ReturnsInHanded {} Try.checked os 7 .any (Rows.reelCellsSpec.pre6 enc Try.prog Try.f7 Rows.reelCellsRow.domain false) (Rows.reelCellsSpec.post enc Try.prog Try.f7 false true false false) := by
  refine returnsInHanded_of_change (C := Try.checked) own started (by kernel_rfl) Try.func7
    (ChangeSpec.witness6 (enc := enc) (C := Try.checked) false ⟨#[], #[.int .i64 0], []⟩ 8 (by kernel_rfl) (by kernel_rfl) (by kernel_rfl) (by kernel_rfl)) ?_
  intro W base args ds gs before hval0 hW _ _
  have hval : ∀ (j : Nat) t v, Try.f7.params[j]? = some t → args[j]? = some v → Value.okWide Try.prog W .any base t v := hval0
  have hW' := hW
  obtain ⟨p, q, hA0, hV, rfl, _, _⟩ := hW
  have hA : DataW.TrodAll enc Try.prog W 0 (fun _ => true) true Try.f7.params.toList args.toList ds p := hA0
  rw [Try.params7] at hA hval
  obtain ⟨v0, vs0, d0, ds0, p0, q_0, hargs, rfl, rfl, h0, r0⟩ := trodAll_cons hA
  obtain ⟨rfl, rfl, rfl⟩ := trodAll_nil r0
  obtain rfl : args = #[v0] := by cases args; simp_all
  obtain ⟨rfl, rfl⟩ := trodVars_none hV
  clear hA0 hval0
  simp only [List.append_nil] at hW'
  obtain ⟨a0, rfl, rfl, rfl, w0⟩ := open_int Try.underlying3 (hval 0 3 v0 rfl rfl) h0
  refine (cells_walk a0 W).mono fun e W' ⟨he, hb⟩ => ?_
  subst he
  exact ⟨_, rfl, _, _, _, [], [], [], hW', trodAll_mk1 (shut_bool Try.underlying4 _), (trodAll_cons_mk (shut_int Try.underlying3 w0) trodAll_mk0), rfl, hb.frame _, fun h => by cases h⟩

theorem reelCells_holds : Rows.ReelCellsSaid :=
  OpenClaim.holds_of_wide 7 Try.f7 rfl rfl rfl rfl rfl rfl rfl ⟨rfl, rfl, rfl, rfl, rfl⟩ rfl rfl rfl rfl rfl (by kernel_rfl) Try.func7 (by kernel_rfl)
    (of_decide_eq_true (by kernel_rfl)) (by unfold Func.isWrapper; first | (rw [if_pos (by decide +kernel)]; kernel_rfl) | (rw [if_neg (by decide +kernel)]; exact ⟨rfl, rfl⟩))
    (fun os started H enc _ => reelCells_lifted os started H enc)
#print axioms reelCells_holds


end Go.Proofs.Ytipikkniookanaa
