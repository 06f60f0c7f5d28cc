/- What the document's Number, Mark and Cell of layer 8 answer. -/
import Derived.Test.YtipikkniookanaaMkPut
import Derived.Test.YtipikkniookanaaMkTop
namespace Go.Proofs.Ytipikkniookanaa
set_option maxRecDepth 100000
open Go.RowKit

attribute [local go_sem ↓] ld26 ld66 st26 st66 bx26 al26 al66 bd26 bd66 bs61 bs48 mk48 eq26 ap61 ap48 ap49 cp46 cp48
attribute [local go_sem] bx_agg al_cell al_wr bd_zero bd_one bd_two bd_nine

set_option maxHeartbeats 2000000 in
theorem refNumber_any {c : List Nat} (hc : IsCell c) (o : Nat) (ho : o ≤ 56) (w : World) : Calls Try.prog 66 #[.agg (arr c), .int .i64 (o : Int)] w (NumBx c (numC c o) w) := by
  have K := Lib.hid (cell_block w c)
  have HC := Lib.hid hc
  clear hc
  obtain ⟨e8, he8, he64, HE8⟩ : ∃ e8 : Nat, (o : Int) + 8 = (e8 : Int) ∧ e8 ≤ 64 ∧ Hid (e8 = o + 8) := ⟨o + 8, by omega, by omega, rfl⟩
  go_enter Try.func66, Try.ntmps66
  go_wp2_with fail
  go_loop [5, 6, 7] (fun s t i => ∃ (j n g : Nat), j ≤ e8 ∧ i = .int .i64 j ∧ s = .int .u64 n ∧ t = .int .u64 g ∧ g < 18446744073709551616 ∧ Hid (o ≤ j) ∧ Hid (g = 256 ^ (j - o) % 18446744073709551616) ∧ Hid (n = numLE ((c.drop o).take (j - o)))) (fun _ _ i => e8 - (intOf i).toNat)
  case atStart => exact ⟨o, 0, 1, by have := HE8.out; omega, rfl, rfl, rfl, by decide, Lib.hid (Nat.le_refl _), Lib.hid (by simp), Lib.hid (by simp [numLE])⟩
  case round =>
    obtain ⟨j, n, g, hj, rfl, rfl, rfl, hg, HJ, HGW, HN⟩ := hrel
    by_cases hlt : j < e8
    · have hqc : j < c.length := by rw [HC.out.len]; omega
      have g1 := K.out.cell (j := j) (v := bv c[j]) (by rw [List.getElem?_map, List.getElem?_eq_getElem hqc]; rfl)
      have hx : c[j] < 256 := HC.out.byte _ (List.getElem_mem hqc)
      have HX := Lib.hid (show (c.drop o).take (j + 1 - o) = (c.drop o).take (j - o) ++ [c[j]] by
        have h1 := HJ.out
        rw [show j + 1 - o = (j - o) + 1 by omega, List.take_add_one, List.getElem?_drop, show o + (j - o) = j by omega, List.getElem?_eq_getElem hqc]
        rfl)
      have HL := Lib.hid (show ((c.drop o).take (j - o)).length = j - o by have := HE8.out; rw [List.length_take, List.length_drop, HC.out.len]; omega)
      generalize c[j] = x at *
      have hwl : IntKind.u64.wrap (x : Int) = (x : Int) := by rw [IntKind.wrap_u64]; omega
      have h7 : j - o ≤ 7 := by have := HE8.out; omega
      have HP := Lib.hid (show 256 ^ (j - o) ≤ 256 ^ 7 from Nat.pow_le_pow_right (by decide) h7)
      have HB := Lib.hid (show n < 256 ^ (j - o) by
        have := numLE_lt (l := (c.drop o).take (j - o)) (fun b hb => HC.out.byte b (List.mem_of_mem_drop (List.mem_of_mem_take hb)))
        rw [HL.out] at this
        rw [HN.out]
        exact this)
      have HG7 := Lib.hid (show g = 256 ^ (j - o) by rw [HGW.out, Nat.mod_eq_of_lt (Nat.lt_of_le_of_lt HP.out (by decide))])
      have HT0 := Lib.hid (show x * 256 ^ (j - o) ≤ 255 * 256 ^ 7 from Nat.mul_le_mul (by omega) HP.out)
      obtain ⟨t, ht, htl, HT⟩ : ∃ t : Nat, IntKind.u64.wrap ((x : Int) * (g : Int)) = (t : Int) ∧ t ≤ 255 * 256 ^ 7 ∧ Hid (t = x * 256 ^ (j - o)) := by
        have hb := HT0.out
        have e : (255 : Nat) * 256 ^ 7 < 18446744073709551616 := by decide
        refine ⟨x * 256 ^ (j - o), ?_, hb, rfl⟩
        rw [HG7.out, show (x : Int) * ((256 ^ (j - o) : Nat) : Int) = ((x * 256 ^ (j - o) : Nat) : Int) by simp, IntKind.wrap_u64]
        omega
      obtain ⟨n2, hor, HN2⟩ : ∃ n2 : Nat, IntKind.u64.wrap ((n : Int) + (t : Int)) = (n2 : Int) ∧ Hid (n2 = numLE ((c.drop o).take (j + 1 - o))) := by
        have hb := HB.out
        have h1 := HP.out
        have e : (255 : Nat) * 256 ^ 7 + 256 ^ 7 ≤ 18446744073709551616 := by decide
        refine ⟨n + t, by rw [IntKind.wrap_u64]; omega, ?_⟩
        rw [HX.out, numLE_snoc, HL.out, ← HN.out, HT.out]; rfl
      obtain ⟨g2, hg2, hg2l, HG2⟩ : ∃ g2 : Nat, IntKind.u64.wrap ((g : Int) * 256) = (g2 : Int) ∧ g2 < 18446744073709551616 ∧ Hid (g2 = 256 ^ (j + 1 - o) % 18446744073709551616) := by
        refine ⟨g * 256 % 18446744073709551616, by rw [IntKind.wrap_u64]; omega, by omega, ?_⟩
        have h1 := HJ.out
        rw [HG7.out, show j + 1 - o = (j - o) + 1 by omega, Nat.pow_succ]; rfl
      have HJ2 := Lib.hid (show o ≤ j + 1 by have := HJ.out; omega)
      clear HX HL HP HB HT0 HT HG7 h7
      go_wp2_with fail
      go_round
      case rel => exact ⟨j + 1, n2, g2, by omega, by go_num, rfl, rfl, hg2l, HJ2, HG2, HN2⟩
      case measure => simp [intOf]; omega
    · have HE := Lib.hid (show numC c o = n by rw [HN.out, show j - o = 8 by have := HE8.out; omega]; rfl)
      go_wp2_with fail
      go_ret
      exact ⟨by rw [HE.out]; rfl, rfl⟩

set_option maxHeartbeats 2000000 in
theorem refMark_any {c : List Nat} (hc : IsCell c) (w : World) : Calls Try.prog 83 #[.agg (arr c)] w (NumB (markC c) w) := by
  have N0 := Lib.hid (show ∀ W, Calls Try.prog 66 #[.agg (arr c), .int .i64 0] W (fun e w' => e = .returned (.int .u64 (numC c 0 : Int)) ∧ Below W.heap.size W w') from fun W => numBx_below (refNumber_any hc 0 (by omega) W))
  have N1 := Lib.hid (show ∀ W, Calls Try.prog 66 #[.agg (arr c), .int .i64 56] W (fun e w' => e = .returned (.int .u64 (numC c 56 : Int)) ∧ Below W.heap.size W w') from fun W => numBx_below (refNumber_any hc 56 (by omega) W))
  have k0 := cell_block w c
  have B1 := Lib.hid ((Below.refl w.heap.size w).alloc (Nat.le_refl _) (.cells (arr c) 90))
  have LX := fun p => ld_block (w := farOf (w.alloc (.cells (arr c) 90)) p) hc.len (far_row k0 p)
  have E := Lib.hid (show markC c = if numC c 0 = numC c 56 then numC c 0 else 0 from rfl)
  generalize numC c 0 = x at *
  generalize numC c 56 = y at *
  clear k0
  cases t1 : ((x : Int) == (y : Int)) with
  | false =>
    have hne : ¬ x = y := by simp at t1; omega
    rw [if_neg hne] at E
    have tne : x ≠ y := hne
    go_enter Try.func83, Try.ntmps83
    go_wp2_with fail
    refine wp_region_far (by kernel_rfl) (by kernel_rfl) ?_
    repeat (first | go_big_quiet_step ((go_at_call 66; first | with_reducible exact calls_far (N0.out _) | with_reducible exact calls_far (N1.out _))) | quiet_step ((go_at_call 66; first | with_reducible exact calls_far (N0.out _) | with_reducible exact calls_far (N1.out _))))
    refine wpQuiet_nil ?_
    intro _ hw'
    obtain ⟨p, hw''⟩ := hw'
    subst hw''
    go_wp2_with fail
    go_ret
    exact ⟨by rw [E.out]; rfl, B1.out.trans ((far_below _ p).mono B1.out.size)⟩
  | true =>
    have he : x = y := by simp at t1; omega
    subst he
    rw [if_pos rfl] at E
    go_enter Try.func83, Try.ntmps83
    go_wp2_with fail
    refine wp_region_far (by kernel_rfl) (by kernel_rfl) ?_
    repeat (first | go_big_quiet_step ((go_at_call 66; first | with_reducible exact calls_far (N0.out _) | with_reducible exact calls_far (N1.out _))) | quiet_step ((go_at_call 66; first | with_reducible exact calls_far (N0.out _) | with_reducible exact calls_far (N1.out _))))
    refine wpQuiet_nil ?_
    intro _ hw'
    obtain ⟨p, hw''⟩ := hw'
    subst hw''
    have L2 := LX p
    have B2 := Lib.hid (B1.out.trans ((far_below _ p).mono B1.out.size))
    clear LX
    generalize farOf (w.alloc (.cells (arr c) 90)) p = w2 at *
    go_wp2_with fail
    refine (N0.out _).mono ?_
    rintro e w3 ⟨rfl, b3⟩
    have B3 := Lib.hid (B2.out.trans (b3.mono B2.out.size))
    clear b3
    go_wp2_with fail
    go_ret
    exact ⟨by rw [E.out]; rfl, B3.out⟩

end Go.Proofs.Ytipikkniookanaa
