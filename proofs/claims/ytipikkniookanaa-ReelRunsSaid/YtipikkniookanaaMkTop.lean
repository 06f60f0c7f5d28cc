/- What Top of package marks answers. -/
import Derived.Test.YtipikkniookanaaMkLeaf
import Derived.Test.YtipikkniookanaaFar
import Derived.Laws.Cover1
namespace Go.Proofs.Ytipikkniookanaa
set_option maxRecDepth 100000
open Go.RowKit

attribute [local go_sem ↓] ld26 ld66 st26 st66 bx26 al26 al66 bd26 bd66 bs61 bs48 mk48 eq26 ap61 ap48 ap49 cp46 cp48
attribute [local go_sem] bx_agg al_cell al_wr bd_zero bd_one bd_two bd_nine

/-- A cell in a local variable. -/
theorem local_cell {w : World} {c : List Nat} (hc : IsCell c) : ∃ w', StR 90 (.pointer (some ⟨w.heap.size, 0, none⟩)) (.agg (arr c)) (w.alloc (.cells (arr zeroC) 90)) = .ok .skip w' ∧ RowAt w' w.heap.size 90 (c.map bv) ∧ Below w.heap.size w w' ∧ w'.heap.size = w.heap.size + 1 := by
  obtain ⟨w', h1, h2, h3⟩ := st_block zeroC_len hc.len (cell_block w zeroC)
  exact ⟨w', h1, h2, ((Below.refl w.heap.size w).alloc (Nat.le_refl _) _).trans (h3.below (Nat.le_refl _)), h3.size.trans (by simp)⟩

theorem numBx_below {f : FuncId} {args : Array Value} {c : List Nat} {n : Nat} {w : World} (h : Calls Try.prog f args w (NumBx c n w)) : Calls Try.prog f args w (fun e w' => e = .returned (.int .u64 (n : Int)) ∧ Below w.heap.size w w') :=
  h.mono fun _ _ ⟨he, hw⟩ => ⟨he, by subst hw; exact (Below.refl w.heap.size w).alloc (Nat.le_refl _) _⟩

theorem far_row {w : World} {b : Nat} {T : TypeId} {xs : List Value} (h : RowAt w b T xs) (p : Far w) : RowAt (farOf w p) b T xs := h.same (p.block b h.lt)

theorem Pl.get_last {P : Pl} (h : P.Good) {k : Nat} (hk : k < P.sure.length) : P.get (k : Int) = P.last[k]'(by rw [h.size]; exact hk) ∧ P.getE (k : Int) = 0 := by
  have hh : P.has (k : Int) = true := by simp [Pl.has]; omega
  have hk2 : k < P.last.length := by rw [h.size]; exact hk
  unfold Pl.get Pl.getE
  rw [hh]
  simp [List.getElem?_eq_getElem hk2]

/-- A number is answered; all that was there stays. -/
def NumB (n : Nat) (w : World) (e : Ending) (w' : World) : Prop := e = .returned (.int .u64 (n : Int)) ∧ Below w.heap.size w w'

set_option maxHeartbeats 400000 in
set_option maxRecDepth 100000 in
theorem top_any {w : World} {R : Nat → Prop} {g bs bl : Nat} {lv : Value} {P : Pl} (h : PlM w R g bs bl lv P) : Calls Try.prog 38 #[ptr g] w (NumB (topL P.last) w) := by
  have CL := Lib.hid (len_any h)
  have HP := Lib.hid h
  have hm := h.good.most
  have HG := Lib.hid h.good
  clear h
  go_enter Try.func38, Try.ntmps38
  go_wp2_with fail
  refine CL.out.mono ?_
  rintro e w' ⟨rfl, rfl⟩
  go_wp2_with fail
  go_loopw [3, 9] (fun s i wr => ∃ (k n : Nat), k ≤ P.sure.length ∧ i = .int .i64 k ∧ s = .int .u64 n ∧ n < 18446744073709551616 ∧ Hid (max n (topM (P.last.drop k)) = topM P.last) ∧ Hid (Below w.heap.size w wr)) (fun _ i _ => P.sure.length - (intOf i).toNat)
  case atStart => exact ⟨0, 0, Nat.zero_le _, rfl, rfl, by decide, Lib.hid (by simp), Lib.hid (Below.refl _ _)⟩
  case round =>
    obtain ⟨k, n, hk, rfl, rfl, hn, HN, HB⟩ := hrel
    by_cases hlt : k < P.sure.length
    · have hg := get_any (HP.out.below HB.out) (k : Int)
      rw [(Pl.get_last HG.out hlt).1, (Pl.get_last HG.out hlt).2] at hg
      have hl2 : k < P.last.length := by rw [HG.out.size]; exact hlt
      have hd := topM_drop hl2
      have ic : IsCell (P.last[k]'hl2) := HG.out.cl.get hl2
      generalize P.last[k]'hl2 = c at *
      have CG := Lib.hid hg
      have N0 := Lib.hid (show ∀ W, Calls Try.prog 58 #[.agg (arr c), .int .i64 0] W (fun e w' => e = .returned (.int .u64 (numC c 0 : Int)) ∧ Below W.heap.size W w') from fun W => numBx_below (number_any ic 0 (by omega) W))
      have N1 := Lib.hid (show ∀ W, Calls Try.prog 58 #[.agg (arr c), .int .i64 56] W (fun e w' => e = .returned (.int .u64 (numC c 56 : Int)) ∧ Below W.heap.size W w') from fun W => numBx_below (number_any ic 56 (by omega) W))
      have b0 := numC_lt ic 0
      have b1 := numC_lt ic 56
      generalize numC c 0 = x at *
      generalize numC c 56 = y at *
      have HE := Lib.hid (show max (max (max n x) y) (topM (P.last.drop (k + 1))) = topM P.last by rw [← HN.out, hd]; omega)
      clear hg hd hl2
      obtain ⟨m1, hm1, hm2, HM1⟩ : ∃ m1 : Nat, (if n < x then (x : Int) else (n : Int)) = (m1 : Int) ∧ m1 < 18446744073709551616 ∧ Hid (m1 = max n x) := ⟨max n x, by split <;> omega, by omega, rfl⟩
      obtain ⟨m2, hm3, hm4, HM2⟩ : ∃ m2 : Nat, (if m1 < y then (y : Int) else (m1 : Int)) = (m2 : Int) ∧ m2 < 18446744073709551616 ∧ Hid (m2 = max (max n x) y) := ⟨max m1 y, by split <;> omega, by omega, by rw [HM1.out]; rfl⟩
      go_wp2_with fail
      refine CG.out.mono ?_
      rintro e w4 ⟨rfl, b4⟩
      obtain ⟨w5, s5, r5, b5, z5⟩ := local_cell (w := w4) ic
      have B5 := Lib.hid ((HB.out.trans (b4.mono HB.out.size)).trans (b5.mono (Nat.le_trans HB.out.size b4.size)))
      have LX := fun p => ld_block (w := farOf w5 p) ic.len (far_row r5 p)
      clear b4 b5 r5 z5 CG
      go_wp2_with fail
      refine wp_region_far (by kernel_rfl) (by kernel_rfl) ?_
      repeat (first | go_big_quiet_step ((go_at_call 58; first | with_reducible exact calls_far (N0.out _) | with_reducible exact calls_far (N1.out _))) | quiet_step ((go_at_call 58; first | with_reducible exact calls_far (N0.out _) | with_reducible exact calls_far (N1.out _))))
      refine wpQuiet_nil ?_
      intro _ hw'
      obtain ⟨p, hw''⟩ := hw'
      subst hw''
      have HX := Lib.hid (B5.out.trans ((far_below w5 p).mono B5.out.size))
      have HE2 := Lib.hid (show max m2 (topM (P.last.drop (k + 1))) = topM P.last by rw [HM2.out]; exact HE.out)
      go_wp2_with fail
      go_roundw
      case rel => exact ⟨k + 1, m2, by omega, by go_num, rfl, hm4, HE2, HX⟩
      case measure => simp [intOf]; omega
    · have hkk : k = P.sure.length := by omega
      have HE := Lib.hid (show topM P.last = n by
        rw [← HN.out, List.drop_eq_nil_of_le (by rw [HG.out.size]; omega)]
        simp [topM])
      obtain ⟨q, hq, HQ⟩ : ∃ q : Nat, (n : Int) / 65536 = (q : Int) ∧ Hid (topL P.last = q) := ⟨n / 65536, by omega, by unfold topL; rw [HE.out]; rfl⟩
      go_wp2_with fail
      go_ret
      exact ⟨by rw [HQ.out]; rfl, HB.out⟩

end Go.Proofs.Ytipikkniookanaa
