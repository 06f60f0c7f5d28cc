/- What Read of package marks answers: the walk. -/
import Derived.Test.YtipikkniookanaaMkRead
namespace Go.Proofs.Ytipikkniookanaa
set_option maxRecDepth 100000
open Go.RowKit

attribute [local go_sem ↓] ld26 ld66 st26 st66 bx26 al26 al66 bd26 bd66 bs61 bs48 mk48 eq26 ap61 ap48 ap49 cp46 cp48 apLL
attribute [local go_sem] bx_agg al_cell al_wr bd_zero bd_one bd_two bd_nine

/-- What is between a cell's marks, as bytes in memory. -/
theorem inner_bytes {w : World} {b : Nat} {T : TypeId} {c : List Nat} (hc : IsCell c) (h : RowAt w b T (c.map bv)) : BytesP w (some ⟨b, 8, none⟩) 56 (innerC c) := by
  have hl := innerC_len hc
  refine ⟨by omega, by omega, innerC_bytes hc, fun _ => ⟨b, 8, rfl, h.lt, fun j x hj => ?_⟩⟩
  refine h.cell ?_
  unfold innerC at hj
  rw [List.getElem?_take] at hj
  split at hj
  · rw [List.getElem?_drop] at hj
    rw [List.getElem?_map, hj]
    rfl
  · cases hj

theorem own_some_bytes {w : World} {base : Nat} {v : Value} {l : List Nat} (h : OwnB w base v l) (hb : Bytes l) (hl : l ≠ []) : ∃ b cap, v = .slice (some ⟨b, 0, none⟩) l.length cap ∧ base ≤ b ∧ b < w.heap.size ∧ BytesP w (some ⟨b, 0, none⟩) cap l := by
  obtain ⟨a, cap, rfl, hB⟩ := h.bytes hb
  obtain ⟨b, o, rfl, h1, _⟩ := hB.cell hl
  rcases h.2 with ⟨e, h0⟩ | ⟨g, cap', cur, e, h2, h3, _⟩
  · exact absurd (List.eq_nil_of_length_eq_zero h0) hl
  · injection e with e1
    injection e1 with e1
    injection e1 with e1 e2
    subst e1 e2
    exact ⟨b, cap, rfl, h2, h1, hB⟩

section
variable {w : World} {R : Nat → Prop} {g bs bl : Nat} {lv : Value} {P : Pl}

theorem llp_nil (w : World) : LLP w none 0 [] := ⟨by simp, by simp, fun h => absurd rfl h⟩

set_option maxHeartbeats 4000000 in
set_option maxRecDepth 100000 in
theorem read_any (h : PlM w R g bs bl lv P) (side : Int) : Calls Try.prog 49 #[ptr g, .int .i64 side] w (ReadPost (readL P.last side) w) := by
  have CS := Lib.hid (isSide_any side w)
  have CM := Lib.hid (room_any h)
  have hm := h.good.most
  have HS := Lib.hid h.good.size
  have HCL := Lib.hid h.good.cl
  have HG := Lib.hid h.good
  have HP := Lib.hid h
  have N0 := Lib.hid (show ReadPost (0, []) w (.returned (.tuple #[.int .u64 0, .slice none 0 0])) w from ⟨none, 0, rfl, llp_nil w, Below.refl _ _⟩)
  have NB := Lib.hid (show ∀ W, Below w.heap.size w W → ReadPost (0, []) w (.returned (.tuple #[.int .u64 0, .slice none 0 0])) W from fun W b => ⟨none, 0, rfl, llp_nil W, b⟩)
  clear h
  cases t1 : isSideB side with
  | false =>
    have E := Lib.hid (show readL P.last side = (0, []) by simp [readL, t1])
    rw [t1] at CS
    go_enter Try.func49, Try.ntmps49
    go_wp2_with fail
    refine CS.out.mono ?_
    rintro e w' ⟨rfl, rfl⟩
    go_wp2_with fail
    go_ret2
    rw [E.out]
    exact N0.out
  | true =>
  rw [t1] at CS
  obtain ⟨sd, rfl⟩ := Int.eq_ofNat_of_zero_le (show 0 ≤ side by simp [isSideB] at t1; omega)
  have hsd : sd ≤ 1 := by simp [isSideB] at t1; omega
  have HRD := Lib.hid (show readL P.last (sd : Int) = readS (sideL P.last sd) by unfold readL; rw [t1]; rfl)
  have HSL := Lib.hid (show (sideL P.last sd).length = P.sure.length / 2 by rw [sideL_len _ hsd, HS.out])
  have HSC := Lib.hid (sideL_cells HCL.out sd)
  have HSG := Lib.hid (show ∀ k (hk : k < P.sure.length / 2), P.get ((sd * (P.sure.length / 2) + k : Nat) : Int) = (sideL P.last sd)[k]'(by rw [HSL.out]; exact hk) ∧ P.getE ((sd * (P.sure.length / 2) + k : Nat) : Int) = 0 from fun k hk => by
    have h2 : sd * (P.sure.length / 2) + k < P.sure.length := by rcases Nat.le_one_iff_eq_zero_or_eq_one.1 hsd with rfl | rfl <;> omega
    obtain ⟨e1, e2⟩ := Pl.get_last HG.out h2
    refine ⟨?_, e2⟩
    rw [e1, sideL_get _ hsd (by rw [HS.out]; exact hk)]
    simp only [HS.out])
  generalize sideL P.last sd = S at *
  have CC := Lib.hid (fun W (b : Below w.heap.size w W) k (hk : k ≤ 100000) => cellOf_any (HP.out.below b) sd k hsd hk)
  have CG := Lib.hid (fun W (b : Below w.heap.size w W) (i : Int) => get_any (HP.out.below b) i)
  have CR := Lib.hid (fun W (b : Below w.heap.size w W) => room_any (HP.out.below b))
  have hn2 : P.sure.length / 2 ≤ 2048 := by omega
  generalize P.sure.length / 2 = n at *
  clear HS HCL HG hm
  cases t2 : ((n : Int) == 0) with
  | true =>
    have hn0 : n = 0 := by simp at t2; omega
    have E := Lib.hid (show readL P.last (sd : Int) = (0, []) by rw [HRD.out, List.eq_nil_of_length_eq_zero (HSL.out.trans hn0)]; rfl)
    go_enter Try.func49, Try.ntmps49
    go_wp2_with fail
    refine CS.out.mono ?_
    rintro e w' ⟨rfl, rfl⟩
    go_wp2_with fail
    refine CM.out.mono ?_
    rintro e w' ⟨rfl, rfl⟩
    go_wp2_with fail
    go_ret2
    rw [E.out]
    exact N0.out
  | false =>
  have hn0 : 0 < n := by simp at t2; omega
  have hS0 : 0 < S.length := by rw [HSL.out]; exact hn0
  have C0 := Lib.hid (show Calls Try.prog 70 #[ptr g, .int .i64 (sd : Int), .int .i64 0] w (Same (.int .i64 ((sd * n + 0 : Nat) : Int)) w) from CC.out w (Below.refl _ _) 0 (by omega))
  have hg0 := CG.out w (Below.refl _ _) ((sd * n + 0 : Nat) : Int)
  rw [(HSG.out 0 hn0).1, (HSG.out 0 hn0).2] at hg0
  have ic := HSC.out _ (List.getElem_mem hS0)
  have HF := Lib.hid (show firstR S = if isRoundB (numC S[0] 0 / 65536) && bearsC S[0] (markN (numC S[0] 0 / 65536) 0) then numC S[0] 0 / 65536 else 0 by
    cases S with
    | nil => simp at hS0
    | cons c t => rfl)
  generalize S[0] = c at *
  have G0 := Lib.hid hg0
  have NU := Lib.hid (show ∀ W, Calls Try.prog 58 #[.agg (arr c), .int .i64 0] W (fun e w' => e = .returned (.int .u64 (numC c 0 : Int)) ∧ Below W.heap.size W w') from fun W => numBx_below (number_any ic 0 (by omega) W))
  have BE := Lib.hid (fun m W => bears_any ic m W)
  have hx := numC_lt ic 0
  generalize numC c 0 = x at *
  obtain ⟨r, hr, HR⟩ : ∃ r : Nat, (x : Int) / 65536 = (r : Int) ∧ Hid (x / 65536 = r) := ⟨x / 65536, by omega, rfl⟩
  rw [HR.out] at HF
  generalize sd * n + 0 = q0 at *
  clear hg0
  have IR := Lib.hid (fun W => isRound_any r W)
  cases t3 : isRoundB r with
  | false =>
    have E := Lib.hid (show readL P.last (sd : Int) = (0, []) by rw [HRD.out]; unfold readS; rw [HF.out, t3]; rfl)
    rw [t3] at IR
    go_enter Try.func49, Try.ntmps49
    go_wp2_with fail
    refine CS.out.mono ?_
    rintro e w' ⟨rfl, rfl⟩
    go_wp2_with fail
    refine CM.out.mono ?_
    rintro e w' ⟨rfl, rfl⟩
    go_wp2_with fail
    refine C0.out.mono ?_
    rintro e w' ⟨rfl, rfl⟩
    go_wp2_with fail
    refine G0.out.mono ?_
    rintro e w4 ⟨rfl, b4⟩
    obtain ⟨w5, s5, r5, b5, z5⟩ := local_cell (w := w4) ic
    have b5' := b4.trans (b5.mono b4.size)
    have L5 := ld_block ic.len r5
    have B5 := Lib.hid b5'
    clear b4 b5 r5 z5 b5'
    go_wp2_with fail
    refine (NU.out _).mono ?_
    rintro e w6 ⟨rfl, b6⟩
    have B6 := Lib.hid (B5.out.trans (b6.mono B5.out.size))
    clear b6
    go_wp2_with fail
    refine wp_region_far (by kernel_rfl) (by kernel_rfl) ?_
    repeat (first | go_big_quiet_step ((go_at_call 71; exact calls_far_same (IR.out _))) | quiet_step ((go_at_call 71; exact calls_far_same (IR.out _))))
    refine wpQuiet_nil ?_
    intro _ hw'
    obtain ⟨p, hw''⟩ := hw'
    subst hw''
    go_wp2_with fail
    go_ret2
    rw [E.out]
    exact NB.out _ (B6.out.trans ((far_below w6 p).mono B6.out.size))
  | true =>
  have hrm : r ≤ 1099511627776 := by simp [isRoundB] at t3; omega
  have hr0 : r ≠ 0 := by simp [isRoundB] at t3; omega
  rw [t3] at IR
  have MO := Lib.hid (show ∀ W, Calls Try.prog 73 #[.int .u64 (r : Int), .int .i64 0] W (Same (.int .u64 (markN r 0 : Int)) W) from fun W => markOf_any r 0 hrm (by omega) W)
  have BE := Lib.hid (fun W => bears_any ic (markN r 0) W)
  cases t4 : bearsC c (markN r 0) with
  | false =>
    have E := Lib.hid (show readL P.last (sd : Int) = (0, []) by rw [HRD.out]; unfold readS; rw [HF.out, t3, t4]; rfl)
    rw [t4] at BE
    generalize markN r 0 = m0 at *
    go_enter Try.func49, Try.ntmps49
    go_wp2_with fail
    refine CS.out.mono ?_
    rintro e w' ⟨rfl, rfl⟩
    go_wp2_with fail
    refine CM.out.mono ?_
    rintro e w' ⟨rfl, rfl⟩
    go_wp2_with fail
    refine C0.out.mono ?_
    rintro e w' ⟨rfl, rfl⟩
    go_wp2_with fail
    refine G0.out.mono ?_
    rintro e w4 ⟨rfl, b4⟩
    obtain ⟨w5, s5, r5, b5, z5⟩ := local_cell (w := w4) ic
    have b5' := b4.trans (b5.mono b4.size)
    have L5 := ld_block ic.len r5
    have B5 := Lib.hid b5'
    have R5 := Lib.hid r5
    clear b4 b5 r5 z5 b5'
    go_wp2_with fail
    refine (NU.out _).mono ?_
    rintro e w6 ⟨rfl, b6⟩
    have B6 := Lib.hid (B5.out.trans (b6.mono B5.out.size))
    have r6 := R5.out.same (b6.block _ R5.out.lt)
    have LX := fun p => ld_block (w := farOf w6 p) ic.len (far_row r6 p)
    clear b6 r6
    go_wp2_with fail
    refine wp_region_far (by kernel_rfl) (by kernel_rfl) ?_
    repeat (first | go_big_quiet_step ((first | (go_at_call 71; exact calls_far_same (IR.out _)) | (go_at_call 73; exact calls_far_same (MO.out _)) | (go_at_call 72; exact calls_far (BE.out _)))) | quiet_step ((first | (go_at_call 71; exact calls_far_same (IR.out _)) | (go_at_call 73; exact calls_far_same (MO.out _)) | (go_at_call 72; exact calls_far (BE.out _)))))
    refine wpQuiet_nil ?_
    intro _ hw'
    obtain ⟨p, hw''⟩ := hw'
    subst hw''
    go_wp2_with fail
    go_ret2
    rw [E.out]
    exact NB.out _ (B6.out.trans ((far_below w6 p).mono B6.out.size))
  | true =>
    have E := Lib.hid (show readL P.last (sd : Int) = (r, runS r 0 S) by rw [HRD.out]; unfold readS; rw [HF.out, t3, t4]; simp [hr0])
    have HSE := Lib.hid (runS_each r S HSC.out 0)
    rw [t4] at BE
    generalize hm0 : markN r 0 = m0 at *
    clear hm0
    go_enter Try.func49, Try.ntmps49
    go_wp2_with fail
    refine CS.out.mono ?_
    rintro e w' ⟨rfl, rfl⟩
    go_wp2_with fail
    refine CM.out.mono ?_
    rintro e w' ⟨rfl, rfl⟩
    go_wp2_with fail
    refine C0.out.mono ?_
    rintro e w' ⟨rfl, rfl⟩
    go_wp2_with fail
    refine G0.out.mono ?_
    rintro e w4 ⟨rfl, b4⟩
    obtain ⟨w5, s5, r5, b5, z5⟩ := local_cell (w := w4) ic
    have b5' := b4.trans (b5.mono b4.size)
    have L5 := ld_block ic.len r5
    have B5 := Lib.hid b5'
    have R5 := Lib.hid r5
    clear b4 b5 r5 z5 b5'
    go_wp2_with fail
    refine (NU.out _).mono ?_
    rintro e w6 ⟨rfl, b6⟩
    have B6 := Lib.hid (B5.out.trans (b6.mono B5.out.size))
    have r6 := R5.out.same (b6.block _ R5.out.lt)
    have LX := fun p => ld_block (w := farOf w6 p) ic.len (far_row r6 p)
    clear b6 r6
    go_wp2_with fail
    refine wp_region_far (by kernel_rfl) (by kernel_rfl) ?_
    repeat (first | go_big_quiet_step ((first | (go_at_call 71; exact calls_far_same (IR.out _)) | (go_at_call 73; exact calls_far_same (MO.out _)) | (go_at_call 72; exact calls_far (BE.out _)))) | quiet_step ((first | (go_at_call 71; exact calls_far_same (IR.out _)) | (go_at_call 73; exact calls_far_same (MO.out _)) | (go_at_call 72; exact calls_far (BE.out _)))))
    refine wpQuiet_nil ?_
    intro _ hw'
    obtain ⟨p, hw''⟩ := hw'
    subst hw''
    have HB0 := Lib.hid (B6.out.trans ((far_below w6 p).mono B6.out.size))
    have CM2 := Lib.hid (CR.out _ HB0.out)
    clear C0 G0 CM CS NU BE MO s5 L5 LX HF
    generalize farOf w6 p = w7 at *
    go_wp2_with fail
    refine CM2.out.mono ?_
    rintro e w' ⟨rfl, rfl⟩
    go_wp2_with fail
    go_loopw [9, 44] (fun v i wr => ∃ (k : Nat) (ls : List (List Nat)), k ≤ n ∧ i = .int .i64 k ∧ Hid (ls.length = k) ∧ Hid (OwnLL wr w.heap.size v ls) ∧ Hid (ls ++ runS r k (S.drop k) = runS r 0 S) ∧ Hid (Below w.heap.size w wr)) (fun _ i _ => n - (intOf i).toNat)
    case atStart => exact ⟨0, [], Nat.zero_le _, rfl, Lib.hid rfl, Lib.hid (ownLL_nil _ _), Lib.hid (by simp), HB0⟩
    case round =>
      clear HB0
      obtain ⟨k, ls, hk, rfl, HLL, HO, HRR, HB⟩ := hrel
      by_cases hlt : k < n
      · have hSk : k < S.length := by rw [HSL.out]; exact hlt
        have CK := Lib.hid (CC.out _ HB.out k (by omega))
        have hg := CG.out _ HB.out ((sd * n + k : Nat) : Int)
        rw [(HSG.out k hlt).1, (HSG.out k hlt).2] at hg
        have jc := HSC.out _ (List.getElem_mem hSk)
        have HD := Lib.hid (runS_drop r hSk)
        generalize S[k] = d at *
        have GK := Lib.hid hg
        have MK := Lib.hid (fun W => markOf_any r k hrm (by omega) W)
        have BK := Lib.hid (fun W => bears_any jc (markN r k) W)
        generalize markN r k = mk at *
        generalize sd * n + k = qk at *
        clear hg
        cases t5 : bearsC d mk with
        | false =>
          rw [t5] at BK HD
          have HE := Lib.hid (show ls = runS r 0 S by rw [← HRR.out, HD.out]; simp)
          have hO := HO.out
          rw [HE.out] at hO
          obtain ⟨av, cv, rfl, hL⟩ := hO.lists (by have := runS_len r S 0; rw [HSL.out] at this; omega)
          have HL := Lib.hid hL
          clear hO hL HO
          go_wp2_with fail
          refine CK.out.mono ?_
          rintro e w' ⟨rfl, rfl⟩
          go_wp2_with fail
          refine GK.out.mono ?_
          rintro e w8 ⟨rfl, b8⟩
          obtain ⟨w9, s9, r9, b9, z9⟩ := local_cell (w := w8) jc
          have b9' := b8.trans (b9.mono b8.size)
          have B9 := Lib.hid b9'
          have LX := fun p => ld_block (w := farOf w9 p) jc.len (far_row r9 p)
          clear b8 b9 r9 z9 b9'
          go_wp2_with fail
          refine wp_region_far (by kernel_rfl) (by kernel_rfl) ?_
          repeat (first | go_big_quiet_step ((first | (go_at_call 73; exact calls_far_same (MK.out _)) | (go_at_call 72; exact calls_far (BK.out _)))) | quiet_step ((first | (go_at_call 73; exact calls_far_same (MK.out _)) | (go_at_call 72; exact calls_far (BK.out _)))))
          refine wpQuiet_nil ?_
          intro _ hw'
          obtain ⟨p9, hw''⟩ := hw'
          subst hw''
          go_wp2_with fail
          go_ret2
          rw [E.out]
          have bb := B9.out.trans ((far_below w9 p9).mono B9.out.size)
          exact ⟨av, cv, rfl, HL.out.below bb, HB.out.trans (bb.mono HB.out.size)⟩
        | true =>
          rw [t5] at BK HD
          go_wp2_with fail
          refine CK.out.mono ?_
          rintro e w' ⟨rfl, rfl⟩
          go_wp2_with fail
          refine GK.out.mono ?_
          rintro e w8 ⟨rfl, b8⟩
          obtain ⟨w9, s9, r9, b9, z9⟩ := local_cell (w := w8) jc
          have b9' := b8.trans (b9.mono b8.size)
          have B9 := Lib.hid b9'
          have R9 := Lib.hid r9
          have LX := fun p => ld_block (w := farOf w9 p) jc.len (far_row r9 p)
          clear b8 b9 r9 z9 b9'
          go_wp2_with fail
          refine wp_region_far (by kernel_rfl) (by kernel_rfl) ?_
          repeat (first | go_big_quiet_step ((first | (go_at_call 73; exact calls_far_same (MK.out _)) | (go_at_call 72; exact calls_far (BK.out _)))) | quiet_step ((first | (go_at_call 73; exact calls_far_same (MK.out _)) | (go_at_call 72; exact calls_far (BK.out _)))))
          refine wpQuiet_nil ?_
          intro _ hw'
          obtain ⟨p9, hw''⟩ := hw'
          subst hw''
          have HBA := Lib.hid (B9.out.trans ((far_below w9 p9).mono B9.out.size))
          have RA := Lib.hid (far_row R9.out p9)
          generalize farOf w9 p9 = wA at *
          have hil := innerC_len jc
          have CL := Lib.hid (show Calls Try.prog 74 #[.slice (some ⟨w8.heap.size, 8, none⟩) 48 56] wA (OwnPost (innerC d) wA) by
            have := clone_any (some ⟨w8.heap.size, 8, none⟩) 56 (innerC d) wA (inner_bytes jc RA.out) (by omega)
            rw [hil] at this
            exact this)
          clear LX s9
          go_wp2_with fail
          refine CL.out.mono ?_
          rintro e wB ⟨vB, rfl, oB, bB⟩
          obtain ⟨bb, cb, rfl, hb1, hb2, hb3⟩ := own_some_bytes oB (innerC_bytes jc) (by intro e; rw [e] at hil; simp at hil)
          have bw := HBA.out.trans (bB.mono HBA.out.size)
          have hne : u9.ownBlock ≠ some bb := fun e => by
            obtain ⟨vs, _, ho, _⟩ := HO.out
            have h1 := (ho.lt bb e).2
            have h2 := HBA.out.size
            omega
          have hBw := HB.out.trans (bw.mono HB.out.size)
          obtain ⟨a', n', c', wC, hap, hoC, hbC⟩ := (HO.out.below bw).push hBw.size hb3 hne hb2 (by rw [HLL.out]; omega) 25
          have HOC := Lib.hid hoC
          have HBC := Lib.hid (hBw.trans hbC)
          have HLC := Lib.hid (show (ls ++ [innerC d]).length = k + 1 by rw [List.length_append, HLL.out]; rfl)
          have HRC := Lib.hid (show (ls ++ [innerC d]) ++ runS r (k + 1) (S.drop (k + 1)) = runS r 0 S by rw [← HRR.out, HD.out]; simp)
          rw [hil] at hap
          rw [hil]
          generalize ls ++ [innerC d] = ls2 at *
          clear oB bB hb1 hb2 hb3 bw hne hBw hoC hbC hil HD HRR HLL HO HB
          go_wp2_with fail
          go_roundw
          case rel => exact ⟨k + 1, ls2, by omega, by go_num, HLC, HOC, HRC, HBC⟩
          case measure => simp [intOf]; omega
      · have HE := Lib.hid (show ls = runS r 0 S by rw [← HRR.out, List.drop_eq_nil_of_le (by rw [HSL.out]; omega)]; simp [runS])
        have hO := HO.out
        rw [HE.out] at hO
        obtain ⟨av, cv, rfl, hL⟩ := hO.lists (by have := runS_len r S 0; rw [HSL.out] at this; omega)
        have HL := Lib.hid hL
        clear hO hL HO
        go_wp2_with fail
        go_ret2
        rw [E.out]
        exact ⟨av, cv, rfl, HL.out, HB.out⟩
end

end Go.Proofs.Ytipikkniookanaa
