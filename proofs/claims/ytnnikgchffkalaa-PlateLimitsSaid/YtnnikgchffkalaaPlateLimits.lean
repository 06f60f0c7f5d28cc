/- PlateLimits: the law returns true for any two numbers: with so many writes left just so many are done; then there is no power, till it fails, and comes again; what is read stays. It has no conditions. -/
import Derived.Test.YtnnikgchffkalaaArgs
namespace Go.Proofs.Ytnnikgchffkalaa
open Go.ChangeShapes Go.WideShapes Go.ChangeAt Go.RowKit

attribute [local go_sem ↓] ld26 ld66 st26 st66 bx26 al26 al66 bd26 bd66 bs61 bs48 mk48 eq26 ap61 ap48 ap49 cp46 cp48
attribute [local go_sem] bx_agg al_cell al_wr bd_zero bd_one bd_two bd_nine

/-- A cell in a local variable. -/
theorem local_cell {w : World} {c : List Nat} (hc : IsCell c) : ∃ w', StR 26 (.pointer (some ⟨w.heap.size, 0, none⟩)) (.agg (arr c)) (w.alloc (.cells (arr zeroC) 26)) = .ok .skip w' ∧ RowAt w' w.heap.size 26 (c.map bv) ∧ Below w.heap.size w w' ∧ w'.heap.size = w.heap.size + 1 := by
  obtain ⟨w', h1, h2, h3⟩ := st_block zeroC_len hc.len (cell_block w zeroC)
  exact ⟨w', h1, h2, ((Below.refl w.heap.size w).alloc (Nat.le_refl _) _).trans (h3.below (Nat.le_refl _)), h3.size.trans (by simp)⟩

theorem put_left {P : Pl} {i : Int} {c : List Nat} (hi : P.has i = true) (ho : P.off = false) (hl : 0 < P.left) : (P.put i c).1 = 0 ∧ (P.put i c).2.sure = P.sure ∧ (P.put i c).2.loose.length = P.loose.length + 1 ∧ (P.put i c).2.left = P.left - 1 ∧ (P.put i c).2.off = false := by
  have h0 : (P.left == 0) = false := by simp; omega
  simp [Pl.put, hi, Pl.spend, ho, h0, hl]
theorem put_none {P : Pl} {i : Int} {c : List Nat} (hi : P.has i = true) (hl : P.left = 0) : (P.put i c).1 = 72 ∧ (P.put i c).2.sure = P.sure ∧ (P.put i c).2.loose = P.loose ∧ (P.put i c).2.left = 0 ∧ (P.put i c).2.off = true := by
  simp [Pl.put, hi, Pl.spend, hl]
theorem flush_off {P : Pl} (ho : P.off = true) : P.flush = (72, P) := by
  cases P
  simp only at ho
  subst ho
  simp [Pl.flush, Pl.spend]

/-- Behind k tries of writes. -/
structure Tried (P : Pl) (n k : Nat) : Prop where
  size : P.sure.length = 8
  some : k ≤ n → P.loose.length = k ∧ P.left = ((n - k : Nat) : Int) ∧ P.off = false
  all : n < k → P.loose.length = n ∧ P.off = true

theorem Tried.step {P : Pl} {n k : Nat} (h : Tried P n k) (hk : k ≤ n) {i : Int} {c : List Nat} (hi : P.has i = true) : Tried (P.put i c).2 n (k + 1) ∧ (P.put i c).1 = if k < n then 0 else 72 := by
  obtain ⟨h1, h2, h3⟩ := h.some hk
  by_cases hlt : k < n
  · obtain ⟨e1, e2, e3, e4, e5⟩ := put_left (c := c) hi h3 (by omega)
    exact ⟨⟨by rw [e2, h.size], fun _ => ⟨by omega, by rw [e4, h2]; omega, e5⟩, fun h => by omega⟩, by rw [e1, if_pos hlt]⟩
  · obtain ⟨e1, e2, e3, e4, e5⟩ := put_none (c := c) hi (show P.left = 0 by omega)
    exact ⟨⟨by rw [e2, h.size], fun h => by omega, fun _ => ⟨by rw [e3]; omega, e5⟩⟩, by rw [e1, if_neg hlt]⟩

theorem get_cell {P : Pl} (h : P.Good) (i : Int) : IsCell (P.get i) := by
  unfold Pl.get
  cases hh : P.has i with
  | false => exact zeroC_is
  | true =>
    simp only [Pl.has, Bool.and_eq_true, decide_eq_true_eq] at hh
    exact getD_cell h.cl (by rw [h.size]; omega)

theorem put_fresh {P : Pl} {c : List Nat} (hs : P.sure.length = 8) (hl : P.left = -1) (ho : P.off = false) : (P.put 0 c).1 = 0 ∧ (P.put 0 c).2.left = -1 ∧ (P.put 0 c).2.off = false := by
  simp [Pl.put, Pl.has, hs, Pl.spend, hl, ho]
theorem flush_fresh {P : Pl} (hl : P.left = -1) (ho : P.off = false) : P.flush.1 = 0 := by
  simp [Pl.flush, Pl.spend, hl, ho]

set_option maxRecDepth 100000 in
set_option maxHeartbeats 16000000 in
theorem limits_walk (n at_ : Int) (w : World) : Calls Try.prog 6 #[.int .i64 n, .int .i64 at_] w (TrueB w) := by
  cases t0 : decide (n < 0) with
  | true =>
    go_enter Try.func6, Try.ntmps6
    go_wp2_with fail
    refine (alive_any _).mono ?_
    rintro e w1 ⟨rfl, b1⟩
    go_wp2_with fail
    go_ret
    exact ⟨rfl, b1⟩
  | false =>
  cases t1 : decide (200 < n) with
  | true =>
    go_enter Try.func6, Try.ntmps6
    go_wp2_with fail
    refine (alive_any _).mono ?_
    rintro e w1 ⟨rfl, b1⟩
    go_wp2_with fail
    go_ret
    exact ⟨rfl, b1⟩
  | false =>
  obtain ⟨n, rfl⟩ := Int.eq_ofNat_of_zero_le (show 0 ≤ n by simp at t0; omega)
  have hn : n ≤ 200 := by simp at t1; omega
  go_enter Try.func6, Try.ntmps6
  go_wp2_with fail
  refine (alive_any _).mono ?_
  rintro e w1 ⟨rfl, b1⟩
  have N := Lib.hid (show Calls Try.prog 9 #[.int .i64 8] w1 (fun e w' => ∃ g, e = .returned (ptr g) ∧ Mine w w' g (Pl.new 8)) from Mine.new 8 b1)
  clear b1
  go_wp2_with fail
  refine N.out.mono ?_
  rintro e w2 ⟨g, rfl, h2⟩
  have C1 := Lib.hid (h2.limit (n : Int) (by omega))
  have T0 : Tried ((Pl.new 8).limit (n : Int)) n 0 := ⟨rfl, fun _ => ⟨rfl, by show (if (n : Int) < -1 then (-1 : Int) else (n : Int)) = _; rw [if_neg (by omega)]; rfl, rfl⟩, fun h => by omega⟩
  generalize (Pl.new 8).limit (n : Int) = Q0 at *
  clear h2 N
  go_wp2_with fail
  refine C1.out.mono ?_
  rintro e w3 ⟨rfl, h3⟩
  have H3 := Lib.hid h3
  have T0 := Lib.hid T0
  clear h3 C1
  go_wp2_with fail
  go_loopw [6, 7] (fun d i wr => ∃ (k : Nat) (P : Pl), k ≤ n + 1 ∧ i = .int .i64 k ∧ d = .int .i64 ((min k n : Nat) : Int) ∧ Hid (Tried P n k) ∧ Hid (Mine w wr g P)) (fun _ i _ => n + 1 - (intOf i).toNat)
  case atStart => exact ⟨0, Q0, Nat.zero_le _, rfl, by simp, T0, H3⟩
  case round =>
    clear H3 T0
    obtain ⟨k, P, hk, rfl, rfl, HT, HM⟩ := hrel
    by_cases hlt : k ≤ n
    · obtain ⟨r, hr, HR⟩ : ∃ r : Nat, (k : Int) % 8 = (r : Int) ∧ Hid (r < 8) := ⟨k % 8, by omega, Lib.hid (by omega)⟩
      have hwz : IntKind.u8.wrap (k : Int) = (k : Int) := by rw [IntKind.wrap_u8']; omega
      have CC := Lib.hid (fun W => cell_any k (by omega) W)
      have ic := cellV_is (v := k) (by omega)
      generalize cellV k = c at *
      have hi : P.has (r : Int) = true := by have := HT.out.size; have := HR.out; simp [Pl.has]; omega
      obtain ⟨T2, e2⟩ := HT.out.step hlt (c := c) hi
      have hl : P.loose.length < 100000 := by have := (HT.out.some hlt).1; omega
      have CP := Lib.hid (fun W (b : Below wr.heap.size wr W) => (HM.out.below b).put (r : Int) ic hl)
      rw [e2] at CP
      have T2 := Lib.hid T2
      generalize (P.put (r : Int) c).2 = P2 at *
      clear hi e2 hl HR HT HM
      by_cases hlt2 : k < n
      · rw [if_pos hlt2] at CP
        have hm : min k n = k := by omega
        rw [hm]
        clear hm
        go_wp2_with fail
        refine (CC.out _).mono ?_
        rintro e w4 ⟨rfl, b4⟩
        have CP2 := Lib.hid (CP.out _ b4)
        clear b4
        go_wp2_with fail
        refine CP2.out.mono ?_
        rintro e w5 ⟨rfl, h5⟩
        have H5 := Lib.hid h5
        clear h5 CP2
        go_wp2_with fail
        go_roundw
        case rel => exact ⟨k + 1, P2, by omega, by go_num, by rw [show min (k + 1) n = k + 1 by omega]; go_num, T2, H5⟩
        case measure => simp [intOf]; omega
      · rw [if_neg hlt2] at CP
        have hm : min k n = n := by omega
        rw [hm]
        clear hm
        go_wp2_with fail
        refine (CC.out _).mono ?_
        rintro e w4 ⟨rfl, b4⟩
        have CP2 := Lib.hid (CP.out _ b4)
        clear b4
        go_wp2_with fail
        refine CP2.out.mono ?_
        rintro e w5 ⟨rfl, h5⟩
        have H5 := Lib.hid h5
        clear h5 CP2
        go_wp2_with fail
        go_roundw
        case rel => exact ⟨k + 1, P2, by omega, by go_num, by rw [show min (k + 1) n = n by omega], T2, H5⟩
        case measure => simp [intOf]; omega
    · have hm : min k n = n := by omega
      rw [hm]
      have ht := HT.out.all (by omega)
      have HS := Lib.hid HT.out.size
      obtain ⟨R, ⟨bs, bl, lv, hp⟩, hR, hb⟩ := HM.out
      have HG := Lib.hid (get_any hp at_)
      have ig := get_cell hp.good at_
      have HI := Lib.hid ig
      have hge : P.getE at_ = if P.has at_ then 0 else 71 := rfl
      have hhas : P.has at_ = (decide (0 ≤ at_) && decide (at_ < 8)) := by unfold Pl.has; rw [HS.out]; rfl
      have HOFF := Lib.hid ht
      have HP := Lib.hid hp
      have HRR := Lib.hid hR
      have HBB := Lib.hid hb
      generalize hcc : P.get at_ = c at HG HI
      generalize hee : P.getE at_ = ee at HG hge
      have HC := Lib.hid hcc
      have HEE := Lib.hid hee
      clear hcc hee hm HT HM ht hp hR hb ig
      cases t8 : decide (0 ≤ at_) with
      | false =>
        have tE : (ee == 0) = false := by rw [hge, hhas, t8]; rfl
        clear hge hhas
        go_wp2_with fail
        refine HG.out.mono ?_
        rintro e w6 ⟨rfl, b6⟩
        obtain ⟨w7, s7, r7, b7, z7⟩ := local_cell (w := w6) HI.out
        have hp7 := (HP.out.below b6).below b7
        have hb7 := (HBB.out.trans (b6.mono HBB.out.size)).trans (b7.mono (Nat.le_trans HBB.out.size b6.size))
        have NR := Lib.hid (show ¬ R w6.heap.size from fun h => by have := HP.out.dom _ h; have := b6.size; omega)
        have COFF := Lib.hid (off_any hp7)
        have CFL := Lib.hid (flush_any hp7)
        rw [HOFF.out.2] at COFF
        rw [flush_off HOFF.out.2] at CFL
        have R7 := Lib.hid r7
        have B7 := Lib.hid hb7
        clear b6 b7 hp7 r7 hb7 z7 HG
        go_wp2_with fail
        refine COFF.out.mono ?_
        rintro e w' ⟨rfl, rfl⟩
        go_wp2_with fail
        refine CFL.out.mono ?_
        rintro e w8 ⟨rfl, hp8, k8⟩
        have R8 := Lib.hid (R7.out.same (k8.block _ R7.out.lt NR.out))
        have M8 := Lib.hid (Mine.of HRR.out B7.out hp8 k8)
        have CLO := Lib.hid M8.out.loose
        rw [HOFF.out.1] at CLO
        have CG := Lib.hid (M8.out.get at_)
        rw [HC.out, HEE.out] at CG
        clear COFF CFL hp8 k8 R7 B7 NR
        go_wp2_with fail
        refine CLO.out.mono ?_
        rintro e w' ⟨rfl, rfl⟩
        go_wp2_with fail
        refine CG.out.mono ?_
        rintro e w9 ⟨rfl, b9⟩
        obtain ⟨w10, s10, r10, b10, z10⟩ := local_cell (w := w9) HI.out
        have r8' := (R8.out.same (b9.block _ R8.out.lt))
        have L1 := ld_block HI.out.len (r8'.same (b10.block _ r8'.lt))
        have L2 := ld_block HI.out.len r10
        have NE := fun a b => ne_cell w10 HI.out HI.out a b
        have M10 := Lib.hid ((M8.out.below b9).below b10)
        have F1 := Lib.hid (M10.out.failNil (-1) 0)
        have S1 := Lib.hid (show (P.fail [] (-1) 0).sure.length = 8 by show (failL _ _ _ _ _ _).length = 8; rw [failL_len]; exact HS.out)
        generalize P.fail [] (-1) 0 = Q1 at *
        clear CLO CG b9 r10 b10 z10 r8' R8 M8
        go_wp2_with fail
        refine F1.out.mono ?_
        rintro e w11 ⟨rfl, h11⟩
        have F2 := Lib.hid (h11.failNil (-1) 0)
        have S2 := Lib.hid (show (Q1.fail [] (-1) 0).sure.length = 8 by show (failL _ _ _ _ _ _).length = 8; rw [failL_len]; exact S1.out)
        have S3 := Lib.hid (show (Q1.fail [] (-1) 0).left = -1 ∧ (Q1.fail [] (-1) 0).off = false ∧ (Q1.fail [] (-1) 0).loose.length < 100000 from ⟨rfl, rfl, by simp [Pl.fail]⟩)
        generalize Q1.fail [] (-1) 0 = Q2 at *
        clear h11 F1 S1 M10 L1 L2 NE
        go_wp2_with fail
        refine F2.out.mono ?_
        rintro e w12 ⟨rfl, h12⟩
        have O12 := Lib.hid h12.off
        rw [S3.out.2.1] at O12
        have H12 := Lib.hid h12
        have CC1 := Lib.hid (show Calls Try.prog 17 #[.int .u8 1] w12 (CellPost (cellV 1) w12) from cell_any 1 (by omega) w12)
        have i1 := cellV_is (v := 1) (by omega)
        generalize cellV 1 = c1 at *
        obtain ⟨p1, p2, p3⟩ := put_fresh (c := c1) S2.out S3.out.1 S3.out.2.1
        have CP1 := Lib.hid (fun W (b : Below w12.heap.size w12 W) => (H12.out.below b).put 0 i1 S3.out.2.2)
        rw [p1] at CP1
        have FF := Lib.hid (flush_fresh p2 p3)
        generalize (Q2.put 0 c1).2 = Q3 at *
        clear h12 F2 p1 p2 p3
        go_wp2_with fail
        refine O12.out.mono ?_
        rintro e w' ⟨rfl, rfl⟩
        go_wp2_with fail
        refine CC1.out.mono ?_
        rintro e w13 ⟨rfl, b13⟩
        have CP2 := Lib.hid (CP1.out _ b13)
        clear b13 CP1 CC1 O12
        go_wp2_with fail
        refine CP2.out.mono ?_
        rintro e w14 ⟨rfl, h14⟩
        have CF := Lib.hid h14.flush
        rw [FF.out] at CF
        clear h14 CP2
        go_wp2_with fail
        refine CF.out.mono ?_
        rintro e w15 ⟨rfl, h15⟩
        have B15 := Lib.hid h15.low
        clear h15 CF
        go_wp2_with fail
        go_ret
        exact ⟨rfl, B15.out⟩
      | true =>
        cases t9 : decide (at_ < 8) with
        | false =>
          have tE : (ee == 0) = false := by rw [hge, hhas, t8, t9]; rfl
          clear hge hhas
          go_wp2_with fail
          refine HG.out.mono ?_
          rintro e w6 ⟨rfl, b6⟩
          obtain ⟨w7, s7, r7, b7, z7⟩ := local_cell (w := w6) HI.out
          have hp7 := (HP.out.below b6).below b7
          have hb7 := (HBB.out.trans (b6.mono HBB.out.size)).trans (b7.mono (Nat.le_trans HBB.out.size b6.size))
          have NR := Lib.hid (show ¬ R w6.heap.size from fun h => by have := HP.out.dom _ h; have := b6.size; omega)
          have COFF := Lib.hid (off_any hp7)
          have CFL := Lib.hid (flush_any hp7)
          rw [HOFF.out.2] at COFF
          rw [flush_off HOFF.out.2] at CFL
          have R7 := Lib.hid r7
          have B7 := Lib.hid hb7
          clear b6 b7 hp7 r7 hb7 z7 HG
          go_wp2_with fail
          refine COFF.out.mono ?_
          rintro e w' ⟨rfl, rfl⟩
          go_wp2_with fail
          refine CFL.out.mono ?_
          rintro e w8 ⟨rfl, hp8, k8⟩
          have R8 := Lib.hid (R7.out.same (k8.block _ R7.out.lt NR.out))
          have M8 := Lib.hid (Mine.of HRR.out B7.out hp8 k8)
          have CLO := Lib.hid M8.out.loose
          rw [HOFF.out.1] at CLO
          have CG := Lib.hid (M8.out.get at_)
          rw [HC.out, HEE.out] at CG
          clear COFF CFL hp8 k8 R7 B7 NR
          go_wp2_with fail
          refine CLO.out.mono ?_
          rintro e w' ⟨rfl, rfl⟩
          go_wp2_with fail
          refine CG.out.mono ?_
          rintro e w9 ⟨rfl, b9⟩
          obtain ⟨w10, s10, r10, b10, z10⟩ := local_cell (w := w9) HI.out
          have r8' := (R8.out.same (b9.block _ R8.out.lt))
          have L1 := ld_block HI.out.len (r8'.same (b10.block _ r8'.lt))
          have L2 := ld_block HI.out.len r10
          have NE := fun a b => ne_cell w10 HI.out HI.out a b
          have M10 := Lib.hid ((M8.out.below b9).below b10)
          have F1 := Lib.hid (M10.out.failNil (-1) 0)
          have S1 := Lib.hid (show (P.fail [] (-1) 0).sure.length = 8 by show (failL _ _ _ _ _ _).length = 8; rw [failL_len]; exact HS.out)
          generalize P.fail [] (-1) 0 = Q1 at *
          clear CLO CG b9 r10 b10 z10 r8' R8 M8
          go_wp2_with fail
          refine F1.out.mono ?_
          rintro e w11 ⟨rfl, h11⟩
          have F2 := Lib.hid (h11.failNil (-1) 0)
          have S2 := Lib.hid (show (Q1.fail [] (-1) 0).sure.length = 8 by show (failL _ _ _ _ _ _).length = 8; rw [failL_len]; exact S1.out)
          have S3 := Lib.hid (show (Q1.fail [] (-1) 0).left = -1 ∧ (Q1.fail [] (-1) 0).off = false ∧ (Q1.fail [] (-1) 0).loose.length < 100000 from ⟨rfl, rfl, by simp [Pl.fail]⟩)
          generalize Q1.fail [] (-1) 0 = Q2 at *
          clear h11 F1 S1 M10 L1 L2 NE
          go_wp2_with fail
          refine F2.out.mono ?_
          rintro e w12 ⟨rfl, h12⟩
          have O12 := Lib.hid h12.off
          rw [S3.out.2.1] at O12
          have H12 := Lib.hid h12
          have CC1 := Lib.hid (show Calls Try.prog 17 #[.int .u8 1] w12 (CellPost (cellV 1) w12) from cell_any 1 (by omega) w12)
          have i1 := cellV_is (v := 1) (by omega)
          generalize cellV 1 = c1 at *
          obtain ⟨p1, p2, p3⟩ := put_fresh (c := c1) S2.out S3.out.1 S3.out.2.1
          have CP1 := Lib.hid (fun W (b : Below w12.heap.size w12 W) => (H12.out.below b).put 0 i1 S3.out.2.2)
          rw [p1] at CP1
          have FF := Lib.hid (flush_fresh p2 p3)
          generalize (Q2.put 0 c1).2 = Q3 at *
          clear h12 F2 p1 p2 p3
          go_wp2_with fail
          refine O12.out.mono ?_
          rintro e w' ⟨rfl, rfl⟩
          go_wp2_with fail
          refine CC1.out.mono ?_
          rintro e w13 ⟨rfl, b13⟩
          have CP2 := Lib.hid (CP1.out _ b13)
          clear b13 CP1 CC1 O12
          go_wp2_with fail
          refine CP2.out.mono ?_
          rintro e w14 ⟨rfl, h14⟩
          have CF := Lib.hid h14.flush
          rw [FF.out] at CF
          clear h14 CP2
          go_wp2_with fail
          refine CF.out.mono ?_
          rintro e w15 ⟨rfl, h15⟩
          have B15 := Lib.hid h15.low
          clear h15 CF
          go_wp2_with fail
          go_ret
          exact ⟨rfl, B15.out⟩
        | true =>
          have tE : (ee == 0) = true := by rw [hge, hhas, t8, t9]; rfl
          clear hge hhas
          go_wp2_with fail
          refine HG.out.mono ?_
          rintro e w6 ⟨rfl, b6⟩
          obtain ⟨w7, s7, r7, b7, z7⟩ := local_cell (w := w6) HI.out
          have hp7 := (HP.out.below b6).below b7
          have hb7 := (HBB.out.trans (b6.mono HBB.out.size)).trans (b7.mono (Nat.le_trans HBB.out.size b6.size))
          have NR := Lib.hid (show ¬ R w6.heap.size from fun h => by have := HP.out.dom _ h; have := b6.size; omega)
          have COFF := Lib.hid (off_any hp7)
          have CFL := Lib.hid (flush_any hp7)
          rw [HOFF.out.2] at COFF
          rw [flush_off HOFF.out.2] at CFL
          have R7 := Lib.hid r7
          have B7 := Lib.hid hb7
          clear b6 b7 hp7 r7 hb7 z7 HG
          go_wp2_with fail
          refine COFF.out.mono ?_
          rintro e w' ⟨rfl, rfl⟩
          go_wp2_with fail
          refine CFL.out.mono ?_
          rintro e w8 ⟨rfl, hp8, k8⟩
          have R8 := Lib.hid (R7.out.same (k8.block _ R7.out.lt NR.out))
          have M8 := Lib.hid (Mine.of HRR.out B7.out hp8 k8)
          have CLO := Lib.hid M8.out.loose
          rw [HOFF.out.1] at CLO
          have CG := Lib.hid (M8.out.get at_)
          rw [HC.out, HEE.out] at CG
          clear COFF CFL hp8 k8 R7 B7 NR
          go_wp2_with fail
          refine CLO.out.mono ?_
          rintro e w' ⟨rfl, rfl⟩
          go_wp2_with fail
          refine CG.out.mono ?_
          rintro e w9 ⟨rfl, b9⟩
          obtain ⟨w10, s10, r10, b10, z10⟩ := local_cell (w := w9) HI.out
          have r8' := (R8.out.same (b9.block _ R8.out.lt))
          have L1 := ld_block HI.out.len (r8'.same (b10.block _ r8'.lt))
          have L2 := ld_block HI.out.len r10
          have NE := fun a b => ne_cell w10 HI.out HI.out a b
          have M10 := Lib.hid ((M8.out.below b9).below b10)
          have F1 := Lib.hid (M10.out.failNil (-1) 0)
          have S1 := Lib.hid (show (P.fail [] (-1) 0).sure.length = 8 by show (failL _ _ _ _ _ _).length = 8; rw [failL_len]; exact HS.out)
          generalize P.fail [] (-1) 0 = Q1 at *
          clear CLO CG b9 r10 b10 z10 r8' R8 M8
          go_wp2_with fail
          refine F1.out.mono ?_
          rintro e w11 ⟨rfl, h11⟩
          have F2 := Lib.hid (h11.failNil (-1) 0)
          have S2 := Lib.hid (show (Q1.fail [] (-1) 0).sure.length = 8 by show (failL _ _ _ _ _ _).length = 8; rw [failL_len]; exact S1.out)
          have S3 := Lib.hid (show (Q1.fail [] (-1) 0).left = -1 ∧ (Q1.fail [] (-1) 0).off = false ∧ (Q1.fail [] (-1) 0).loose.length < 100000 from ⟨rfl, rfl, by simp [Pl.fail]⟩)
          generalize Q1.fail [] (-1) 0 = Q2 at *
          clear h11 F1 S1 M10 L1 L2 NE
          go_wp2_with fail
          refine F2.out.mono ?_
          rintro e w12 ⟨rfl, h12⟩
          have O12 := Lib.hid h12.off
          rw [S3.out.2.1] at O12
          have H12 := Lib.hid h12
          have CC1 := Lib.hid (show Calls Try.prog 17 #[.int .u8 1] w12 (CellPost (cellV 1) w12) from cell_any 1 (by omega) w12)
          have i1 := cellV_is (v := 1) (by omega)
          generalize cellV 1 = c1 at *
          obtain ⟨p1, p2, p3⟩ := put_fresh (c := c1) S2.out S3.out.1 S3.out.2.1
          have CP1 := Lib.hid (fun W (b : Below w12.heap.size w12 W) => (H12.out.below b).put 0 i1 S3.out.2.2)
          rw [p1] at CP1
          have FF := Lib.hid (flush_fresh p2 p3)
          generalize (Q2.put 0 c1).2 = Q3 at *
          clear h12 F2 p1 p2 p3
          go_wp2_with fail
          refine O12.out.mono ?_
          rintro e w' ⟨rfl, rfl⟩
          go_wp2_with fail
          refine CC1.out.mono ?_
          rintro e w13 ⟨rfl, b13⟩
          have CP2 := Lib.hid (CP1.out _ b13)
          clear b13 CP1 CC1 O12
          go_wp2_with fail
          refine CP2.out.mono ?_
          rintro e w14 ⟨rfl, h14⟩
          have CF := Lib.hid h14.flush
          rw [FF.out] at CF
          clear h14 CP2
          go_wp2_with fail
          refine CF.out.mono ?_
          rintro e w15 ⟨rfl, h15⟩
          have B15 := Lib.hid h15.low
          clear h15 CF
          go_wp2_with fail
          go_ret
          exact ⟨rfl, B15.out⟩


set_option maxRecDepth 100000 in
theorem plateLimits_lifted (os : Os) (started : os.Started) (H : Type) (enc : TypeId × Value → H) :
    ReturnsInHanded {} Try.checked os 6 .any (Rows.plateLimitsSpec.pre6 enc Try.prog Try.f6 Rows.plateLimitsRow.domain false) (Rows.plateLimitsSpec.post enc Try.prog Try.f6 false true false false) := by
  refine returnsInHanded_of_change (C := Try.checked) own started (by kernel_rfl) Try.func6
    (ChangeSpec.witness6 (enc := enc) (C := Try.checked) false ⟨#[], #[.int .i64 0, .int .i64 0], []⟩ 8 (by kernel_rfl) (by kernel_rfl) (by kernel_rfl) (by kernel_rfl)) ?_
  intro W base args ds gs before hval0 hW _ _
  have hval : ∀ (j : Nat) t v, Try.f6.params[j]? = some t → args[j]? = some v → Value.okWide Try.prog W .any base t v := hval0
  have hW' := hW
  obtain ⟨p, q, hA0, hV, rfl, _, _⟩ := hW
  have hA : DataW.TrodAll enc Try.prog W 0 (fun _ => true) true Try.f6.params.toList args.toList ds p := hA0
  rw [Try.params6] at hA hval
  obtain ⟨v0, vs0, d0, ds0, p0, q_0, hargs, rfl, rfl, h0, r0⟩ := trodAll_cons hA
  obtain ⟨v1, vs1, d1, ds1, p1, q_1, rfl, rfl, rfl, h1, r1⟩ := trodAll_cons r0
  obtain ⟨rfl, rfl, rfl⟩ := trodAll_nil r1
  obtain rfl : args = #[v0, v1] := by cases args; simp_all
  obtain ⟨rfl, rfl⟩ := trodVars_none hV
  clear hA0 hval0
  simp only [List.append_nil] at hW'
  obtain ⟨a0, rfl, rfl, rfl, w0⟩ := open_int Try.underlying3 (hval 0 3 v0 rfl rfl) h0
  obtain ⟨a1, rfl, rfl, rfl, w1⟩ := open_int Try.underlying3 (hval 1 3 v1 rfl rfl) h1
  refine (limits_walk a0 a1 W).mono fun e W' ⟨he, hb⟩ => ?_
  subst he
  exact ⟨_, rfl, _, _, _, [], [], [], hW', trodAll_mk1 (shut_bool Try.underlying4 _), (trodAll_cons_mk (shut_int Try.underlying3 w0) (trodAll_cons_mk (shut_int Try.underlying3 w1) trodAll_mk0)), rfl, hb.frame _, fun h => by cases h⟩

theorem plateLimits_holds : Rows.PlateLimitsSaid :=
  OpenClaim.holds_of_wide 6 Try.f6 rfl rfl rfl rfl rfl rfl rfl ⟨rfl, rfl, rfl, rfl, rfl⟩ rfl rfl rfl rfl rfl (by kernel_rfl) Try.func6 (by kernel_rfl)
    (of_decide_eq_true (by kernel_rfl)) (by unfold Func.isWrapper; first | (rw [if_pos (by decide +kernel)]; kernel_rfl) | (rw [if_neg (by decide +kernel)]; exact ⟨rfl, rfl⟩))
    (fun os started H enc _ => plateLimits_lifted os started H enc)
#print axioms plateLimits_holds


end Go.Proofs.Ytnnikgchffkalaa
