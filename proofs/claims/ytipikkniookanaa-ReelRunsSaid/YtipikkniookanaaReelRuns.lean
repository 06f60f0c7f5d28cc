/- ReelRuns: the law returns true for any number of cells and any list of acts: whatever is told, lost and opened, the reel answers as the document's does, and the same tale and words stand there. It has no conditions. -/
import Derived.Test.YtipikkniookanaaMgSim
import Derived.Test.YtipikkniookanaaMgArgs
import Derived.Deep.DeepCutAuto
import Derived.Deep.CutBlock
namespace Go.Proofs.Ytipikkniookanaa
open Go.ChangeShapes Go.WideShapes Go.ChangeAt Go.RowKit

attribute [local go_sem ↓] ld26 ld66 st26 st66 bx26 al26 al66 bd26 bd66 bs61 bs48 mk48 eq26 ap61 ap48 ap49 cp46 cp48 apSS
attribute [local go_sem] bx_agg al_cell al_wr bd_zero bd_one bd_two bd_nine

set_option maxRecDepth 100000 in
set_option maxHeartbeats 32000000 in
theorem runs_walk (cells : Int) (a : Option Addr) (cap : Nat) (l : List Ac) (w : World) (h1 : ActsP w a cap l) : Calls Try.prog 4 #[.int .i64 cells, .slice a l.length cap] w (TrueB w) := by
  have H1 := Lib.hid h1
  have hll := h1.len
  clear h1
  cases t0 : decide (cells > 60) with
  | true =>
    go_enter Try.func4, Try.ntmps4
    go_wp2_with fail
    refine (ralive_any _).mono ?_
    rintro e w1 ⟨rfl, b1⟩
    have B1 := Lib.hid b1
    clear b1
    go_wp2_with fail
    go_ret
    exact ⟨rfl, B1.out⟩
  | false =>
  cases t1 : decide ((l.length : Int) > 100) with
  | true =>
    go_enter Try.func4, Try.ntmps4
    go_wp2_with fail
    refine (ralive_any _).mono ?_
    rintro e w1 ⟨rfl, b1⟩
    have B1 := Lib.hid b1
    clear b1
    go_wp2_with fail
    go_ret
    exact ⟨rfl, B1.out⟩
  | false =>
  have hl100 : l.length ≤ 100 := by simp at t1; omega
  obtain ⟨n, hn60, HN⟩ : ∃ n : Nat, n ≤ 60 ∧ Hid (clampN cells 4096 = n) := ⟨clampN cells 4096, by
    have : cells ≤ 60 := by simpa using t0
    unfold clampN
    omega, rfl⟩
  have N1 := Lib.hid (fun W => new_any cells W)
  have N2 := Lib.hid (fun W => refNew_any cells W)
  rw [HN.out] at N1 N2
  have RI0 := Lib.hid (RI.new (n := n) hn60)
  have TZ := Lib.hid (told_zero n)
  have TD := Lib.hid (show tellD (Rf.new n).seen = (1, []) by
    have := tellD_told (RI0.out).inv
    rw [show (Pl.new n).last = List.replicate n zeroC from rfl, TZ.out] at this
    exact this)
  have RM0 := Lib.hid (show RM ⟨Pl.new n, 1, false⟩ ⟨Rf.new n, 1, 0, 0, false⟩ from ⟨rel_new n, rfl, rfl, fun h => by cases h⟩)
  go_enter Try.func4, Try.ntmps4
  go_wp2_with fail
  refine (ralive_any _).mono ?_
  rintro e w1 ⟨rfl, b1⟩
  have B1 := Lib.hid b1
  clear b1
  go_wp2_with fail
  refine (N1.out _).mono ?_
  rintro e w2 ⟨g1, rfl, p2, b2⟩
  have PP := Lib.hid p2
  have B2 := Lib.hid b2
  clear p2 b2 N1
  go_wp2_with fail
  refine (N2.out _).mono ?_
  rintro e w3 ⟨g2, rfl, p3, b3⟩
  have HP := Lib.hid (pair_new2 (L := fun _ => False) B1.out (fun _ e => e.elim) PP.out B2.out p3 b3)
  have CO := Lib.hid HP.out.openP
  rw [show (Pl.new n).last = List.replicate n zeroC from rfl, TZ.out] at CO
  clear p3 b3 PP B2 B1 N2
  go_wp2_with fail
  refine CO.out.mono ?_
  rintro e w4 ⟨b0, ta, tc, wa, wcc, rfl, hn4, hv4, _, _, b4⟩
  have P4 := Lib.hid (show Pair w w4 (atRl b0 g1 ⟨Pl.new n, 1, false⟩) (atRf g2 (Rf.new n)) (fun _ => False) from HP.out.toReel (stays_rf _ _) b4 hn4 hv4)
  have CD := Lib.hid P4.out.rdopenF
  rw [TD.out] at CD
  clear hn4 hv4 b4 CO HP
  go_wp2_with fail
  refine CD.out.mono ?_
  rintro e w5 ⟨b9, ua, uc, rfl, hn5, hv5, _, b5⟩
  have P5 := Lib.hid (show Pair w w5 (atRl b0 g1 ⟨Pl.new n, 1, false⟩) (atRd b9 g2 ⟨Rf.new n, 1, 0, 0, false⟩) (fun _ => False) from P4.out.toRd (stays_rl _ _ _) b5 hn5 hv5)
  clear hn5 hv5 b5 CD P4 TD TZ HN t0 t1
  go_wp2_with fail
  go_loopw [7, 10, 50] (fun s7 s10 i wr => ∃ (k b b' : Nat) (r : Rl) (d : Rd) (H : Nat → Hs), k ≤ l.length ∧ i = .int .i64 (k : Int) ∧ s7 = ptr b ∧ s10 = ptr b' ∧ Hid (RI n r H k) ∧ Hid (RM r d) ∧ Hid (Pair w wr (atRl b g1 r) (atRd b' g2 d) (fun _ => False))) (fun _ _ i _ => l.length - (intOf i).toNat)
  case atStart => exact ⟨0, b0, b9, _, _, _, Nat.zero_le _, rfl, rfl, rfl, RI0, RM0, P5⟩
  case round =>
    clear P5 RI0 RM0
    obtain ⟨k, b, b', r, d, H, hk, rfl, rfl, rfl, HI, HM, HPR⟩ := hrel
    by_cases hlt : k < l.length
    · obtain ⟨b1, o1, rfl, q1, r1⟩ := (H1.out.below HPR.out.low).cell (by intro e; subst e; simp at hlt)
      obtain ⟨d0, d1, d2, d3⟩ := r1 k _ (List.getElem?_eq_getElem hlt)
      have p1 := H1.out.cap
      have hx := H1.out.each _ (List.getElem_mem hlt)
      have hxh := hx.high
      have HXB := Lib.hid hx.bytes
      generalize l[k] = ac at *
      obtain ⟨kind, at_, torn, ia, ic, il⟩ := ac
      simp only at d0 d1 d2 d3 hxh HXB
      have hil := HXB.out.len
      have AT0 := Lib.hid (show (wr.alloc (.cells #[.int .i64 kind, .int .i64 at_, .int .i64 torn, .slice ia il.length ic] 42)).heap[wr.heap.size]? = some (.cells (acA ⟨kind, at_, torn, ia, ic, il⟩) 42 (0, 0)) from heap_alloc_new wr _)
      have ba := (Below.refl wr.heap.size wr).alloc (Nat.le_refl _) (.cells #[.int .i64 kind, .int .i64 at_, .int .i64 torn, .slice ia il.length ic] 42)
      have PA0 := Lib.hid (HPR.out.below (stays_rl _ _ _) (stays_rd _ _ _) ba (M := fun k => k = wr.heap.size) (fun k hk => .inr ⟨by omega, by rw [hk]; simp⟩))
      have vw := ac_cells (x := ⟨kind, at_, torn, ia, ic, il⟩) AT0.out
      simp only at vw
      obtain ⟨v0, v1, v2, v3⟩ := vw
      clear r1 hx
      cases t5 : decide ((il.length : Int) > 400) with
      | true =>
        have LA := Lib.hid PA0.out.low
        clear ba
        go_wp2_with fail
        go_ret
        exact ⟨rfl, LA.out⟩
      | false =>
      have hi400 : il.length ≤ 400 := by simp at t5; omega
      have HWD := Lib.hid (show Word il from ⟨by omega, HXB.out.byte⟩)
      have HS1 := Lib.hid HI.out.side
      have HFW := Lib.hid HI.out.inv.few
      have HLO := Lib.hid (show r.P.loose.length + 1366 ≤ 100000 by have := HFW.out; omega)
      have HATS := Lib.hid (show d.F.ats.length + 1500 ≤ 100000 by rw [HM.out.rel.ats, List.length_map]; have := HFW.out; omega)
      have HWHT := Lib.hid (show d.F.what.length + 1500 ≤ 100000 by rw [HM.out.rel.what, List.length_map]; have := HFW.out; omega)
      have HALL := Lib.hid (show ∀ W, Pair w W (atRl b g1 r) (atRd b' g2 d) (fun k => k = wr.heap.size) → BytesP W ia ic il from fun W h => HXB.out.below h.low)
      clear ba
      go_upto_block 2 with fail
      generalize hWA : wr.alloc (.cells #[.int .i64 kind, .int .i64 at_, .int .i64 torn, .slice ia il.length ic] 42) = WA at *
      clear hWA
      generalize wr.heap.size = ab at *
      go_cut [15, 16] (fun s15 s16 wx => ∃ (er : Int) (r2 : Rl) (d2 : Rd) (H2 : Nat → Hs), s15 = .int .i64 er ∧ s16 = .int .i64 er ∧ Hid (RI n ⟨r2.P, (toldL r2.P.last).1, false⟩ H2 (k + 1)) ∧ Hid ((kind == 5) = false → RI n r2 H2 (k + 1) ∧ RM r2 d2) ∧ Hid (Rel d2.F r2.P) ∧ Hid (Pair w wx (atRl b g1 r2) (atRd b' g2 d2) (fun k => k = ab)) ∧ Hid (wx.heap[ab]? = some (.cells (acA ⟨kind, at_, torn, ia, ic, il⟩) 42 (0, 0))))
      case first =>
        cases t2 : (kind == 0) with
        | true =>
          have hne5 := Lib.hid (show (kind == 5) = false by simp at t2 ⊢; omega)
          obtain ⟨H2, hri, _⟩ := HI.out.begin (by omega) HWD.out
          have hrm := HM.out.begin HI.out (by omega) HWD.out
          have CP := Lib.hid (PA0.out.rbegin (stays_rd _ _ _) ia ic il (HXB.out.below PA0.out.low) HS1.out HLO.out)
          have CQ := Lib.hid (fun W (h : Pair w W (atRl b g1 (r.begin il).2) (atRd b' g2 d) (fun k => k = ab)) => h.rdbegin (stays_rl _ _ _) (by rw [HM.out.side]; exact HS1.out) il HWD.out HATS.out HWHT.out)
          rw [hrm.1] at CQ
          have RI2 := Lib.hid hri
          have RM2 := Lib.hid hrm.2
          generalize (r.begin il).1 = er at *
          generalize (r.begin il).2 = r2 at *
          generalize (d.begin il).2 = d2 at *
          have RL2 := Lib.hid RM2.out.rel
          clear hri hrm
          go_wp2_with fail
          refine CP.out.mono ?_
          rintro e w4 ⟨rfl, p4, k4⟩
          have C2 := Lib.hid (CQ.out _ p4)
          have AC4 := Lib.hid ((k4 ab rfl).trans AT0.out)
          have vw := ac_cells (x := ⟨kind, at_, torn, ia, ic, il⟩) AC4.out
          simp only at vw
          obtain ⟨z0, z1, z2, z3⟩ := vw
          have RT := run_text (HXB.out.below p4.low)
          clear p4 k4 CP CQ v0 v1 v2 v3
          go_wp2_with fail
          refine C2.out.mono ?_
          rintro e w5 ⟨rfl, p5, k5⟩
          have P5 := Lib.hid p5
          have AC5 := Lib.hid ((k5 ab rfl).trans AC4.out)
          clear p5 k5 C2
          go_wp2_with fail
          go_meet
          exact ⟨er, r2, d2, H2, rfl, rfl, Lib.hid RI2.out.opened, Lib.hid (fun _ => ⟨RI2.out, RM2.out⟩), RL2, P5, AC5⟩
        | false =>
        cases t3 : (kind == 1) with
        | true =>
          have hne5 := Lib.hid (show (kind == 5) = false by simp at t3 ⊢; omega)
          obtain ⟨H2, hri, _⟩ := HI.out.add (by omega) HWD.out
          have hrm := HM.out.add HI.out (by omega) HWD.out
          have hat : d.at_ ≤ 100000 ∧ d.rd < 18446744073709551616 ∨ d.ready = false := by
            cases hr : r.ready with
            | false => exact .inr (HM.out.ready.trans hr)
            | true =>
              obtain ⟨rb, hi, bb⟩ := HI.out.rdy hr
              have hrow := bb.row HI.out.inv HS1.out
              obtain ⟨q1, q2⟩ := HM.out.row hr
              rw [hrow.1] at q1 q2
              have h3 := bb.hin
              have h4 := hrow.2.1
              have h5 := HI.out.top
              simp only at q1 q2
              exact .inl ⟨by omega, by omega⟩
          have HAT := Lib.hid hat
          have CP := Lib.hid (PA0.out.radd (stays_rd _ _ _) ia ic il (HXB.out.below PA0.out.low) HLO.out)
          have CQ := Lib.hid (fun W (h : Pair w W (atRl b g1 (r.add il).2) (atRd b' g2 d) (fun k => k = ab)) => h.rdadd2 (stays_rl _ _ _) HAT.out il HWD.out HATS.out HWHT.out)
          rw [hrm.1] at CQ
          have RI2 := Lib.hid (hri.more (Nat.le_succ k))
          have RM2 := Lib.hid hrm.2
          generalize (r.add il).1 = er at *
          generalize (r.add il).2 = r2 at *
          generalize (d.add il).2 = d2 at *
          have RL2 := Lib.hid RM2.out.rel
          clear hri hrm hat
          go_wp2_with fail
          refine CP.out.mono ?_
          rintro e w4 ⟨rfl, p4, k4⟩
          have C2 := Lib.hid (CQ.out _ p4)
          have AC4 := Lib.hid ((k4 ab rfl).trans AT0.out)
          have vw := ac_cells (x := ⟨kind, at_, torn, ia, ic, il⟩) AC4.out
          simp only at vw
          obtain ⟨z0, z1, z2, z3⟩ := vw
          have RT := run_text (HXB.out.below p4.low)
          clear p4 k4 CP CQ v0 v1 v2 v3
          go_wp2_with fail
          refine C2.out.mono ?_
          rintro e w5 ⟨rfl, p5, k5⟩
          have P5 := Lib.hid p5
          have AC5 := Lib.hid ((k5 ab rfl).trans AC4.out)
          clear p5 k5 C2
          go_wp2_with fail
          go_meet
          exact ⟨er, r2, d2, H2, rfl, rfl, Lib.hid RI2.out.opened, Lib.hid (fun _ => ⟨RI2.out, RM2.out⟩), RL2, P5, AC5⟩
        | false =>
        cases t4 : (kind == 2) with
        | true =>
          have hne5 := Lib.hid (show (kind == 5) = false by simp at t4 ⊢; omega)
          have hri := HI.out.flush
          have hrm := HM.out.flush
          have CP := Lib.hid (PA0.out.rflush (stays_rd _ _ _))
          have CQ := Lib.hid (fun W (h : Pair w W (atRl b g1 r.flush.2) (atRd b' g2 d) (fun k => k = ab)) => h.rdflush (stays_rl _ _ _))
          rw [hrm.1] at CQ
          obtain ⟨H2, hH2⟩ : ∃ H2, H2 = H := ⟨_, rfl⟩
          have RI2 := Lib.hid (show RI n r.flush.2 H2 (k + 1) by rw [hH2]; exact hri.more (Nat.le_succ k))
          have RM2 := Lib.hid hrm.2
          generalize r.flush.1 = er at *
          generalize r.flush.2 = r2 at *
          generalize d.flush.2 = d2 at *
          have RL2 := Lib.hid RM2.out.rel
          clear hri hrm hH2
          go_wp2_with fail
          refine CP.out.mono ?_
          rintro e w4 ⟨rfl, p4, k4⟩
          have C2 := Lib.hid (CQ.out _ p4)
          have AC4 := Lib.hid ((k4 ab rfl).trans AT0.out)
          have vw := ac_cells (x := ⟨kind, at_, torn, ia, ic, il⟩) AC4.out
          simp only at vw
          obtain ⟨z0, z1, z2, z3⟩ := vw
          clear p4 k4 CP CQ v0 v1 v2 v3
          go_wp2_with fail
          refine C2.out.mono ?_
          rintro e w5 ⟨rfl, p5, k5⟩
          have P5 := Lib.hid p5
          have AC5 := Lib.hid ((k5 ab rfl).trans AC4.out)
          clear p5 k5 C2
          go_wp2_with fail
          go_meet
          exact ⟨er, r2, d2, H2, rfl, rfl, Lib.hid RI2.out.opened, Lib.hid (fun _ => ⟨RI2.out, RM2.out⟩), RL2, P5, AC5⟩
        | false =>
        cases t6 : (kind == 4) with
        | true =>
          have hne5 := Lib.hid (show (kind == 5) = false by simp at t6 ⊢; omega)
          have hri := HI.out.limit hxh
          have hrm := HM.out.limit at_
          have CP := Lib.hid (PA0.out.rlimit (stays_rd _ _ _) at_ hxh)
          have CQ := Lib.hid (fun W (h : Pair w W (atRl b g1 ⟨r.P.limit at_, r.side, r.ready⟩) (atRd b' g2 d) (fun k => k = ab)) => h.rdlimit (stays_rl _ _ _) at_ hxh)
          obtain ⟨H2, hH2⟩ : ∃ H2, H2 = H := ⟨_, rfl⟩
          have RI2 := Lib.hid (show RI n ⟨r.P.limit at_, r.side, r.ready⟩ H2 (k + 1) by rw [hH2]; exact hri.more (Nat.le_succ k))
          have RM2 := Lib.hid hrm
          generalize (⟨r.P.limit at_, r.side, r.ready⟩ : Rl) = r2 at *
          generalize ({ d with F := d.F.limit at_ } : Rd) = d2 at *
          have RL2 := Lib.hid RM2.out.rel
          clear hri hrm hH2
          go_wp2_with fail
          refine CP.out.mono ?_
          rintro e w4 ⟨rfl, p4, k4⟩
          have C2 := Lib.hid (CQ.out _ p4)
          have AC4 := Lib.hid ((k4 ab rfl).trans AT0.out)
          have vw := ac_cells (x := ⟨kind, at_, torn, ia, ic, il⟩) AC4.out
          simp only at vw
          obtain ⟨z0, z1, z2, z3⟩ := vw
          clear p4 k4 CP CQ v0 v1 v2 v3
          go_wp2_with fail
          refine C2.out.mono ?_
          rintro e w5 ⟨rfl, p5, k5⟩
          have P5 := Lib.hid p5
          have AC5 := Lib.hid ((k5 ab rfl).trans AC4.out)
          clear p5 k5 C2
          go_wp2_with fail
          go_meet
          exact ⟨0, r2, d2, H2, rfl, rfl, Lib.hid RI2.out.opened, Lib.hid (fun _ => ⟨RI2.out, RM2.out⟩), RL2, P5, AC5⟩
        | false =>
        cases t9 : (kind == 5) with
        | true =>
          have hlen : d.F.ats.length = d.F.what.length := by rw [HM.out.rel.ats, HM.out.rel.what, List.length_map, List.length_map]
          have HOFF := Lib.hid (show ∀ b o, ia = some ⟨b, o, none⟩ → il ≠ [] → b < w.heap.size from fun b o e hne => by
            obtain ⟨b', o', e', hb', _⟩ := HXB.out.cell hne
            rw [e'] at e
            injection e with e
            injection e with e1
            subst e1
            exact hb')
          have RI2 := Lib.hid ((HI.out.failed il torn at_).more (Nat.le_succ k))
          have RL2 := Lib.hid (HM.out.fails il torn at_)
          have CP := Lib.hid (PA0.out.rfail (stays_rd _ _ _) ia ic il (HXB.out.below PA0.out.low) (fun hne b o e => .inl (HOFF.out b o e hne)) torn at_)
          have CQ := Lib.hid (fun W (h : Pair w W (atRl b g1 ⟨r.P.fail il torn at_, r.side, r.ready⟩) (atRd b' g2 d) (fun k => k = ab)) => h.rdfail (stays_rl _ _ _) hlen ia ic il (HXB.out.below h.low) (fun hne b o e => .inl (HOFF.out b o e hne)) torn at_)
          generalize r.P.fail il torn at_ = P2 at *
          clear hlen
          go_wp2_with fail
          refine CP.out.mono ?_
          rintro e w4 ⟨rfl, p4, k4⟩
          have C2 := Lib.hid (CQ.out _ p4)
          have AC4 := Lib.hid ((k4 ab rfl).trans AT0.out)
          have vw := ac_cells (x := ⟨kind, at_, torn, ia, ic, il⟩) AC4.out
          simp only at vw
          obtain ⟨z0, z1, z2, z3⟩ := vw
          clear p4 k4 CP CQ v0 v1 v2 v3
          go_wp2_with fail
          refine C2.out.mono ?_
          rintro e w5 ⟨rfl, p5, k5⟩
          have P5 := Lib.hid p5
          have AC5 := Lib.hid ((k5 ab rfl).trans AC4.out)
          clear p5 k5 C2
          go_wp2_with fail
          go_meet
          exact ⟨0, _, _, H, rfl, rfl, RI2, Lib.hid (fun h => by rw [t9] at h; cases h), RL2, P5, AC5⟩
        | false =>
          have RI2 := Lib.hid (HI.out.more (Nat.le_succ k))
          have RL2 := Lib.hid HM.out.rel
          go_wp2_with fail
          go_meet
          exact ⟨0, r, d, H, rfl, rfl, Lib.hid RI2.out.opened, Lib.hid (fun _ => ⟨RI2.out, HM.out⟩), RL2, PA0, AT0⟩
      case rest =>
        obtain ⟨er, r2, d2, H2, rfl, rfl, RIO, RIM, RL2, P6, AC6⟩ := hcut
        obtain ⟨sd, rd, bo, ht⟩ : ∃ sd rd bo, toldL r2.P.last = (sd, rd, bo) := ⟨_, _, _, rfl⟩
        have htd := tellD_told (RIO.out).inv
        simp only at htd
        rw [ht] at RIO htd
        simp only at RIO htd
        obtain ⟨hd, hhd⟩ : ∃ hd, bo.headD [] = hd := ⟨_, rfl⟩
        obtain ⟨tl, htl⟩ : ∃ tl, bo.tail = tl := ⟨_, rfl⟩
        have C32 := Lib.hid (show Calls Try.prog 10 #[ptr g1] wc (fun e w' => ∃ b ta tc wa wd, e = .returned (.tuple #[ptr b, .slice ta hd.length tc, .slice wa tl.length wd]) ∧ wc.heap.size ≤ b ∧ RlV w' b g1 sd false ∧ BytesP w' ta tc hd ∧ LLP w' wa wd tl ∧ Below wc.heap.size wc w') by
          have h := P6.out.openR
          rw [ht] at h
          rw [← hhd, ← htl]
          exact h)
        have C33 := Lib.hid (fun W (b : Below wc.heap.size wc W) => show Calls Try.prog 17 #[ptr g2] W (fun e w' => ∃ b a c, e = .returned (.tuple #[ptr b, .string (strB hd), .slice a tl.length c]) ∧ W.heap.size ≤ b ∧ RdV w' b g2 sd 0 0 false ∧ SSP w' a c tl ∧ Below W.heap.size W w') by
          have h := (P6.out.more (stays_rl _ _ _) (stays_rd _ _ _) b).rdopen
          rw [RL2.out.seen, htd] at h
          rw [← hhd, ← htl]
          exact h)
        have ACL := Lib.hid (Array.getElem?_eq_some_iff.1 AC6.out).1
        clear ht htd hhd htl v0 v1 v2 v3 AT0 PA0 HALL
        go_wp2_with fail
        refine C32.out.mono ?_
        rintro e w6 ⟨b6, xa, xc, ya, yc, rfl, hn6, hv6, hB6, hL6, b6'⟩
        have B6 := Lib.hid b6'
        have HN6 := Lib.hid hn6
        have HV6 := Lib.hid hv6
        have HB6 := Lib.hid hB6
        have HL6 := Lib.hid hL6
        have C7 := Lib.hid (C33.out _ b6')
        clear b6' hn6 hv6 hB6 hL6 C32 C33
        go_wp2_with fail
        refine C7.out.mono ?_
        rintro e w7 ⟨b7, ua, uc, rfl, hn7, hv7, hS7, b7'⟩
        have B7 := Lib.hid b7'
        have HN7 := Lib.hid hn7
        have HV7 := Lib.hid hv7
        have RT := run_text (HB6.out.below b7')
        have CS := Lib.hid (sameWords_any ya ua yc uc tl w7 (HL6.out.below b7') hS7)
        clear b7' hn7 hv7 hS7 C7
        generalize strB hd = sh at *
        generalize hd.length = shl at *
        generalize tl.length = btl at *
        go_wp2_with fail
        refine CS.out.mono ?_
        rintro e w8 ⟨rfl, b8⟩
        have B8 := Lib.hid (B6.out.trans ((B7.out.trans (b8.mono B7.out.size)).mono B6.out.size))
        have B78 := Lib.hid b8
        have vw := ac_cells (x := ⟨kind, at_, torn, ia, ic, il⟩) ((B8.out.block _ ACL.out).trans AC6.out)
        simp only at vw
        obtain ⟨z0, _, _, _⟩ := vw
        clear b8 CS RT
        cases t7 : (kind == 3) with
        | true =>
          obtain ⟨rx, hrx⟩ : ∃ rx : Rl, rx = ⟨r2.P, sd, false⟩ := ⟨_, rfl⟩
          obtain ⟨dx, hdx⟩ : ∃ dx : Rd, dx = ⟨d2.F, sd, 0, 0, false⟩ := ⟨_, rfl⟩
          have PX := Lib.hid (show Pair w w8 (atRl b6 g1 rx) (atRd b7 g2 dx) (fun k => k = ab) by
            rw [hrx, hdx]
            exact ((P6.out.turn (stays_rd _ _ _) B6.out HN6.out HV6.out).turnD (stays_rl _ _ _) B7.out HN7.out HV7.out).more (stays_rl _ _ _) (stays_rd _ _ _) B78.out)
          have RIX := Lib.hid (show RI n rx H2 (k + 1) by rw [hrx]; exact RIO.out)
          have RMX := Lib.hid (show RM rx dx by rw [hrx, hdx]; exact ⟨RL2.out, rfl, rfl, fun h => by cases h⟩)
          clear hrx hdx
          have hrd := RMX.out.ready
          have hlf := (RMX.out.leftI RIX.out).1
          have hat : dx.at_ ≤ 100000 ∨ dx.ready = false := by
            cases hr : rx.ready with
            | false => exact .inr (hrd.trans hr)
            | true =>
              obtain ⟨rb, hi, bb⟩ := RIX.out.rdy hr
              obtain ⟨q1, _⟩ := RMX.out.row hr
              rw [(bb.row RIX.out.inv RIX.out.side).1] at q1
              have h3 := bb.hin
              simp only at q1
              exact .inl (by omega)
          have HAT := Lib.hid hat
          have CR := Lib.hid (fun V (b : Below w8.heap.size w8 V) => (PX.out.more (stays_rl _ _ _) (stays_rd _ _ _) b).rready)
          have CLP := Lib.hid (fun V (b : Below w8.heap.size w8 V) => (PX.out.more (stays_rl _ _ _) (stays_rd _ _ _) b).rleft)
          have CLD := Lib.hid (fun V (b : Below w8.heap.size w8 V) => (PX.out.more (stays_rl _ _ _) (stays_rd _ _ _) b).rdleft2 HAT.out)
          have hv := PX.out.rdvars
          have fv := hv.cells.2.2.2.2
          rw [hrd] at fv
          have LX := fun p => far_cell (w := w8) (a := ⟨b7, 4, none⟩) hv.lt fv p
          rw [hlf] at CLD
          have PXM := Lib.hid (fun V (b : Below w8.heap.size w8 V) => (PX.out.more (stays_rl _ _ _) (stays_rd _ _ _) b).mono (M := fun _ => False) (fun _ e => e.elim))
          generalize rx.ready = rdy at *
          generalize rx.left = lft at *
          clear hat hrd hlf hv
          go_wp2_with fail
          refine wp_region_far (by kernel_rfl) (by kernel_rfl) ?_
          repeat (first
            | go_big_quiet_step ((first | (go_at_call 26; exact calls_far_same (CR.out _ (far_below _ _))) | (go_at_call 27; exact calls_far (CLP.out _ (far_below _ _))) | (go_at_call 28; exact calls_far (CLD.out _ (far_below _ _)))))
            | quiet_step ((first | (go_at_call 26; exact calls_far_same (CR.out _ (far_below _ _))) | (go_at_call 27; exact calls_far (CLP.out _ (far_below _ _))) | (go_at_call 28; exact calls_far (CLD.out _ (far_below _ _))))))
          refine wpQuiet_nil ?_
          intro _ hw'
          obtain ⟨p, hw''⟩ := hw'
          subst hw''
          have PY := Lib.hid (PXM.out _ (far_below _ p))
          go_wp2_with fail
          go_roundw
          case rel => exact ⟨k + 1, b6, b7, rx, dx, H2, by omega, by go_num, rfl, rfl, RIX, RMX, PY⟩
          case measure => simp [intOf]; omega
        | false =>
          cases t8 : (kind == 5) with
          | true =>
            obtain ⟨rx, hrx⟩ : ∃ rx : Rl, rx = ⟨r2.P, sd, false⟩ := ⟨_, rfl⟩
            obtain ⟨dx, hdx⟩ : ∃ dx : Rd, dx = ⟨d2.F, sd, 0, 0, false⟩ := ⟨_, rfl⟩
            have PX := Lib.hid (show Pair w w8 (atRl b6 g1 rx) (atRd b7 g2 dx) (fun k => k = ab) by
              rw [hrx, hdx]
              exact ((P6.out.turn (stays_rd _ _ _) B6.out HN6.out HV6.out).turnD (stays_rl _ _ _) B7.out HN7.out HV7.out).more (stays_rl _ _ _) (stays_rd _ _ _) B78.out)
            have RIX := Lib.hid (show RI n rx H2 (k + 1) by rw [hrx]; exact RIO.out)
            have RMX := Lib.hid (show RM rx dx by rw [hrx, hdx]; exact ⟨RL2.out, rfl, rfl, fun h => by cases h⟩)
            clear hrx hdx
            have hrd := RMX.out.ready
            have hlf := (RMX.out.leftI RIX.out).1
            have hat : dx.at_ ≤ 100000 ∨ dx.ready = false := by
              cases hr : rx.ready with
              | false => exact .inr (hrd.trans hr)
              | true =>
                obtain ⟨rb, hi, bb⟩ := RIX.out.rdy hr
                obtain ⟨q1, _⟩ := RMX.out.row hr
                rw [(bb.row RIX.out.inv RIX.out.side).1] at q1
                have h3 := bb.hin
                simp only at q1
                exact .inl (by omega)
            have HAT := Lib.hid hat
            have CR := Lib.hid (fun V (b : Below w8.heap.size w8 V) => (PX.out.more (stays_rl _ _ _) (stays_rd _ _ _) b).rready)
            have CLP := Lib.hid (fun V (b : Below w8.heap.size w8 V) => (PX.out.more (stays_rl _ _ _) (stays_rd _ _ _) b).rleft)
            have CLD := Lib.hid (fun V (b : Below w8.heap.size w8 V) => (PX.out.more (stays_rl _ _ _) (stays_rd _ _ _) b).rdleft2 HAT.out)
            have hv := PX.out.rdvars
            have fv := hv.cells.2.2.2.2
            rw [hrd] at fv
            have LX := fun p => far_cell (w := w8) (a := ⟨b7, 4, none⟩) hv.lt fv p
            rw [hlf] at CLD
            have PXM := Lib.hid (fun V (b : Below w8.heap.size w8 V) => (PX.out.more (stays_rl _ _ _) (stays_rd _ _ _) b).mono (M := fun _ => False) (fun _ e => e.elim))
            generalize rx.ready = rdy at *
            generalize rx.left = lft at *
            clear hat hrd hlf hv
            go_wp2_with fail
            refine wp_region_far (by kernel_rfl) (by kernel_rfl) ?_
            repeat (first
              | go_big_quiet_step ((first | (go_at_call 26; exact calls_far_same (CR.out _ (far_below _ _))) | (go_at_call 27; exact calls_far (CLP.out _ (far_below _ _))) | (go_at_call 28; exact calls_far (CLD.out _ (far_below _ _)))))
              | quiet_step ((first | (go_at_call 26; exact calls_far_same (CR.out _ (far_below _ _))) | (go_at_call 27; exact calls_far (CLP.out _ (far_below _ _))) | (go_at_call 28; exact calls_far (CLD.out _ (far_below _ _))))))
            refine wpQuiet_nil ?_
            intro _ hw'
            obtain ⟨p, hw''⟩ := hw'
            subst hw''
            have PY := Lib.hid (PXM.out _ (far_below _ p))
            go_wp2_with fail
            go_roundw
            case rel => exact ⟨k + 1, b6, b7, rx, dx, H2, by omega, by go_num, rfl, rfl, RIX, RMX, PY⟩
            case measure => simp [intOf]; omega
          | false =>
            obtain ⟨rx, hrx⟩ : ∃ rx : Rl, rx = r2 := ⟨_, rfl⟩
            obtain ⟨dx, hdx⟩ : ∃ dx : Rd, dx = d2 := ⟨_, rfl⟩
            have PX := Lib.hid (show Pair w w8 (atRl b g1 rx) (atRd b' g2 dx) (fun k => k = ab) by
              rw [hrx, hdx]
              exact P6.out.more (stays_rl _ _ _) (stays_rd _ _ _) B8.out)
            have RIX := Lib.hid (show RI n rx H2 (k + 1) by rw [hrx]; exact (RIM.out t8).1)
            have RMX := Lib.hid (show RM rx dx by rw [hrx, hdx]; exact (RIM.out t8).2)
            clear hrx hdx
            have hrd := RMX.out.ready
            have hlf := (RMX.out.leftI RIX.out).1
            have hat : dx.at_ ≤ 100000 ∨ dx.ready = false := by
              cases hr : rx.ready with
              | false => exact .inr (hrd.trans hr)
              | true =>
                obtain ⟨rb, hi, bb⟩ := RIX.out.rdy hr
                obtain ⟨q1, _⟩ := RMX.out.row hr
                rw [(bb.row RIX.out.inv RIX.out.side).1] at q1
                have h3 := bb.hin
                simp only at q1
                exact .inl (by omega)
            have HAT := Lib.hid hat
            have CR := Lib.hid (fun V (b : Below w8.heap.size w8 V) => (PX.out.more (stays_rl _ _ _) (stays_rd _ _ _) b).rready)
            have CLP := Lib.hid (fun V (b : Below w8.heap.size w8 V) => (PX.out.more (stays_rl _ _ _) (stays_rd _ _ _) b).rleft)
            have CLD := Lib.hid (fun V (b : Below w8.heap.size w8 V) => (PX.out.more (stays_rl _ _ _) (stays_rd _ _ _) b).rdleft2 HAT.out)
            have hv := PX.out.rdvars
            have fv := hv.cells.2.2.2.2
            rw [hrd] at fv
            have LX := fun p => far_cell (w := w8) (a := ⟨b', 4, none⟩) hv.lt fv p
            rw [hlf] at CLD
            have PXM := Lib.hid (fun V (b : Below w8.heap.size w8 V) => (PX.out.more (stays_rl _ _ _) (stays_rd _ _ _) b).mono (M := fun _ => False) (fun _ e => e.elim))
            generalize rx.ready = rdy at *
            generalize rx.left = lft at *
            clear hat hrd hlf hv
            go_wp2_with fail
            refine wp_region_far (by kernel_rfl) (by kernel_rfl) ?_
            repeat (first
              | go_big_quiet_step ((first | (go_at_call 26; exact calls_far_same (CR.out _ (far_below _ _))) | (go_at_call 27; exact calls_far (CLP.out _ (far_below _ _))) | (go_at_call 28; exact calls_far (CLD.out _ (far_below _ _)))))
              | quiet_step ((first | (go_at_call 26; exact calls_far_same (CR.out _ (far_below _ _))) | (go_at_call 27; exact calls_far (CLP.out _ (far_below _ _))) | (go_at_call 28; exact calls_far (CLD.out _ (far_below _ _))))))
            refine wpQuiet_nil ?_
            intro _ hw'
            obtain ⟨p, hw''⟩ := hw'
            subst hw''
            have PY := Lib.hid (PXM.out _ (far_below _ p))
            go_wp2_with fail
            go_roundw
            case rel => exact ⟨k + 1, b, b', rx, dx, H2, by omega, by go_num, rfl, rfl, RIX, RMX, PY⟩
            case measure => simp [intOf]; omega
    · go_wp2_with fail
      go_ret
      exact ⟨rfl, HPR.out.low⟩


set_option maxRecDepth 100000 in
theorem reelRuns_lifted (os : Os) (started : os.Started) (H : Type) (enc : TypeId × Value → H) :
    ReturnsInHanded {} Try.checked os 4 .any (Rows.reelRunsSpec.pre6 enc Try.prog Try.f4 Rows.reelRunsRow.domain false) (Rows.reelRunsSpec.post enc Try.prog Try.f4 false true false false) := by
  refine returnsInHanded_of_change (C := Try.checked) own started (by kernel_rfl) Try.func4
    (ChangeSpec.witness6 (enc := enc) (C := Try.checked) false ⟨#[], #[.int .i64 0, .slice none 0 0], []⟩ 8 (by kernel_rfl) (by kernel_rfl) (by kernel_rfl) (by kernel_rfl)) ?_
  intro W base args ds gs before hval0 hW _ _
  have hval : ∀ (j : Nat) t v, Try.f4.params[j]? = some t → args[j]? = some v → Value.okWide Try.prog W .any base t v := hval0
  have hW' := hW
  obtain ⟨p, q, hA0, hV, rfl, _, _⟩ := hW
  have hA : DataW.TrodAll enc Try.prog W 0 (fun _ => true) true Try.f4.params.toList args.toList ds p := hA0
  rw [Try.params4] at hA hval
  obtain ⟨v0, vs0, d0, ds0, p0, q_0, hargs, rfl, rfl, h0, r0⟩ := trodAll_cons hA
  obtain ⟨v1, vs1, d1, ds1, p1, q_1, rfl, rfl, rfl, h1, r1⟩ := trodAll_cons r0
  obtain ⟨rfl, rfl, rfl⟩ := trodAll_nil r1
  obtain rfl : args = #[v0, v1] := by cases args; simp_all
  obtain ⟨rfl, rfl⟩ := trodVars_none hV
  clear hA0 hval0
  simp only [List.append_nil] at hW'
  obtain ⟨a0, rfl, rfl, rfl, w0⟩ := open_int Try.underlying3 (hval 0 3 v0 rfl rfl) h0
  obtain ⟨q1, cap1, l1, rfl, hS1, hm1⟩ := acts_of_trod (hval 1 34 v1 rfl rfl) h1
  have hlt1 : ∀ x ∈ p1, x.block < W.heap.size := fun x hx => by simpa using hW'.lt x (by simpa using (by simp [hx]))
  refine (runs_walk a0 q1 cap1 l1 W hS1).mono fun e W' ⟨he, hb⟩ => ?_
  subst he
  have hT : DataW.TrodAll enc Try.prog W' 0 (fun b => decide (b < W.heap.size)) true _ _ _ _ := (trodAll_cons_mk (shut_int Try.underlying3 w0) (trodAll_cons_mk (Below.trod laidOut (by kernel_rfl) (of_decide_eq_true (by kernel_rfl)) h1 hb hlt1) trodAll_mk0))
  simp only [List.append_nil] at hT
  exact ⟨_, rfl, _, _, _, [], p1, [], hW', trodAll_mk1 (shut_bool Try.underlying4 _), hT, rfl, hb.frame _, fun h => by cases h⟩

theorem reelRuns_holds : Rows.ReelRunsSaid :=
  OpenClaim.holds_of_wide 4 Try.f4 rfl rfl rfl rfl rfl rfl rfl ⟨rfl, rfl, rfl, rfl, rfl⟩ rfl rfl rfl rfl rfl (by kernel_rfl) Try.func4 (by kernel_rfl)
    (of_decide_eq_true (by kernel_rfl)) (by unfold Func.isWrapper; first | (rw [if_pos (by decide +kernel)]; kernel_rfl) | (rw [if_neg (by decide +kernel)]; exact ⟨rfl, rfl⟩))
    (fun os started H enc _ => reelRuns_lifted os started H enc)
#print axioms reelRuns_holds


end Go.Proofs.Ytipikkniookanaa
