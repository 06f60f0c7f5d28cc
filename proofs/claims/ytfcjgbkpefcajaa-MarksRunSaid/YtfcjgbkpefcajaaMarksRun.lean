/- MarksRun: the law returns true for any number of cells and any list of acts: whatever is put, lost or written raw, marks answer as the document does, for every side. It has no conditions. -/
import Derived.Test.YtfcjgbkpefcajaaMkAlive
import Derived.Test.YtfcjgbkpefcajaaMkRun
import Derived.Test.YtfcjgbkpefcajaaArgsA
import Derived.Deep.DeepCutAuto
import Derived.Deep.CutBlock
namespace Go.Proofs.Ytfcjgbkpefcajaa
open Go.ChangeShapes Go.WideShapes Go.ChangeAt Go.RowKit

attribute [local go_sem ↓] ld26 ld66 st26 st66 bx26 al26 al66 bd26 bd66 bs61 bs48 mk48 eq26 ap61 ap48 ap49 cp46 cp48
attribute [local go_sem] bx_agg al_cell al_wr bd_zero bd_one bd_two bd_nine

set_option maxRecDepth 100000 in
set_option maxHeartbeats 32000000 in
theorem run_walk (cells : Int) (a : Option Addr) (cap : Nat) (l : List Ac) (w : World) (h1 : ActsP w a cap l) : Calls Try.prog 4 #[.int .i64 cells, .slice a l.length cap] w (TrueB w) := by
  have H1 := Lib.hid h1
  have hll := h1.len
  clear h1
  cases t0 : decide (cells > 40) with
  | true =>
    go_enter Try.func4, Try.ntmps4
    go_wp2_with fail
    refine (alive_any _).mono ?_
    rintro e w1 ⟨rfl, b1⟩
    have B1 := Lib.hid b1
    clear b1
    go_wp2_with fail
    go_ret
    exact ⟨rfl, B1.out⟩
  | false =>
  cases t1 : decide ((l.length : Int) > 100) with
  | true =>
    go_enter Try.func4, Try.ntmps4
    go_wp2_with fail
    refine (alive_any _).mono ?_
    rintro e w1 ⟨rfl, b1⟩
    have B1 := Lib.hid b1
    clear b1
    go_wp2_with fail
    go_ret
    exact ⟨rfl, B1.out⟩
  | false =>
  have n1 : l.length ≤ 100 := by simp at t1; omega
  go_enter Try.func4, Try.ntmps4
  go_wp2_with fail
  refine (alive_any _).mono ?_
  rintro e w1 ⟨rfl, b1⟩
  have N1 := Lib.hid (new_any cells w1)
  have N2 := Lib.hid (fun W => refNew_any cells W)
  have B1 := Lib.hid b1
  generalize clampN cells 4096 = m at N1 N2
  clear b1
  go_wp2_with fail
  refine N1.out.mono ?_
  rintro e w2 ⟨g1, rfl, p2, b2⟩
  have PP := Lib.hid p2
  have B2 := Lib.hid b2
  clear p2 b2 N1
  go_wp2_with fail
  refine (N2.out _).mono ?_
  rintro e w3 ⟨g2, rfl, p3, b3⟩
  have HP := Lib.hid (pair_new2 (L := fun _ => False) B1.out (fun _ e => e.elim) PP.out B2.out p3 b3)
  have RL0 := Lib.hid (rel_new m)
  have F0 := Lib.hid (show (Pl.new m).loose.length ≤ 0 from Nat.le_refl _)
  generalize Pl.new m = P0 at *
  generalize Rf.new m = r0 at *
  clear p3 b3 PP B2 B1 N2 t0 t1
  go_wp2_with fail
  go_loopw [31] (fun i wr => ∃ (k : Nat) (P : Pl) (r : Rf), k ≤ l.length ∧ i = .int .i64 k ∧ Hid (Rel r P) ∧ Hid (P.loose.length ≤ k) ∧ Hid (Pair w wr (atPl g1 P) (atRf g2 r) (fun _ => False))) (fun i _ => l.length - (intOf i).toNat)
  case atStart => exact ⟨0, P0, r0, Nat.zero_le _, rfl, RL0, F0, HP⟩
  case round =>
    clear HP RL0 F0
    obtain ⟨k, P, r, hk, rfl, HRl, HF, HPr⟩ := hrel
    by_cases hlt : k < l.length
    · obtain ⟨b1, o1, rfl, q1, r1⟩ := (H1.out.below HPr.out.low).cell (by intro e; subst e; simp at hlt)
      obtain ⟨d0, d1, d2, d3, d4, d5⟩ := r1 k _ (List.getElem?_eq_getElem hlt)
      have p1 := H1.out.cap
      have hx := H1.out.each _ (List.getElem_mem hlt)
      have hxh := hx.high
      have hxr := hx.rd
      have HXB := Lib.hid hx.bytes
      generalize l[k] = ac at *
      obtain ⟨kind, side, at_, torn, rd, ia, ic, il⟩ := ac
      simp only at d0 d1 d2 d3 d4 d5 hxh hxr HXB
      have hil := HXB.out.len
      have AT0 := Lib.hid (show (wr.alloc (.cells #[.int .i64 kind, .int .i64 side, .int .i64 at_, .int .i64 torn, .int .u64 (rd : Int), .slice ia il.length ic] 37)).heap[wr.heap.size]? = some (.cells (acA ⟨kind, side, at_, torn, rd, ia, ic, il⟩) 37 (0, 0)) from heap_alloc_new wr _)
      have ba := (Below.refl wr.heap.size wr).alloc (Nat.le_refl _) (.cells #[.int .i64 kind, .int .i64 side, .int .i64 at_, .int .i64 torn, .int .u64 (rd : Int), .slice ia il.length ic] 37)
      have PA0 := Lib.hid (HPr.out.below (stays_pl _ _) (stays_rf _ _) ba (M := fun k => k = wr.heap.size) (fun k hk => .inr ⟨by omega, by rw [hk]; simp⟩))
      have LW := Lib.hid HPr.out.low
      have vw := ac_cells (x := ⟨kind, side, at_, torn, rd, ia, ic, il⟩) AT0.out
      simp only at vw
      obtain ⟨v0, v1, v2, v3, v4, v5⟩ := vw
      clear r1 hx
      cases t5 : decide ((il.length : Int) > 100) with
      | true =>
        have LA := Lib.hid (LW.out.trans (ba.mono LW.out.size))
        clear ba
        go_wp2_with fail
        go_ret
        exact ⟨rfl, LA.out⟩
      | false =>
      have hi100 : il.length ≤ 100 := by simp at t5; omega
      clear ba
      go_upto_block 2 with fail
      generalize hWA : wr.alloc (.cells #[.int .i64 kind, .int .i64 side, .int .i64 at_, .int .i64 torn, .int .u64 (rd : Int), .slice ia il.length ic] 37) = WA at *
      clear hWA
      generalize wr.heap.size = ab at *
      go_cut [9, 10] (fun s9 s10 wx => ∃ (er : Int) (P2 : Pl) (r2 : Rf), s9 = .int .i64 er ∧ s10 = .int .i64 er ∧ Hid (Rel r2 P2) ∧ Hid (P2.loose.length ≤ k + 1) ∧ Hid (Pair w wx (atPl g1 P2) (atRf g2 r2) (fun _ => False)))
      case first =>
        have hlo : P.loose.length < 100000 := by have := HF.out; omega
        have HLA := Lib.hid (show r.ats.length < 100000 by rw [HRl.out.ats, List.length_map]; exact hlo)
        have HLW := Lib.hid (show r.what.length < 100000 by rw [HRl.out.what, List.length_map]; exact hlo)
        have HG := Lib.hid PA0.out.good
        have AL := Lib.hid (Array.getElem?_eq_some_iff.1 AT0.out).1
        cases t0 : (kind == 0) with
        | true =>
          have hre := HRl.out.mput HG.out side rd at_ il
          have CP := Lib.hid (PA0.out.mput (stays_rf _ _) side rd at_ ia ic il (HXB.out.below PA0.out.low) hlo)
          have CQ := Lib.hid (fun W (h : Pair w W (atPl g1 (P.mput side rd at_ il).2) (atRf g2 r) (fun k => k = ab)) => h.refMput (stays_pl _ _) side rd at_ ia ic il (HXB.out.below h.low) HLA.out HLW.out)
          rw [hre.1] at CQ
          have RL2 := Lib.hid hre.2
          have HF2 := Lib.hid (show (P.mput side rd at_ il).2.loose.length ≤ k + 1 by have := mput_few P side rd at_ il; have := HF.out; omega)
          generalize (P.mput side rd at_ il).1 = er at *
          generalize (P.mput side rd at_ il).2 = P2 at *
          generalize (r.mput side rd at_ il).2 = r2 at *
          clear hre
          go_wp2_with fail
          refine CP.out.mono ?_
          rintro e w4 ⟨rfl, p4, k4⟩
          have C2 := Lib.hid (CQ.out _ p4)
          have vw := ac_cells (x := ⟨kind, side, at_, torn, rd, ia, ic, il⟩) ((k4 ab rfl).trans AT0.out)
          simp only at vw
          obtain ⟨z0, z1, z2, z3, z4, z5⟩ := vw
          clear p4 k4 CP CQ v0 v1 v2 v3 v4 v5
          go_wp2_with fail
          refine C2.out.mono ?_
          rintro e w5 ⟨rfl, p5, _⟩
          have P5 := Lib.hid (p5.mono (M := fun _ => False) (fun _ e => e.elim))
          clear p5 C2
          go_wp2_with fail
          go_meet
          exact ⟨er, P2, r2, rfl, rfl, RL2, HF2, P5⟩
        | false =>
        cases t1 : (kind == 1) with
        | true =>
          have hre := HRl.out.flush
          have CP := Lib.hid (PA0.out.flush (stays_rf _ _))
          have CQ := Lib.hid (fun W (h : Pair w W (atPl g1 P.flush.2) (atRf g2 r) (fun k => k = ab)) => h.refFlush (stays_pl _ _))
          rw [hre.1] at CQ
          have RL2 := Lib.hid hre.2
          have HF2 := Lib.hid (show P.flush.2.loose.length ≤ k + 1 by have := flush_few P; have := HF.out; omega)
          generalize P.flush.1 = er at *
          generalize P.flush.2 = P2 at *
          generalize r.flush.2 = r2 at *
          clear hre
          go_wp2_with fail
          refine CP.out.mono ?_
          rintro e w4 ⟨rfl, p4, k4⟩
          have C2 := Lib.hid (CQ.out _ p4)
          clear p4 k4 CP CQ v0 v1 v2 v3 v4 v5
          go_wp2_with fail
          refine C2.out.mono ?_
          rintro e w5 ⟨rfl, p5, _⟩
          have P5 := Lib.hid (p5.mono (M := fun _ => False) (fun _ e => e.elim))
          clear p5 C2
          go_wp2_with fail
          go_meet
          exact ⟨er, P2, r2, rfl, rfl, RL2, HF2, P5⟩
        | false =>
        cases t2 : (kind == 2) with
        | true =>
          have CP := Lib.hid (PA0.out.limit (stays_rf _ _) at_ hxh)
          have CQ := Lib.hid (fun W (h : Pair w W (atPl g1 (P.limit at_)) (atRf g2 r) (fun k => k = ab)) => h.refLimit (stays_pl _ _) at_ hxh)
          have RL2 := Lib.hid (HRl.out.limit at_)
          have HF2 := Lib.hid (show (P.limit at_).loose.length ≤ k + 1 by have := HF.out; show P.loose.length ≤ k + 1; omega)
          generalize P.limit at_ = P2 at *
          generalize r.limit at_ = r2 at *
          go_wp2_with fail
          refine CP.out.mono ?_
          rintro e w4 ⟨rfl, p4, k4⟩
          have C2 := Lib.hid (CQ.out _ p4)
          have vw := ac_cells (x := ⟨kind, side, at_, torn, rd, ia, ic, il⟩) ((k4 ab rfl).trans AT0.out)
          simp only at vw
          obtain ⟨z0, z1, z2, z3, z4, z5⟩ := vw
          clear p4 k4 CP CQ v0 v1 v2 v3 v4 v5
          go_wp2_with fail
          refine C2.out.mono ?_
          rintro e w5 ⟨rfl, p5, _⟩
          have P5 := Lib.hid (p5.mono (M := fun _ => False) (fun _ e => e.elim))
          clear p5 C2
          go_wp2_with fail
          go_meet
          exact ⟨0, P2, r2, rfl, rfl, RL2, HF2, P5⟩
        | false =>
        cases t3 : (kind == 3) with
        | true =>
          have hlen : r.ats.length = r.what.length := by rw [HRl.out.ats, HRl.out.what, List.length_map, List.length_map]
          have HOFF := Lib.hid (show ∀ b o, ia = some ⟨b, o, none⟩ → il ≠ [] → b < w.heap.size from fun b o e hne => by
            obtain ⟨b', o', e', hb', _⟩ := HXB.out.cell hne
            rw [e'] at e
            injection e with e
            injection e with e1
            subst e1
            exact hb')
          have CP := Lib.hid (PA0.out.fail (stays_rf _ _) ia ic il (HXB.out.below PA0.out.low) (fun hne b o e => .inl (HOFF.out b o e hne)) torn at_)
          have CQ := Lib.hid (fun W (h : Pair w W (atPl g1 (P.fail il torn at_)) (atRf g2 r) (fun k => k = ab)) => h.refFail (stays_pl _ _) hlen ia ic il (HXB.out.below h.low) (fun hne b o e => .inl (HOFF.out b o e hne)) torn at_)
          have RL2 := Lib.hid (HRl.out.fail il torn at_)
          have HF2 := Lib.hid (show (P.fail il torn at_).loose.length ≤ k + 1 by show 0 ≤ k + 1; omega)
          generalize P.fail il torn at_ = P2 at *
          generalize r.fail il torn at_ = r2 at *
          clear hlen
          go_wp2_with fail
          refine CP.out.mono ?_
          rintro e w4 ⟨rfl, p4, k4⟩
          have C2 := Lib.hid (CQ.out _ p4)
          have vw := ac_cells (x := ⟨kind, side, at_, torn, rd, ia, ic, il⟩) ((k4 ab rfl).trans AT0.out)
          simp only at vw
          obtain ⟨z0, z1, z2, z3, z4, z5⟩ := vw
          clear p4 k4 CP CQ v0 v1 v2 v3 v4 v5
          go_wp2_with fail
          refine C2.out.mono ?_
          rintro e w5 ⟨rfl, p5, _⟩
          have P5 := Lib.hid (p5.mono (M := fun _ => False) (fun _ e => e.elim))
          clear p5 C2
          go_wp2_with fail
          go_meet
          exact ⟨0, P2, r2, rfl, rfl, RL2, HF2, P5⟩
        | false =>
        cases t4 : (kind == 4) with
        | true =>
          have icr := rawC_is HXB.out.byte
          have CC := Lib.hid (raw_any ia ic il WA.drew ((HXB.out.below PA0.out.low).below (Below.refl _ _).drew) (by omega))
          have CC2 := Lib.hid (fun W (b : Below w.heap.size w W) => raw_any ia ic il W.drew ((HXB.out.below b).below (Below.refl _ _).drew) (by omega))
          generalize rawC il = c at *
          have hre := HRl.out.put HG.out at_ c
          have CP := Lib.hid (fun W (b : Below WA.drew.heap.size WA.drew W) => ((PA0.out.more (stays_pl _ _) (stays_rf _ _) (Below.refl _ _).drew).more (stays_pl _ _) (stays_rf _ _) b).put (stays_rf _ _) at_ icr hlo)
          have CQ := Lib.hid (fun W (h : Pair w W (atPl g1 (P.put at_ c).2) (atRf g2 r) (fun k => k = ab)) => h.refPut (stays_pl _ _) at_ icr HLA.out HLW.out)
          rw [hre.1] at CQ
          have RL2 := Lib.hid hre.2
          have HF2 := Lib.hid (show (P.put at_ c).2.loose.length ≤ k + 1 by have := put_few P at_ c; have := HF.out; omega)
          have AA := Lib.hid (show WA.drew.heap[ab]? = some (.cells (acA ⟨kind, side, at_, torn, rd, ia, ic, il⟩) 37 (0, 0)) from AT0.out)
          have AAlt := Lib.hid (show ab < WA.drew.heap.size from AL.out)
          generalize (P.put at_ c).1 = er at *
          generalize (P.put at_ c).2 = P2 at *
          generalize (r.put at_ c).2 = r2 at *
          clear hre
          go_wp2_with fail
          go_cut [9] (fun s9 wx => s9 = .int .i64 er ∧ Hid (Pair w wx (atPl g1 P2) (atRf g2 r) (fun k => k = ab)) ∧ Hid (wx.heap[ab]? = some (.cells (acA ⟨kind, side, at_, torn, rd, ia, ic, il⟩) 37 (0, 0))))
          case first =>
            go_region_law (first
              | (go_simp; go_at_call 20; refine CC.out.mono ?_; rintro e w4 ⟨rfl, b4⟩
                 have B4 := Lib.hid b4
                 have AA4 := Lib.hid ((b4.block ab AAlt.out).trans AA.out)
                 have vv := ac_cells (x := ⟨kind, side, at_, torn, rd, ia, ic, il⟩) AA4.out
                 simp only at vv
                 obtain ⟨y0, y1, y2, y3, y4, y5⟩ := vv
                 clear b4)
              | (go_simp; go_at_call 19; refine (CP.out _ B4.out).mono ?_; rintro e w5 ⟨rfl, p5, k5⟩
                 have P5 := Lib.hid p5
                 have K5 := Lib.hid k5
                 clear p5 k5))
            all_goals
              go_wp2_with fail
              go_meet
              exact ⟨rfl, P5, Lib.hid ((K5.out _ rfl).trans AA4.out)⟩
          case rest =>
            obtain ⟨rfl, P5, AC5⟩ := hcut
            have CD := Lib.hid (CC2.out _ P5.out.low)
            have CP2 := Lib.hid (fun W (b : Below wc.drew.heap.size wc.drew W) => CQ.out W ((P5.out.more (stays_pl _ _) (stays_rf _ _) (Below.refl _ _).drew).more (stays_pl _ _) (stays_rf _ _) b))
            have AA2 := Lib.hid (show wc.drew.heap[ab]? = some (.cells (acA ⟨kind, side, at_, torn, rd, ia, ic, il⟩) 37 (0, 0)) from AC5.out)
            have AA2lt := Lib.hid (show ab < wc.drew.heap.size from (Array.getElem?_eq_some_iff.1 AC5.out).1)
            have vw := ac_cells (x := ⟨kind, side, at_, torn, rd, ia, ic, il⟩) AC5.out
            simp only at vw
            obtain ⟨z0, z1, z2, z3, z4, z5⟩ := vw
            clear v0 v1 v2 v3 v4 v5 CP PA0 AT0 AA AAlt CQ CC CC2
            generalize wc = w8 at *
            go_wp2_with fail
            go_region_law (first
              | (go_simp; go_at_call 20; refine CD.out.mono ?_; rintro e u4 ⟨rfl, b4⟩
                 have B4 := Lib.hid b4
                 have AA4 := Lib.hid ((b4.block ab AA2lt.out).trans AA2.out)
                 have vv := ac_cells (x := ⟨kind, side, at_, torn, rd, ia, ic, il⟩) AA4.out
                 simp only at vv
                 obtain ⟨y0, y1, y2, y3, y4, y5⟩ := vv
                 clear b4)
              | (go_simp; go_at_call 21; refine (CP2.out _ B4.out).mono ?_; rintro e u5 ⟨rfl, p5, k5⟩
                 have P5 := Lib.hid p5
                 have K5 := Lib.hid k5
                 clear p5 k5))
            all_goals
              have P6 := Lib.hid (P5.out.mono (M := fun _ => False) (fun _ e => e.elim))
              go_wp2_with fail
              go_meet
              exact ⟨er, P2, r2, rfl, rfl, RL2, HF2, P6⟩
        | false =>
          have P5 := Lib.hid (PA0.out.mono (M := fun _ => False) (fun _ e => e.elim))
          have HF2 := Lib.hid (show P.loose.length ≤ k + 1 by have := HF.out; omega)
          go_wp2_with fail
          go_meet
          exact ⟨0, P, r, rfl, rfl, HRl, HF2, P5⟩
      case rest =>
        obtain ⟨er, P2, r2, rfl, rfl, RL2, HF2, P6⟩ := hcut
        have hse : r2.seen.length = P2.sure.length := by rw [RL2.out.seen, P6.out.good.size]
        have C22 := Lib.hid P6.out.mroom
        have C23 := Lib.hid P6.out.refMroom
        rw [hse] at C23
        have C10 := Lib.hid P6.out.mtop
        have C24 := Lib.hid (fun W (b : Below wc.heap.size wc W) => (P6.out.more (stays_pl _ _) (stays_rf _ _) b).refMtop)
        rw [RL2.out.seen] at C24
        generalize topL P2.last = tp at *
        generalize P2.sure.length / 2 = rm at *
        clear hse v0 v1 v2 v3 v4 v5 d0 d1 d2 d3 d4 d5 AT0 PA0 LW HXB
        go_wp2_with fail
        refine C22.out.mono ?_
        rintro e w' ⟨rfl, rfl⟩
        go_wp2_with fail
        refine C23.out.mono ?_
        rintro e w' ⟨rfl, rfl⟩
        go_wp2_with fail
        refine C10.out.mono ?_
        rintro e w7 ⟨rfl, b7⟩
        have B7 := Lib.hid b7
        have CT := Lib.hid (C24.out _ b7)
        clear b7 C24
        go_wp2_with fail
        refine CT.out.mono ?_
        rintro e w8 ⟨rfl, b8⟩
        have P8 := Lib.hid (P6.out.more (stays_pl _ _) (stays_rf _ _) (B7.out.trans (b8.mono B7.out.size)))
        clear b8 B7 CT C10 C22 C23 P6 HPr HRl HF
        go_wp2_with fail
        generalize wr = wo at *
        go_loopw [11] (fun i wr => ∃ (x : Int), -1 ≤ x ∧ x ≤ 3 ∧ i = .int .i64 x ∧ Hid (Pair w wr (atPl g1 P2) (atRf g2 r2) (fun _ => False))) (fun i _ => (3 - intOf i).toNat)
        case atStart => exact ⟨-1, by omega, by omega, rfl, P8⟩
        case round =>
          clear P8
          obtain ⟨x, hx1, hx3, rfl, PR⟩ := hrel
          cases t9 : decide (x ≤ 2) with
          | true =>
            have hx2 : x ≤ 2 := by simpa using t9
            have hwx : IntKind.i64.wrap (x + 1) = x + 1 := IntWalk.i64_in _ (by omega)
            have CR := Lib.hid (PR.out.mread x)
            have CS := Lib.hid (fun W (b : Below wr.heap.size wr W) => (PR.out.more (stays_pl _ _) (stays_rf _ _) b).refMread x)
            rw [RL2.out.seen] at CS
            generalize readL P2.last x = rr at *
            obtain ⟨rq, rls⟩ := rr
            go_wp2_with fail
            refine CR.out.mono ?_
            rintro e w9 ⟨ra, rc, rfl, rL, b9⟩
            have RLL := Lib.hid rL
            have B9 := Lib.hid b9
            have C2 := Lib.hid (CS.out _ b9)
            clear rL b9 CR CS
            go_wp2_with fail
            refine C2.out.mono ?_
            rintro e w10 ⟨sa, sc, rfl, sL, b10⟩
            have CE := Lib.hid (same_any ra sa rc sc rls w10 (RLL.out.below b10) sL)
            have B10 := Lib.hid (B9.out.trans (b10.mono B9.out.size))
            clear sL b10 C2 B9 RLL
            go_wp2_with fail
            refine CE.out.mono ?_
            rintro e w11 ⟨rfl, b11⟩
            have PX := Lib.hid (PR.out.more (stays_pl _ _) (stays_rf _ _) (B10.out.trans (b11.mono B10.out.size)))
            clear b11 B10 CE
            go_wp2_with fail
            go_roundw
            case rel => exact ⟨x + 1, by omega, by omega, rfl, PX⟩
            case measure => simp [intOf]; omega
          | false =>
            go_wp2_with fail
            go_roundw
            case rel => exact ⟨k + 1, P2, r2, by omega, by go_num, RL2, HF2, PR⟩
            case measure => simp [intOf]; omega
    · go_wp2_with fail
      go_ret
      exact ⟨rfl, HPr.out.low⟩


set_option maxRecDepth 100000 in
theorem marksRun_lifted (os : Os) (started : os.Started) (H : Type) (enc : TypeId × Value → H) :
    ReturnsInHanded {} Try.checked os 4 .any (Rows.marksRunSpec.pre6 enc Try.prog Try.f4 Rows.marksRunRow.domain false) (Rows.marksRunSpec.post enc Try.prog Try.f4 false true false false) := by
  refine returnsInHanded_of_change (C := Try.checked) own started (by kernel_rfl) Try.func4
    (ChangeSpec.witness6 (enc := enc) (C := Try.checked) false ⟨#[], #[.int .i64 0, .slice none 0 0], []⟩ 8 (by kernel_rfl) (by kernel_rfl) (by kernel_rfl) (by kernel_rfl)) ?_
  intro W base args ds gs before hval0 hW _ _
  have hval : ∀ (j : Nat) t v, Try.f4.params[j]? = some t → args[j]? = some v → Value.okWide Try.prog W .any base t v := hval0
  have hW' := hW
  obtain ⟨p, q, hA0, hV, rfl, _, _⟩ := hW
  have hA : DataW.TrodAll enc Try.prog W 0 (fun _ => true) true Try.f4.params.toList args.toList ds p := hA0
  rw [Try.params4] at hA hval
  obtain ⟨v0, vs0, d0, ds0, p0, q_0, hargs, rfl, rfl, h0, r0⟩ := trodAll_cons hA
  obtain ⟨v1, vs1, d1, ds1, p1, q_1, rfl, rfl, rfl, h1, r1⟩ := trodAll_cons r0
  obtain ⟨rfl, rfl, rfl⟩ := trodAll_nil r1
  obtain rfl : args = #[v0, v1] := by cases args; simp_all
  obtain ⟨rfl, rfl⟩ := trodVars_none hV
  clear hA0 hval0
  simp only [List.append_nil] at hW'
  obtain ⟨a0, rfl, rfl, rfl, w0⟩ := open_int Try.underlying3 (hval 0 3 v0 rfl rfl) h0
  obtain ⟨q1, cap1, l1, rfl, hS1, hm1⟩ := acts_of_trod (hval 1 33 v1 rfl rfl) h1
  have hlt1 : ∀ x ∈ p1, x.block < W.heap.size := fun x hx => by simpa using hW'.lt x (by simpa using (by simp [hx]))
  refine (run_walk a0 q1 cap1 l1 W hS1).mono fun e W' ⟨he, hb⟩ => ?_
  subst he
  have hT : DataW.TrodAll enc Try.prog W' 0 (fun b => decide (b < W.heap.size)) true _ _ _ _ := (trodAll_cons_mk (shut_int Try.underlying3 w0) (trodAll_cons_mk (Below.trod laidOut (by kernel_rfl) (of_decide_eq_true (by kernel_rfl)) h1 hb hlt1) trodAll_mk0))
  simp only [List.append_nil] at hT
  exact ⟨_, rfl, _, _, _, [], p1, [], hW', trodAll_mk1 (shut_bool Try.underlying4 _), hT, rfl, hb.frame _, fun h => by cases h⟩

theorem marksRun_holds : Rows.MarksRunSaid :=
  OpenClaim.holds_of_wide 4 Try.f4 rfl rfl rfl rfl rfl rfl rfl ⟨rfl, rfl, rfl, rfl, rfl⟩ rfl rfl rfl rfl rfl (by kernel_rfl) Try.func4 (by kernel_rfl)
    (of_decide_eq_true (by kernel_rfl)) (by unfold Func.isWrapper; first | (rw [if_pos (by decide +kernel)]; kernel_rfl) | (rw [if_neg (by decide +kernel)]; exact ⟨rfl, rfl⟩))
    (fun os started H enc _ => marksRun_lifted os started H enc)
#print axioms marksRun_holds


end Go.Proofs.Ytfcjgbkpefcajaa
