/- PlateRuns: the law returns true for any number of cells and any list of acts: whatever is written and lost, the plate answers as the document's does, and all cells are the same. It has no conditions. -/
import Derived.Test.YtnnikgchffkalaaArgs
import Derived.Test.YtnnikgchffkalaaRel
import Derived.Deep.DeepCutAuto
namespace Go.Proofs.Ytnnikgchffkalaa
open Go.ChangeShapes Go.WideShapes Go.ChangeAt Go.RowKit

attribute [local go_sem ↓] ld26 ld66 st26 st66 bx26 al26 al66 bd26 bd66 bs61 bs48 mk48 eq26 ap61 ap48 ap49 cp46 cp48
attribute [local go_sem] bx_agg al_cell al_wr bd_zero bd_one bd_two bd_nine

def acA (x : Ac) : Array Value := #[.int .i64 x.kind, .int .i64 x.at_, .int .i64 x.torn, .int .u8 (x.v : Int)]
theorem ac_cells {w : World} {b : Nat} {x : Ac} (h : w.heap[b]? = some (.cells (acA x) 38 (0, 0))) : w.cell? ⟨b, 0, none⟩ = some (.int .i64 x.kind) ∧ w.cell? ⟨b, 1, none⟩ = some (.int .i64 x.at_) ∧ w.cell? ⟨b, 2, none⟩ = some (.int .i64 x.torn) ∧ w.cell? ⟨b, 3, none⟩ = some (.int .u8 (x.v : Int)) := by
  unfold acA at h
  simp [World.cell?, h]

/-- A cell in a local variable. -/
theorem local_cell {w : World} {c : List Nat} (hc : IsCell c) : ∃ w', StR 26 (.pointer (some ⟨w.heap.size, 0, none⟩)) (.agg (arr c)) (w.alloc (.cells (arr zeroC) 26)) = .ok .skip w' ∧ RowAt w' w.heap.size 26 (c.map bv) ∧ Below w.heap.size w w' ∧ w'.heap.size = w.heap.size + 1 := by
  obtain ⟨w', h1, h2, h3⟩ := st_block zeroC_len hc.len (cell_block w zeroC)
  exact ⟨w', h1, h2, ((Below.refl w.heap.size w).alloc (Nat.le_refl _) _).trans (h3.below (Nat.le_refl _)), h3.size.trans (by simp)⟩

theorem get_cell {P : Pl} (h : P.Good) (i : Int) : IsCell (P.get i) := by
  unfold Pl.get
  cases hh : P.has i with
  | false => exact zeroC_is
  | true =>
    simp only [Pl.has, Bool.and_eq_true, decide_eq_true_eq] at hh
    exact getD_cell h.cl (by rw [h.size]; omega)

theorem put_few (P : Pl) (i : Int) (c : List Nat) : (P.put i c).2.loose.length ≤ P.loose.length + 1 := by
  unfold Pl.put
  rcases P.spend_cases with ⟨e1, _, _, e⟩ | ⟨e1, e⟩
  · rw [e1]
    cases P.has i <;> simp
  · rw [e1, e]
    cases P.has i <;> simp
theorem flush_few (P : Pl) : P.flush.2.loose.length ≤ P.loose.length := by
  unfold Pl.flush
  rcases P.spend_cases with ⟨e1, _, _, e⟩ | ⟨e1, e⟩
  · rw [e1]; simp
  · rw [e1, e]; simp

theorem quiet_same {f : FuncId} {args : Array Value} {v : Value} {w : World} {n : Nat} (h : Calls Try.prog f args (w.drewN n) (Same v (w.drewN n))) : Calls Try.prog f args (w.drewN n) fun e w'' => e = .returned v ∧ ∃ m, w'' = w.drewN m :=
  h.mono fun _ _ ⟨he, hm⟩ => ⟨he, n, hm.symm⟩
theorem drewN_keep (w : World) (n : Nat) : Below w.heap.size w (w.drewN n) := ⟨rfl, rfl, rfl, Nat.le_refl _, fun _ _ => rfl⟩

/-- Fail with two bytes that the law lays out. -/
theorem pair_bytes {w0 w : World} {g : Nat} {P : Pl} {r : Rf} {g2 : Nat} {L : Nat → Prop} (h : Pair w0 w (atPl g P) (atRf g2 r) L) (v nv : Nat) (hb : Bytes [v, nv]) (torn at_ : Int) :
    Calls Try.prog 22 #[ptr g, .slice (some ⟨w.heap.size, 0, none⟩) 2 2, .int .i64 torn, .int .i64 at_] (w.alloc (.cells #[.int .u8 (v : Int), .int .u8 (nv : Int)] 5)) (fun e w' => e = .returned (.tuple #[]) ∧ Pair w0 w' (atPl g (P.fail [v, nv] torn at_)) (atRf g2 r) L ∧ ∀ k, L k → w'.heap[k]? = w.heap[k]?) := by
  have ba := (Below.refl w.heap.size w).alloc (Nat.le_refl _) (.cells #[.int .u8 (v : Int), .int .u8 (nv : Int)] 5)
  have h' := h.below (stays_pl _ _) (stays_rf _ _) ba (M := fun k => L k ∨ k = w.heap.size) (fun k hk => hk.elim .inl (fun e => .inr ⟨by omega, by rw [e]; simp⟩))
  have hl : ∀ k, L k → k < w.heap.size := by obtain ⟨_, _, _, _, _, _, h5, _⟩ := h; exact h5
  refine (h'.fail (stays_rf _ _) (some ⟨w.heap.size, 0, none⟩) 2 [v, nv] (bytes_block [v, nv] hb (by simp) w 5 (0, 0)) (fun _ b o e => by injection e with e; injection e with e1; subst e1; exact .inr (.inr rfl)) torn at_).mono ?_
  rintro e w' ⟨rfl, hp, hk⟩
  exact ⟨rfl, hp.mono (fun k hk => .inl hk), fun k hk2 => (hk k (.inl hk2)).trans (ba.block k (hl k hk2))⟩
theorem pair_bytes2 {w0 w : World} {g : Nat} {P : Pl} {r : Rf} {g2 : Nat} {L : Nat → Prop} (h : Pair w0 w (atPl g P) (atRf g2 r) L) (hlen : r.ats.length = r.what.length) (v nv : Nat) (hb : Bytes [v, nv]) (torn at_ : Int) :
    Calls Try.prog 23 #[ptr g2, .slice (some ⟨w.heap.size, 0, none⟩) 2 2, .int .i64 torn, .int .i64 at_] (w.alloc (.cells #[.int .u8 (v : Int), .int .u8 (nv : Int)] 5)) (fun e w' => e = .returned (.tuple #[]) ∧ Pair w0 w' (atPl g P) (atRf g2 (r.fail [v, nv] torn at_)) L ∧ ∀ k, L k → w'.heap[k]? = w.heap[k]?) := by
  have ba := (Below.refl w.heap.size w).alloc (Nat.le_refl _) (.cells #[.int .u8 (v : Int), .int .u8 (nv : Int)] 5)
  have h' := h.below (stays_pl _ _) (stays_rf _ _) ba (M := fun k => L k ∨ k = w.heap.size) (fun k hk => hk.elim .inl (fun e => .inr ⟨by omega, by rw [e]; simp⟩))
  have hl : ∀ k, L k → k < w.heap.size := by obtain ⟨_, _, _, _, _, _, h5, _⟩ := h; exact h5
  refine (h'.refFail (stays_pl _ _) hlen (some ⟨w.heap.size, 0, none⟩) 2 [v, nv] (bytes_block [v, nv] hb (by simp) w 5 (0, 0)) (fun _ b o e => by injection e with e; injection e with e1; subst e1; exact .inr (.inr rfl)) torn at_).mono ?_
  rintro e w' ⟨rfl, hp, hk⟩
  exact ⟨rfl, hp.mono (fun k hk => .inl hk), fun k hk2 => (hk k (.inl hk2)).trans (ba.block k (hl k hk2))⟩

set_option maxRecDepth 100000 in
set_option maxHeartbeats 32000000 in
theorem runs_walk (cells : Int) (a : Option Addr) (cap : Nat) (l : List Ac) (w : World) (h1 : ActsP w a cap l) : Calls Try.prog 4 #[.int .i64 cells, .slice a l.length cap] w (TrueB w) := by
  have H1 := Lib.hid h1
  clear h1
  cases t0 : decide (60 < cells) with
  | true =>
    go_enter Try.func4, Try.ntmps4
    go_wp2_with fail
    refine (alive_any _).mono ?_
    rintro e w1 ⟨rfl, b1⟩
    go_wp2_with fail
    go_ret
    exact ⟨rfl, b1⟩
  | false =>
  cases t1 : decide (200 < (l.length : Int)) with
  | true =>
    go_enter Try.func4, Try.ntmps4
    go_wp2_with fail
    refine (alive_any _).mono ?_
    rintro e w1 ⟨rfl, b1⟩
    go_wp2_with fail
    go_ret
    exact ⟨rfl, b1⟩
  | false =>
  have n1 : l.length ≤ 200 := by simp at t1; omega
  go_enter Try.func4, Try.ntmps4
  go_wp2_with fail
  refine (alive_any _).mono ?_
  rintro e w1 ⟨rfl, b1⟩
  have N1 := Lib.hid (new_any cells w1)
  have N2 := Lib.hid (fun W => refNew_any cells W)
  have B1 := Lib.hid b1
  generalize clampN cells 4096 = m at N1 N2
  clear b1
  go_wp2_with fail
  refine N1.out.mono ?_
  rintro e w2 ⟨g1, rfl, p2, b2⟩
  have PP := Lib.hid p2
  have B2 := Lib.hid b2
  clear p2 b2 N1
  go_wp2_with fail
  refine (N2.out _).mono ?_
  rintro e w3 ⟨g2, rfl, p3, b3⟩
  have HP := Lib.hid (pair_new2 (L := fun _ => False) B1.out (fun _ e => e.elim) PP.out B2.out p3 b3)
  have RL0 := Lib.hid (rel_new m)
  have F0 := Lib.hid (show (Pl.new m).loose.length ≤ 0 from Nat.le_refl _)
  generalize Pl.new m = P0 at *
  generalize Rf.new m = r0 at *
  clear p3 b3 PP B2 B1 N2 t0 t1
  go_wp2_with fail
  go_loopw [33] (fun i wr => ∃ (k : Nat) (P : Pl) (r : Rf), k ≤ l.length ∧ i = .int .i64 k ∧ Hid (Rel r P) ∧ Hid (P.loose.length ≤ k) ∧ Hid (Pair w wr (atPl g1 P) (atRf g2 r) (fun _ => False))) (fun i _ => l.length - (intOf i).toNat)
  case atStart => exact ⟨0, P0, r0, Nat.zero_le _, rfl, RL0, F0, HP⟩
  case round =>
    clear HP RL0 F0
    obtain ⟨k, P, r, hk, rfl, HRl, HF, HPr⟩ := hrel
    by_cases hlt : k < l.length
    · obtain ⟨b1, o1, rfl, q1, r1⟩ := (H1.out.below HPr.out.low).cell (by intro e; subst e; simp at hlt)
      obtain ⟨d0, d1, d2, d3⟩ := r1 k _ (List.getElem?_eq_getElem hlt)
      have p1 := H1.out.cap
      have hx := H1.out.each _ (List.getElem_mem hlt)
      have hxv := hx.v
      have hxh := hx.high
      generalize l[k] = ac at *
      obtain ⟨kind, at_, torn, v⟩ := ac
      simp only at d0 d1 d2 d3 hxv hxh
      have AT0 := Lib.hid (show (wr.alloc (.cells #[.int .i64 kind, .int .i64 at_, .int .i64 torn, .int .u8 (v : Int)] 38)).heap[wr.heap.size]? = some (.cells (acA ⟨kind, at_, torn, v⟩) 38 (0, 0)) from heap_alloc_new wr _)
      have ba := (Below.refl wr.heap.size wr).alloc (Nat.le_refl _) (.cells #[.int .i64 kind, .int .i64 at_, .int .i64 torn, .int .u8 (v : Int)] 38)
      have PA0 := Lib.hid (HPr.out.below (stays_pl _ _) (stays_rf _ _) ba (M := fun k => k = wr.heap.size) (fun k hk => .inr ⟨by omega, by rw [hk]; simp⟩))
      have vw := ac_cells (x := ⟨kind, at_, torn, v⟩) AT0.out
      simp only at vw
      obtain ⟨v0, v1, v2, v3⟩ := vw
      clear r1 ba hx
      cases t0 : (kind == 0) with
      | true =>
        have hlo : P.loose.length < 100000 := by have := HF.out; omega
        have hla : r.ats.length < 100000 := by rw [HRl.out.ats, List.length_map]; exact hlo
        have hlw : r.what.length < 100000 := by rw [HRl.out.what, List.length_map]; exact hlo
        have CC := Lib.hid (fun W => cell_any v hxv W)
        have ic := cellV_is hxv
        generalize cellV v = c at *
        have hre := HRl.out.put HPr.out.good at_ c
        have CP := Lib.hid (fun W (b : Below (wr.alloc (.cells #[.int .i64 kind, .int .i64 at_, .int .i64 torn, .int .u8 (v : Int)] 38)).drew.heap.size (wr.alloc (.cells #[.int .i64 kind, .int .i64 at_, .int .i64 torn, .int .u8 (v : Int)] 38)).drew W) => ((PA0.out.more (stays_pl _ _) (stays_rf _ _) (Below.refl _ _).drew).more (stays_pl _ _) (stays_rf _ _) b).put (stays_rf _ _) at_ ic hlo)
        have CQ := Lib.hid (fun W (h : Pair w W (atPl g1 (P.put at_ c).2) (atRf g2 r) (fun k => k = wr.heap.size)) => h.refPut (stays_pl _ _) at_ ic hla hlw)
        rw [hre.1] at CQ
        have RL2 := Lib.hid hre.2
        have HF2 := Lib.hid (show (P.put at_ c).2.loose.length ≤ k + 1 by have := put_few P at_ c; have := HF.out; omega)
        have AA := Lib.hid (show (wr.alloc (.cells #[.int .i64 kind, .int .i64 at_, .int .i64 torn, .int .u8 (v : Int)] 38)).drew.heap[wr.heap.size]? = some (.cells (acA ⟨kind, at_, torn, v⟩) 38 (0, 0)) from AT0.out)
        have AAlt := Lib.hid (show wr.heap.size < (wr.alloc (.cells #[.int .i64 kind, .int .i64 at_, .int .i64 torn, .int .u8 (v : Int)] 38)).drew.heap.size by show wr.heap.size < (wr.alloc _).heap.size; simp)
        generalize (P.put at_ c).1 = er at *
        generalize (P.put at_ c).2 = P2 at *
        generalize (r.put at_ c).2 = r2 at *
        clear hre
        go_wp2_with fail
        go_cut [9] (fun s9 wx => s9 = .int .i64 er ∧ Hid (Pair w wx (atPl g1 P2) (atRf g2 r) (fun k => k = wr.heap.size)) ∧ Hid (wx.heap[wr.heap.size]? = some (.cells (acA ⟨kind, at_, torn, v⟩) 38 (0, 0))))
        case first =>
          go_region_law (first
            | (go_simp; go_at_call 17; refine (CC.out _).mono ?_; rintro e w4 ⟨rfl, b4⟩
               have B4 := Lib.hid b4
               have AA4 := Lib.hid ((b4.block wr.heap.size (AAlt.out)).trans AA.out)
               have vv := ac_cells (x := ⟨kind, at_, torn, v⟩) AA4.out
               simp only at vv
               obtain ⟨v0', v1', v2', v3'⟩ := vv
               clear b4)
            | (go_simp; go_at_call 11; refine (CP.out _ B4.out).mono ?_; rintro e w5 ⟨rfl, p5, k5⟩
               have P5 := Lib.hid p5
               have K5 := Lib.hid k5
               clear p5 k5))
          all_goals
            go_wp2_with fail
            go_meet
            exact ⟨rfl, P5, Lib.hid ((K5.out _ rfl).trans AA4.out)⟩
        case rest =>
          obtain ⟨rfl, P5, AC5⟩ := hcut
          have CP2 := Lib.hid (fun W (b : Below wc.drew.heap.size wc.drew W) => CQ.out W ((P5.out.more (stays_pl _ _) (stays_rf _ _) (Below.refl _ _).drew).more (stays_pl _ _) (stays_rf _ _) b))
          have AA2 := Lib.hid (show wc.drew.heap[wr.heap.size]? = some (.cells (acA ⟨kind, at_, torn, v⟩) 38 (0, 0)) from AC5.out)
          have AA2lt := Lib.hid (show wr.heap.size < wc.drew.heap.size from (Array.getElem?_eq_some_iff.1 AC5.out).1)
          have vw := ac_cells (x := ⟨kind, at_, torn, v⟩) AC5.out
          simp only at vw
          obtain ⟨z0, z1, z2, z3⟩ := vw
          clear v0 v1 v2 v3 CP PA0 AT0 AA AAlt CQ
          generalize wc = w8 at *
          go_wp2_with fail
          go_region_law (first
            | (go_simp; go_at_call 17; refine (CC.out _).mono ?_; rintro e u4 ⟨rfl, b4⟩
               have B4 := Lib.hid b4
               have AA4 := Lib.hid ((b4.block wr.heap.size (AA2lt.out)).trans AA2.out)
               have vv := ac_cells (x := ⟨kind, at_, torn, v⟩) AA4.out
               simp only at vv
               obtain ⟨v0', v1', v2', v3'⟩ := vv
               clear b4)
            | (go_simp; go_at_call 18; refine (CP2.out _ B4.out).mono ?_; rintro e u5 ⟨rfl, p5, k5⟩
               have P5 := Lib.hid p5
               have K5 := Lib.hid k5
               clear p5 k5))
          all_goals
            have P6 := P5
            clear AC5 CP2 AA2 AA2lt z0 z1 z2 z3 CC ic B4 AA4 K5 v0' v1' v2' v3'
            obtain ⟨aa, ca, al, cl, f2, f4, f1⟩ := P6.out.refCells
            rw [show r2.ats.length = P2.loose.length by rw [RL2.out.ats, List.length_map]] at f2
            rw [RL2.out.off] at f4
            rw [show r2.seen.length = P2.sure.length by rw [RL2.out.seen, P6.out.good.size]] at f1
            have Q24 := Lib.hid (fun n => quiet_same (P6.out.more (stays_pl _ _) (stays_rf _ _) (drewN_keep u5 n)).loose)
            have Q14 := Lib.hid (fun n => quiet_same (P6.out.more (stays_pl _ _) (stays_rf _ _) (drewN_keep u5 n)).off)
            have Q15 := Lib.hid (fun n => quiet_same (P6.out.more (stays_pl _ _) (stays_rf _ _) (drewN_keep u5 n)).len)
            have PN := Lib.hid (fun n => (P6.out.more (stays_pl _ _) (stays_rf _ _) (drewN_keep u5 n)).mono (M := fun _ => False) (fun _ e => e.elim))
            go_wp2_with fail
            go_quiet ((first | (go_at_call 24; exact Q24.out _) | (go_at_call 14; exact Q14.out _) | (go_at_call 15; exact Q15.out _)))
            go_wp2_with fail
            go_roundw
            case rel => exact ⟨k + 1, P2, r2, by omega, by go_num, RL2, HF2, Lib.hid (PN.out _)⟩
            case measure => simp [intOf]; omega
      | false =>
      cases t1 : (kind == 1) with
      | true =>
        have hre := HRl.out.flush
        have CP := Lib.hid (PA0.out.flush (stays_rf _ _))
        have CQ := Lib.hid (fun W (h : Pair w W (atPl g1 P.flush.2) (atRf g2 r) (fun k => k = wr.heap.size)) => h.refFlush (stays_pl _ _))
        rw [hre.1] at CQ
        have RL2 := Lib.hid hre.2
        have HF2 := Lib.hid (show P.flush.2.loose.length ≤ k + 1 by have := flush_few P; have := HF.out; omega)
        generalize P.flush.1 = er at *
        generalize P.flush.2 = P2 at *
        generalize r.flush.2 = r2 at *
        clear hre
        go_wp2_with fail
        refine CP.out.mono ?_
        rintro e w4 ⟨rfl, p4, k4⟩
        have C2 := Lib.hid (CQ.out _ p4)
        clear p4 k4 CP CQ PA0 AT0 v0 v1 v2 v3
        go_wp2_with fail
        refine C2.out.mono ?_
        rintro e w5 ⟨rfl, p5, k5⟩
        have P6 := Lib.hid p5
        clear p5 k5 C2
        obtain ⟨aa, ca, al, cl, f2, f4, f1⟩ := P6.out.refCells
        rw [show r2.ats.length = P2.loose.length by rw [RL2.out.ats, List.length_map]] at f2
        rw [RL2.out.off] at f4
        rw [show r2.seen.length = P2.sure.length by rw [RL2.out.seen, P6.out.good.size]] at f1
        have Q24 := Lib.hid (fun n => quiet_same (P6.out.more (stays_pl _ _) (stays_rf _ _) (drewN_keep w5 n)).loose)
        have Q14 := Lib.hid (fun n => quiet_same (P6.out.more (stays_pl _ _) (stays_rf _ _) (drewN_keep w5 n)).off)
        have Q15 := Lib.hid (fun n => quiet_same (P6.out.more (stays_pl _ _) (stays_rf _ _) (drewN_keep w5 n)).len)
        have PN := Lib.hid (fun n => (P6.out.more (stays_pl _ _) (stays_rf _ _) (drewN_keep w5 n)).mono (M := fun _ => False) (fun _ e => e.elim))
        go_wp2_with fail
        go_quiet ((first | (go_at_call 24; exact Q24.out _) | (go_at_call 14; exact Q14.out _) | (go_at_call 15; exact Q15.out _)))
        go_wp2_with fail
        go_roundw
        case rel => exact ⟨k + 1, P2, r2, by omega, by go_num, RL2, HF2, Lib.hid (PN.out _)⟩
        case measure => simp [intOf]; omega
      | false =>
      cases t2 : (kind == 2) with
      | true =>
        have hre := HRl.out.get HPr.out.good at_
        have CG := Lib.hid (PA0.out.get at_)
        have CR := Lib.hid (fun W (b : Below (wr.alloc (.cells #[.int .i64 kind, .int .i64 at_, .int .i64 torn, .int .u8 (v : Int)] 38)).heap.size (wr.alloc (.cells #[.int .i64 kind, .int .i64 at_, .int .i64 torn, .int .u8 (v : Int)] 38)) W) => (PA0.out.more (stays_pl _ _) (stays_rf _ _) b).refGet at_)
        rw [hre.1, hre.2] at CR
        have ig := get_cell HPr.out.good at_
        have HF2 := Lib.hid (show P.loose.length ≤ k + 1 by have := HF.out; omega)
        generalize P.get at_ = c at *
        generalize P.getE at_ = er at *
        clear hre
        go_wp2_with fail
        refine CG.out.mono ?_
        rintro e w4 ⟨rfl, b4⟩
        obtain ⟨w5, s5, r5, b5, z5⟩ := local_cell (w := w4) ig
        have b5' := b4.trans (b5.mono b4.size)
        have C2 := Lib.hid (CR.out _ b5')
        have R5 := Lib.hid r5
        have B5 := Lib.hid b5'
        have vw := ac_cells (x := ⟨kind, at_, torn, v⟩) ((b5'.block wr.heap.size (by simp)).trans AT0.out)
        simp only at vw
        obtain ⟨z0, z1, z2, z3⟩ := vw
        clear b4 r5 b5 z5 b5' CG CR v0 v1 v2 v3
        go_wp2_with fail
        refine C2.out.mono ?_
        rintro e w6 ⟨rfl, b6⟩
        obtain ⟨w7, s7, r7, b7, z7⟩ := local_cell (w := w6) ig
        have b7' := b6.trans (b7.mono b6.size)
        have r5' := R5.out.same (b7'.block _ R5.out.lt)
        have LX := ld_block ig.len r5'
        have LY := ld_block ig.len r7
        have NE := fun a b => ne_cell w7 ig ig a b
        have P6 := Lib.hid ((PA0.out.more (stays_pl _ _) (stays_rf _ _) B5.out).more (stays_pl _ _) (stays_rf _ _) b7')
        clear C2 b6 r7 b7 z7 b7' r5' R5 B5 PA0 AT0 z0 z1 z2 z3
        obtain ⟨aa, ca, al, cl, f2, f4, f1⟩ := P6.out.refCells
        rw [show r.ats.length = P.loose.length by rw [HRl.out.ats, List.length_map]] at f2
        rw [HRl.out.off] at f4
        rw [show r.seen.length = P.sure.length by rw [HRl.out.seen, P6.out.good.size]] at f1
        have Q24 := Lib.hid (fun n => quiet_same (P6.out.more (stays_pl _ _) (stays_rf _ _) (drewN_keep w7 n)).loose)
        have Q14 := Lib.hid (fun n => quiet_same (P6.out.more (stays_pl _ _) (stays_rf _ _) (drewN_keep w7 n)).off)
        have Q15 := Lib.hid (fun n => quiet_same (P6.out.more (stays_pl _ _) (stays_rf _ _) (drewN_keep w7 n)).len)
        have PN := Lib.hid (fun n => (P6.out.more (stays_pl _ _) (stays_rf _ _) (drewN_keep w7 n)).mono (M := fun _ => False) (fun _ e => e.elim))
        go_wp2_with fail
        go_quiet ((first | (go_at_call 24; exact Q24.out _) | (go_at_call 14; exact Q14.out _) | (go_at_call 15; exact Q15.out _)))
        go_wp2_with fail
        go_roundw
        case rel => exact ⟨k + 1, P, r, by omega, by go_num, HRl, HF2, Lib.hid (PN.out _)⟩
        case measure => simp [intOf]; omega
      | false =>
      cases t3 : (kind == 3) with
      | true =>
        have CP := Lib.hid (PA0.out.limit (stays_rf _ _) at_ hxh)
        have CQ := Lib.hid (fun W (h : Pair w W (atPl g1 (P.limit at_)) (atRf g2 r) (fun k => k = wr.heap.size)) => h.refLimit (stays_pl _ _) at_ hxh)
        have RL2 := Lib.hid (HRl.out.limit at_)
        have HF2 := Lib.hid (show (P.limit at_).loose.length ≤ k + 1 by have := HF.out; show P.loose.length ≤ k + 1; omega)
        generalize P.limit at_ = P2 at *
        generalize r.limit at_ = r2 at *
        go_wp2_with fail
        refine CP.out.mono ?_
        rintro e w4 ⟨rfl, p4, k4⟩
        have C2 := Lib.hid (CQ.out _ p4)
        have vw := ac_cells (x := ⟨kind, at_, torn, v⟩) ((k4 wr.heap.size rfl).trans AT0.out)
        simp only at vw
        obtain ⟨z0, z1, z2, z3⟩ := vw
        clear p4 k4 CP CQ PA0 v0 v1 v2 v3
        go_wp2_with fail
        refine C2.out.mono ?_
        rintro e w5 ⟨rfl, p5, k5⟩
        have P6 := Lib.hid p5
        clear p5 k5 C2 z0 z1 z2 z3 AT0
        obtain ⟨aa, ca, al, cl, f2, f4, f1⟩ := P6.out.refCells
        rw [show r2.ats.length = P2.loose.length by rw [RL2.out.ats, List.length_map]] at f2
        rw [RL2.out.off] at f4
        rw [show r2.seen.length = P2.sure.length by rw [RL2.out.seen, P6.out.good.size]] at f1
        have Q24 := Lib.hid (fun n => quiet_same (P6.out.more (stays_pl _ _) (stays_rf _ _) (drewN_keep w5 n)).loose)
        have Q14 := Lib.hid (fun n => quiet_same (P6.out.more (stays_pl _ _) (stays_rf _ _) (drewN_keep w5 n)).off)
        have Q15 := Lib.hid (fun n => quiet_same (P6.out.more (stays_pl _ _) (stays_rf _ _) (drewN_keep w5 n)).len)
        have PN := Lib.hid (fun n => (P6.out.more (stays_pl _ _) (stays_rf _ _) (drewN_keep w5 n)).mono (M := fun _ => False) (fun _ e => e.elim))
        go_wp2_with fail
        go_quiet ((first | (go_at_call 24; exact Q24.out _) | (go_at_call 14; exact Q14.out _) | (go_at_call 15; exact Q15.out _)))
        go_wp2_with fail
        go_roundw
        case rel => exact ⟨k + 1, P2, r2, by omega, by go_num, RL2, HF2, Lib.hid (PN.out _)⟩
        case measure => simp [intOf]; omega
      | false =>
      cases t4 : (kind == 4) with
      | true =>
        obtain ⟨nv, hnv, hnb⟩ : ∃ nv : Nat, bits .xor .u8 IntKind.u8.max (v : Int) = (nv : Int) ∧ nv < 256 := ⟨255 ^^^ v, u8_xor_nat 255 v (by decide) hxv, Nat.xor_lt_two_pow (n := 8) (by omega) (by omega)⟩
        have hsg : IntKind.u8.signed = false := rfl
        have hlen : r.ats.length = r.what.length := by rw [HRl.out.ats, HRl.out.what, List.length_map, List.length_map]
        have bb : Bytes [v, nv] := fun b hb => by simp at hb; omega
        have CP := Lib.hid (pair_bytes PA0.out v nv bb torn at_)
        rw [show (wr.alloc (.cells #[.int .i64 kind, .int .i64 at_, .int .i64 torn, .int .u8 (v : Int)] 38)).heap.size = wr.heap.size + 1 by simp] at CP
        have CQ := Lib.hid (fun W (h : Pair w W (atPl g1 (P.fail [v, nv] torn at_)) (atRf g2 r) (fun k => k = wr.heap.size)) => pair_bytes2 h hlen v nv bb torn at_)
        have RL2 := Lib.hid (HRl.out.fail [v, nv] torn at_)
        have HF2 := Lib.hid (show (P.fail [v, nv] torn at_).loose.length ≤ k + 1 by show 0 ≤ k + 1; omega)
        generalize P.fail [v, nv] torn at_ = P2 at *
        generalize r.fail [v, nv] torn at_ = r2 at *
        clear hlen bb
        go_wp2_with fail
        refine CP.out.mono ?_
        rintro e w4 ⟨rfl, p4, k4⟩
        have C2 := Lib.hid (CQ.out _ p4)
        have at4 := (k4 wr.heap.size rfl).trans AT0.out
        have lt4 := (Array.getElem?_eq_some_iff.1 at4).1
        have vw := ac_cells (x := ⟨kind, at_, torn, v⟩) at4
        simp only at vw
        obtain ⟨z0, z1, z2, z3⟩ := vw
        have vy := ac_cells (x := ⟨kind, at_, torn, v⟩) ((((Below.refl w4.heap.size w4).alloc (Nat.le_refl _) (.cells #[.int .u8 (v : Int), .int .u8 (nv : Int)] 5)).block wr.heap.size lt4).trans at4)
        simp only at vy
        obtain ⟨y0, y1, y2, y3⟩ := vy
        clear p4 k4 at4 CP CQ PA0 v0 v1 v2 v3
        go_wp2_with fail
        refine C2.out.mono ?_
        rintro e w5 ⟨rfl, p5, k5⟩
        have P6 := Lib.hid p5
        clear p5 k5 C2 z0 z1 z2 z3 y0 y1 y2 y3 lt4 AT0 hnv
        obtain ⟨aa, ca, al, cl, f2, f4, f1⟩ := P6.out.refCells
        rw [show r2.ats.length = P2.loose.length by rw [RL2.out.ats, List.length_map]] at f2
        rw [RL2.out.off] at f4
        rw [show r2.seen.length = P2.sure.length by rw [RL2.out.seen, P6.out.good.size]] at f1
        have Q24 := Lib.hid (fun n => quiet_same (P6.out.more (stays_pl _ _) (stays_rf _ _) (drewN_keep w5 n)).loose)
        have Q14 := Lib.hid (fun n => quiet_same (P6.out.more (stays_pl _ _) (stays_rf _ _) (drewN_keep w5 n)).off)
        have Q15 := Lib.hid (fun n => quiet_same (P6.out.more (stays_pl _ _) (stays_rf _ _) (drewN_keep w5 n)).len)
        have PN := Lib.hid (fun n => (P6.out.more (stays_pl _ _) (stays_rf _ _) (drewN_keep w5 n)).mono (M := fun _ => False) (fun _ e => e.elim))
        go_wp2_with fail
        go_quiet ((first | (go_at_call 24; exact Q24.out _) | (go_at_call 14; exact Q14.out _) | (go_at_call 15; exact Q15.out _)))
        go_wp2_with fail
        go_roundw
        case rel => exact ⟨k + 1, P2, r2, by omega, by go_num, RL2, HF2, Lib.hid (PN.out _)⟩
        case measure => simp [intOf]; omega
      | false =>
      have HF2 := Lib.hid (show P.loose.length ≤ k + 1 by have := HF.out; omega)
      obtain ⟨aa, ca, al, cl, f2, f4, f1⟩ := PA0.out.refCells
      rw [show r.ats.length = P.loose.length by rw [HRl.out.ats, List.length_map]] at f2
      rw [HRl.out.off] at f4
      rw [show r.seen.length = P.sure.length by rw [HRl.out.seen, PA0.out.good.size]] at f1
      have Q24 := Lib.hid (fun n => quiet_same (PA0.out.more (stays_pl _ _) (stays_rf _ _) (drewN_keep (wr.alloc (.cells #[.int .i64 kind, .int .i64 at_, .int .i64 torn, .int .u8 (v : Int)] 38)) n)).loose)
      have Q14 := Lib.hid (fun n => quiet_same (PA0.out.more (stays_pl _ _) (stays_rf _ _) (drewN_keep (wr.alloc (.cells #[.int .i64 kind, .int .i64 at_, .int .i64 torn, .int .u8 (v : Int)] 38)) n)).off)
      have Q15 := Lib.hid (fun n => quiet_same (PA0.out.more (stays_pl _ _) (stays_rf _ _) (drewN_keep (wr.alloc (.cells #[.int .i64 kind, .int .i64 at_, .int .i64 torn, .int .u8 (v : Int)] 38)) n)).len)
      have PN := Lib.hid (fun n => (PA0.out.more (stays_pl _ _) (stays_rf _ _) (drewN_keep (wr.alloc (.cells #[.int .i64 kind, .int .i64 at_, .int .i64 torn, .int .u8 (v : Int)] 38)) n)).mono (M := fun _ => False) (fun _ e => e.elim))
      go_wp2_with fail
      go_quiet ((first | (go_at_call 24; exact Q24.out _) | (go_at_call 14; exact Q14.out _) | (go_at_call 15; exact Q15.out _)))
      go_wp2_with fail
      go_roundw
      case rel => exact ⟨k + 1, P, r, by omega, by go_num, HRl, HF2, Lib.hid (PN.out _)⟩
      case measure => simp [intOf]; omega
    · have HG := Lib.hid HPr.out.good
      have hmost := HPr.out.good.most
      obtain ⟨aa, ca, al, cl, f2, f4, f1⟩ := HPr.out.refCells
      rw [show r.seen.length = P.sure.length by rw [HRl.out.seen, HPr.out.good.size]] at f1
      have PF := Lib.hid (HPr.out.mono (M := fun _ => False) (fun _ e => e))
      clear HPr HF H1
      go_wp2_with fail
      generalize wr = wa at *
      generalize k = k1 at *
      go_loopw [156] (fun i wr => ∃ (k : Nat), k ≤ P.sure.length ∧ i = .int .i64 k ∧ Hid (Pair w wr (atPl g1 P) (atRf g2 r) (fun _ => False))) (fun i _ => P.sure.length - (intOf i).toNat)
      case atStart => exact ⟨0, Nat.zero_le _, rfl, PF⟩
      case round =>
        clear PF f2 f4 f1
        obtain ⟨k, hk, rfl, HPr⟩ := hrel
        by_cases hlt : k < P.sure.length
        · have hh : P.has (k : Int) = true := by simp [Pl.has]; omega
          have CG := Lib.hid (show Calls Try.prog 10 #[ptr g1, .int .i64 (k : Int)] wr (fun e w' => e = .returned (.tuple #[.agg (arr (P.last.getD k [])), .int .i64 0]) ∧ Below wr.heap.size wr w') by
            have := HPr.out.get (k : Int)
            have e1 : P.get (k : Int) = P.last.getD k [] := by unfold Pl.get; rw [hh]; rfl
            have e2 : P.getE (k : Int) = 0 := by unfold Pl.getE; rw [hh]; rfl
            rw [e1, e2] at this
            exact this)
          have icx := getD_cell HG.out.cl (i := k) (by rw [HG.out.size]; exact hlt)
          have RS := Lib.hid (fun W (b : Below wr.heap.size wr W) => (HPr.out.more (stays_pl _ _) (stays_rf _ _) b).refSeen (k := k) (by rw [HRl.out.seen, HG.out.size]; exact hlt))
          rw [HRl.out.seen] at RS
          have LS := Lib.hid (rowL_cell HG.out.cl (i := k) (by rw [HG.out.size]; exact hlt))
          have HSZ := Lib.hid HG.out.size
          generalize P.last.getD k [] = cx at *
          clear hh
          go_wp2_with fail
          refine CG.out.mono ?_
          rintro e w4 ⟨rfl, b4⟩
          obtain ⟨w5, s5, r5, b5, z5⟩ := local_cell (w := w4) icx
          have b5' := b4.trans (b5.mono b4.size)
          obtain ⟨bl, cap, f1, _, _, rr, cc⟩ := RS.out _ b5'
          rw [HSZ.out] at f1
          have LX := fun n => ld_block (w := w5.drewN n) icx.len r5
          have LW := fun n => ld_cell (w := w5.drewN n) rr icx.len (LS.out)
          have EX := fun n a b => ne_cell (w5.drewN n) icx icx a b
          have PN := Lib.hid (fun n => HPr.out.more (stays_pl _ _) (stays_rf _ _) (w' := w5.drewN n) ⟨b5'.os, b5'.tape, b5'.output, b5'.size, b5'.block⟩)
          clear b4 b5 r5 z5 b5' rr cc CG RS LS HSZ HPr
          go_wp2_with fail
          go_quiet (fail)
          go_wp2_with fail
          go_roundw
          case rel => exact ⟨k + 1, by omega, by go_num, Lib.hid (PN.out _)⟩
          case measure => simp [intOf]; omega
        · go_wp2_with fail
          go_ret
          exact ⟨rfl, HPr.out.low⟩


set_option maxRecDepth 100000 in
theorem plateRuns_lifted (os : Os) (started : os.Started) (H : Type) (enc : TypeId × Value → H) :
    ReturnsInHanded {} Try.checked os 4 .any (Rows.plateRunsSpec.pre6 enc Try.prog Try.f4 Rows.plateRunsRow.domain false) (Rows.plateRunsSpec.post enc Try.prog Try.f4 false true false false) := by
  refine returnsInHanded_of_change (C := Try.checked) own started (by kernel_rfl) Try.func4
    (ChangeSpec.witness6 (enc := enc) (C := Try.checked) false ⟨#[], #[.int .i64 0, .slice none 0 0], []⟩ 8 (by kernel_rfl) (by kernel_rfl) (by kernel_rfl) (by kernel_rfl)) ?_
  intro W base args ds gs before hval0 hW _ _
  have hval : ∀ (j : Nat) t v, Try.f4.params[j]? = some t → args[j]? = some v → Value.okWide Try.prog W .any base t v := hval0
  have hW' := hW
  obtain ⟨p, q, hA0, hV, rfl, _, _⟩ := hW
  have hA : DataW.TrodAll enc Try.prog W 0 (fun _ => true) true Try.f4.params.toList args.toList ds p := hA0
  rw [Try.params4] at hA hval
  obtain ⟨v0, vs0, d0, ds0, p0, q_0, hargs, rfl, rfl, h0, r0⟩ := trodAll_cons hA
  obtain ⟨v1, vs1, d1, ds1, p1, q_1, rfl, rfl, rfl, h1, r1⟩ := trodAll_cons r0
  obtain ⟨rfl, rfl, rfl⟩ := trodAll_nil r1
  obtain rfl : args = #[v0, v1] := by cases args; simp_all
  obtain ⟨rfl, rfl⟩ := trodVars_none hV
  clear hA0 hval0
  simp only [List.append_nil] at hW'
  obtain ⟨a0, rfl, rfl, rfl, w0⟩ := open_int Try.underlying3 (hval 0 3 v0 rfl rfl) h0
  obtain ⟨q1, cap1, l1, rfl, hS1, hm1⟩ := acts_of_trod (hval 1 34 v1 rfl rfl) h1
  have hlt1 : ∀ x ∈ p1, x.block < W.heap.size := fun x hx => by simpa using hW'.lt x (by simpa using (by simp [hx]))
  refine (runs_walk a0 q1 cap1 l1 W hS1).mono fun e W' ⟨he, hb⟩ => ?_
  subst he
  have hT : DataW.TrodAll enc Try.prog W' 0 (fun b => decide (b < W.heap.size)) true _ _ _ _ := (trodAll_cons_mk (shut_int Try.underlying3 w0) (trodAll_cons_mk (Below.trod laidOut (by kernel_rfl) (of_decide_eq_true (by kernel_rfl)) h1 hb hlt1) trodAll_mk0))
  simp only [List.append_nil] at hT
  exact ⟨_, rfl, _, _, _, [], p1, [], hW', trodAll_mk1 (shut_bool Try.underlying4 _), hT, rfl, hb.frame _, fun h => by cases h⟩

theorem plateRuns_holds : Rows.PlateRunsSaid :=
  OpenClaim.holds_of_wide 4 Try.f4 rfl rfl rfl rfl rfl rfl rfl ⟨rfl, rfl, rfl, rfl, rfl⟩ rfl rfl rfl rfl rfl (by kernel_rfl) Try.func4 (by kernel_rfl)
    (of_decide_eq_true (by kernel_rfl)) (by unfold Func.isWrapper; first | (rw [if_pos (by decide +kernel)]; kernel_rfl) | (rw [if_neg (by decide +kernel)]; exact ⟨rfl, rfl⟩))
    (fun os started H enc _ => plateRuns_lifted os started H enc)
#print axioms plateRuns_holds


end Go.Proofs.Ytnnikgchffkalaa
