/- HalvesRuns: the law returns true for any names and whatever is told of them: all that is to be tried, and all that came of it, is as the document says. It has no conditions. -/
import Derived.Test.YtbhknaggbenfnaaHvAlive
import Derived.Test.YtbhknaggbenfnaaHvArgs
import Derived.Test.YtbhknaggbenfnaaHvRt
import Derived.Deep.RegionHeldLaw
namespace Go.Proofs.Ytbhknaggbenfnaa
open Go.ChangeShapes Go.WideShapes Go.ChangeAt Go.RowKit

set_option maxRecDepth 100000
attribute [local go_sem ↓] ldRp stRp alRp bxRp
attribute [local go_sem] al_rp bx_rp alloc_setRow

theorem PlanP.same {w w' : World} {R : Nat → Prop} {g : Nat} {p : Hv ByteArray} (h : PlanP w R g p) (hs : w.heap.size ≤ w'.heap.size) (hb : ∀ k, R k → w'.heap[k]? = w.heap[k]?) : PlanP w' R g p := by
  obtain ⟨vu, vg, vb, us, h⟩ := h
  exact ⟨vu, vg, vb, us, h.same hs hb⟩

/-- What stands between two answers: the program's plan; the document's, its blocks in D; the variable of it at block q. -/
structure Both (w0 wr : World) (g q : Nat) (p p2 : Hv ByteArray) (v : Value) (D : Nat → Prop) : Prop where
  mine : MineL w0 wr g p (fun j => D j ∨ j = q)
  ref : RefP wr D v p2
  nq : ¬ D q
  qn : w0.heap.size ≤ q
  rq : ∃ x0 x1 x2 x3, v = .agg #[x0, x1, x2, x3] ∧ Row wr q 36 #[x0, x1, x2, x3]

section
variable {w0 w1 w2 wr wr' : World} {g q : Nat} {p p2 p3 : Hv ByteArray} {v v' : Value} {D : Nat → Prop}
theorem RefP.dom (h : RefP wr D v p) : ∀ k, D k → k < wr.heap.size := by
  obtain ⟨_, _, _, _, _, _, _, h⟩ := h
  exact h.dom
theorem RefP.four (h : RefP wr D v p) : ∃ x0 x1 x2 x3, v = .agg #[x0, x1, x2, x3] := by
  obtain ⟨_, _, _, _, _, _, _, h⟩ := h
  exact ⟨_, _, _, _, h.val⟩
theorem Both.below (h : Both w0 wr g q p p2 v D) (hb : Below wr.heap.size wr wr') : Both w0 wr' g q p p2 v D := by
  obtain ⟨x0, x1, x2, x3, e, hr⟩ := h.rq
  exact ⟨h.mine.more hb, h.ref.same hb.size (fun k hk => hb.block k (h.ref.dom k hk)), h.nq, h.qn, x0, x1, x2, x3, e, hr.below hb⟩
/-- The document's plan in its variable. -/
theorem Both.opened (h : Both w0 wr g q p p2 v D) : ∃ ra rc us ga gc ba bc, RfP wr D v p2 ra rc us ga gc ba bc ∧ Row wr q 36 #[.slice ra us.length rc, .slice ga p2.good.length gc, .slice ba p2.bad.length bc, .int .i64 (p2.tries : Int)] := by
  obtain ⟨x0, x1, x2, x3, e, hr⟩ := h.rq
  obtain ⟨ra, rc, us, ga, gc, ba, bc, r⟩ := h.ref
  have e2 := r.val
  rw [e] at e2
  injection e2 with e2
  rw [e2] at hr
  exact ⟨ra, rc, us, ga, gc, ba, bc, r, hr⟩
/-- The program's plan is told. -/
theorem Both.told {b : Bool} {e : Ending} (h : Both w0 wr g q p p2 v D) (ht : ToldL w0 g p (fun j => D j ∨ j = q) b wr e w1) : Both w0 w1 g q (tellH p b) p2 v D := by
  obtain ⟨_, m, hs, hk⟩ := ht
  obtain ⟨x0, x1, x2, x3, e, hr⟩ := h.rq
  exact ⟨m, h.ref.same hs (fun k k' => hk k (.inl k')), h.nq, h.qn, x0, x1, x2, x3, e, (hk q (.inr rfl)).trans hr⟩
/-- The document's is told, and stands in the variable. -/
theorem Both.put {x0 x1 x2 x3 : Value} (h : Both w0 w1 g q p p2 v D) (hr : RefP w2 (fun k => D k ∨ (w1.heap.size ≤ k ∧ k < w2.heap.size)) (.agg #[x0, x1, x2, x3]) p3) (hb : Below w1.heap.size w1 w2) (o : Obj) :
    Both w0 ((w2.alloc o).setRow q #[x0, x1, x2, x3]) g q p p3 (.agg #[x0, x1, x2, x3]) (fun k => D k ∨ (w1.heap.size ≤ k ∧ k < w2.heap.size)) := by
  obtain ⟨y0, y1, y2, y3, e, row⟩ := h.rq
  have hq := row.lt
  have h2 := hb.size
  have ba : Below w2.heap.size w2 (w2.alloc o) := (Below.refl _ _).alloc (Nat.le_refl _) o
  have h3 := ba.size
  have hs : ((w2.alloc o).setRow q #[x0, x1, x2, x3]).heap.size = (w2.alloc o).heap.size := by simp
  have hn : ∀ k, k ≠ q → ((w2.alloc o).setRow q #[x0, x1, x2, x3]).heap[k]? = (w2.alloc o).heap[k]? := fun k hk => setRow_other _ _ _ _ hk
  have hnq : ¬ (D q ∨ (w1.heap.size ≤ q ∧ q < w2.heap.size)) := fun e => e.elim h.nq (fun e => by omega)
  refine ⟨?_, ?_, hnq, h.qn, x0, x1, x2, x3, rfl, ?_⟩
  · obtain ⟨R, r1, r2, r3, r4⟩ := h.mine.below (w' := w2.alloc o) (M := fun j => (D j ∨ (w1.heap.size ≤ j ∧ j < w2.heap.size)) ∨ j = q) (hb.trans (ba.mono hb.size)) (fun k hk => by
      rcases hk with (hk | hk) | hk
      · exact .inl (.inl hk)
      · exact .inr ⟨hk.1, by omega⟩
      · exact .inl (.inr hk))
    exact ⟨R, r1.same (by rw [hs]; exact Nat.le_refl _) (fun k hk => hn k (fun e => (r2 k hk).2 (.inr e))), r2, fun k hk => by rw [hs]; exact r3 k hk, Below.row r4 h.qn _⟩
  · exact hr.same (by rw [hs]; exact h3) (fun k hk => (hn k (fun e => hnq (e ▸ hk))).trans (ba.block k (hr.dom k hk)))
  · exact setRow_heap _ _ _ _ _ _ ((row.below hb).below ba)
end

/-- What stands while the answers are asked for: the plans; the document's two lists; the variable's cells. -/
structure MidW (w0 wr : World) (g q : Nat) (p : Hv ByteArray) (v : Value) (D : Nat → Prop) (ra : Option Addr) (rn rc : Nat) (ga : Option Addr) (gc : Nat) (ba : Option Addr) (bc : Nat) : Prop where
  both : Both w0 wr g q p p v D
  good : StrsP wr ga gc p.good
  bad : StrsP wr ba bc p.bad
  row : Row wr q 36 #[.slice ra rn rc, .slice ga p.good.length gc, .slice ba p.bad.length bc, .int .i64 (p.tries : Int)]

section
variable {w0 wr wr' : World} {g q rn rc gc bc : Nat} {p : Hv ByteArray} {v : Value} {D : Nat → Prop} {ra ga ba : Option Addr}
theorem MidW.below (h : MidW w0 wr g q p v D ra rn rc ga gc ba bc) (hb : Below wr.heap.size wr wr') : MidW w0 wr' g q p v D ra rn rc ga gc ba bc :=
  ⟨h.both.below hb, h.good.below hb, h.bad.below hb, h.row.below hb⟩
theorem MidW.cells (h : MidW w0 wr g q p v D ra rn rc ga gc ba bc) : wr.cell? ⟨q, 1, none⟩ = some (.slice ga p.good.length gc) ∧ wr.cell? ⟨q, 2, none⟩ = some (.slice ba p.bad.length bc) ∧ wr.cell? ⟨q, 3, none⟩ = some (.int .i64 (p.tries : Int)) :=
  ⟨h.row.cell 1, h.row.cell 2, h.row.cell 3⟩
end

set_option maxHeartbeats 16000000 in
theorem runs_walk (a a' : Option Addr) (cap cap' : Nat) (l : List ByteArray) (t : List Bool) (w : World) (h : StrsP w a cap l ∧ ∀ s ∈ l, s.size ≤ maxLen) (ht : BoolsP w a' cap' t) :
    Calls Try.prog 4 #[.slice a l.length cap, .slice a' t.length cap'] w (Tell true w) := by
  obtain ⟨hS, hz⟩ := h
  have CA := Lib.hid (alive_any w)
  by_cases hl : l.length > 60
  · have hl' : (l.length : Int) > 60 := by omega
    clear hS hz ht
    go_enter Try.func4, Try.ntmps4
    go_wp2_with fail
    refine CA.out.mono ?_
    rintro e w1 ⟨rfl, b1⟩
    go_wp2_with fail
    go_ret
    exact ⟨rfl, b1⟩
  · have hl' : ¬ (l.length : Int) > 60 := by omega
    by_cases ht2 : t.length > 200
    · have ht' : (t.length : Int) > 200 := by omega
      clear hS hz ht
      go_enter Try.func4, Try.ntmps4
      go_wp2_with fail
      refine CA.out.mono ?_
      rintro e w1 ⟨rfl, b1⟩
      go_wp2_with fail
      go_ret
      exact ⟨rfl, b1⟩
    · have ht' : ¬ (t.length : Int) > 200 := by omega
      have S := Lib.hid hS
      have T := Lib.hid ht
      have Z := Lib.hid hz
      have hn : l.length ≤ 60 := by omega
      have htn : t.length ≤ 200 := by omega
      have hpt := ht.cap
      clear hS hz ht hl ht2
      go_enter Try.func4, Try.ntmps4
      go_wp2_with fail
      refine CA.out.mono ?_
      rintro e w1 ⟨rfl, b1⟩
      have B1 := Lib.hid b1
      have O0 := Lib.hid (OwnT.fresh w1 w1.heap.size (Nat.le_refl _))
      have E0 := Lib.hid ((Below.refl w1.heap.size w1).alloc (Nat.le_refl _) (.cells #[] 9))
      have S1 := Lib.hid (S.out.below (b1.trans (E0.out.mono b1.size)))
      clear b1 CA
      go_wp2_with (at_builtin; refine wpList_append_texts rfl _ _ rfl w1.heap.size _ [] l rfl O0.out a cap rfl S1.out (by simp; omega) E0.out.size ?_)
      intro v2 w2 o2 g2
      have b2 : Below w1.heap.size w1 w2 := E0.out.grown g2 E0.out.size (fun j hj => by cases hj; exact Nat.le_refl _)
      obtain ⟨a2, c2, rfl, s2⟩ := o2.strs
      have S2 := Lib.hid s2
      have B2 := Lib.hid (B1.out.trans (b2.mono B1.out.size))
      have CN := Lib.hid (new_any a2 c2 l w2 s2 (by omega) Z.out)
      clear o2 g2 b2 s2 O0 E0 S1
      go_wp2_with fail
      refine CN.out.mono ?_
      intro e w3 hnew
      have b3 : Below w2.heap.size w2 w3 := by
        rcases hnew with ⟨_, _, q⟩ | ⟨_, g, _, q⟩
        · exact q
        · exact q.toL.low
      have CR := Lib.hid (refNew_any a cap l w3 (S.out.below (B2.out.trans (b3.mono B2.out.size))) (by omega))
      rcases hnew with ⟨hd, rfl, _⟩ | ⟨hd, g, rfl, hm⟩
      · have B3 := Lib.hid (B2.out.trans (b3.mono B2.out.size))
        clear b3 CN
        go_wp2_with fail
        refine CR.out.mono ?_
        rintro e w4 ⟨v, rfl, hv, _, b4⟩
        obtain rfl : v = .agg zR := hv.elim id (fun q => by rw [hd] at q; cases q)
        have B4 := Lib.hid (B3.out.trans (b4.mono B3.out.size))
        rw [if_pos hd]
        unfold zR
        have B5 := Lib.hid (B4.out.alloc B4.out.size (.cells #[.slice none 0 0, .slice none 0 0, .slice none 0 0, .int .i64 0] 36))
        have st := st_rp (Sl.new w4) rfl none 0 0 none 0 0 none 0 0 0
        clear hv b4
        go_wp2_with fail
        go_ret
        exact ⟨rfl, B5.out⟩
      · have M0 := Lib.hid hm.toL
        have B3 := Lib.hid b3
        have B3' := Lib.hid (B2.out.trans (b3.mono B2.out.size))
        clear hm b3 CN
        go_wp2_with fail
        refine CR.out.mono ?_
        rintro e w4 ⟨v, rfl, _, hv, b4⟩
        have RF := hv hd
        rw [if_neg (by rw [hd]; decide)]
        obtain ⟨ra, rc, us, ga, gc, ba, bc, q⟩ := RF
        have RF := Lib.hid (show RefP w4 (fun k => w3.heap.size ≤ k ∧ k < w4.heap.size) v (newH l) from ⟨ra, rc, us, ga, gc, ba, bc, q⟩)
        have hval := q.val
        generalize hgl : (newH l).good.length = gl at *
        generalize hbl : (newH l).bad.length = bl at *
        subst hval
        have st := st_rp (Sl.new w4) rfl ra us.length rc ga gl gc ba bl bc ((newH l).tries : Int)
        have B4 := Lib.hid b4
        have B5 := Lib.hid (B3'.out.trans ((b4.alloc b4.size (.cells #[.slice ra us.length rc, .slice ga gl gc, .slice ba bl bc, .int .i64 ((newH l).tries : Int)] 36)).mono B3'.out.size))
        have b5 := b4.alloc b4.size (.cells #[.slice ra us.length rc, .slice ga gl gc, .slice ba bl bc, .int .i64 ((newH l).tries : Int)] 36)
        have z5 : (w4.alloc (.cells #[.slice ra us.length rc, .slice ga gl gc, .slice ba bl bc, .int .i64 ((newH l).tries : Int)] 36)).heap.size = w4.heap.size + 1 := by simp
        have BO := Lib.hid (show Both w2 (w4.alloc (.cells #[.slice ra us.length rc, .slice ga gl gc, .slice ba bl bc, .int .i64 ((newH l).tries : Int)] 36)) g w4.heap.size (newH l) (newH l) (.agg #[.slice ra us.length rc, .slice ga gl gc, .slice ba bl bc, .int .i64 ((newH l).tries : Int)]) (fun j => w3.heap.size ≤ j ∧ j < w4.heap.size) from
          ⟨M0.out.below b5 (fun j hj => .inr (by
            have := b4.size
            rcases hj with hj | rfl
            · exact ⟨hj.1, by rw [z5]; omega⟩
            · exact ⟨this, by rw [z5]; omega⟩)),
            RF.out.same (by rw [z5]; omega) (fun j hj => ((Below.refl w4.heap.size w4).alloc (Nat.le_refl _) _).block j hj.2),
            fun e => by omega, Nat.le_trans M0.out.low.size b4.size, _, _, _, _, rfl, heap_alloc_new _ _⟩)
        have OK := Lib.hid (OkH.new l)
        clear hv b4 b5 z5 q CR RF M0
        unfold zR at st
        go_wp2_with fail
        clear st
        go_loopw [56] (fun i wr => ∃ (k : Nat) (p : Hv ByteArray) (v : Value) (D : Nat → Prop), k ≤ t.length ∧ i = .int .i64 k ∧ Hid (Both w2 wr g w4.heap.size p p v D) ∧ Hid (OkH l.length p)) (fun i _ => t.length - (intOf i).toNat)
        case atStart => exact ⟨0, newH l, _, _, Nat.zero_le _, rfl, BO, OK⟩
        case round =>
          clear BO OK
          obtain ⟨k, p, v, D, hk, rfl, BO, OK⟩ := hrel
          have LW := Lib.hid BO.out.mine.low
          by_cases hlt : k < t.length
          · have BF := Lib.hid (B2.out.trans (LW.out.mono B2.out.size))
            obtain ⟨bt, ot, rfl, qt, dt⟩ := (T.out.below BF.out).at k hlt
            generalize t[k] = b at *
            obtain ⟨ra1, rc1, us1, ga1, gc1, ba1, bc1, rf, row⟩ := BO.out.opened
            generalize hqq : w4.heap.size = q at *
            have HR := Lib.hid rf.rest
            have LS := Lib.hid rf.lists
            have B5 := Lib.hid ((Below.refl wr.heap.size wr).alloc (Nat.le_refl _) (.cells #[] 9))
            have r1 := row.below B5.out
            obtain ⟨⟨c0, _, _, _⟩, cf⟩ := cellsR4 r1
            go_upto_if 64 with fail
            go_cut [12] (fun v12 wx => ∃ a12 c12, v12 = .slice a12 (nextH p).length c12 ∧ Hid (StrsP wx a12 c12 (nextH p)) ∧ Hid (Below wr.heap.size wr wx))
            case first =>
              cases us1 with
              | nil =>
                have hx : nextH p = [] := by unfold nextH; rw [← HR.out]; rfl
                have SN := Lib.hid (StrsP.nil (wr.alloc (.cells #[] 9)) (some ⟨wr.heap.size, 0, none⟩) 0)
                go_wp2_with fail
                go_meet
                exact ⟨some ⟨wr.heap.size, 0, none⟩, 0, by rw [hx]; rfl, by rw [hx]; exact SN, B5⟩
              | cons u ur =>
                have hx : nextH p = u.l := by unfold nextH; rw [← HR.out]; rfl
                obtain ⟨rb, ro, rfl, hrb, hrc⟩ := LS.out.cell (by simp)
                have x0 := (B5.out.cell (p := ⟨rb, ro + 0, none⟩) hrb).trans (hrc 0 u rfl)
                rw [Nat.add_zero] at x0
                (try unfold PartT.val at x0)
                have SN := Lib.hid ((LS.out.each u (by simp)).below B5.out)
                have hp : 0 < (u :: ur).length := by simp
                go_wp2_with fail
                go_meet
                exact ⟨u.a, u.cap, by rw [hx], by rw [hx]; exact SN, B5⟩
            case rest =>
              rename World => w5
              obtain ⟨a12, c12, rfl, SN, BX⟩ := hcut
              clear c0 cf r1 LS HR rf row B5 dt
              have BO5 := Lib.hid (BO.out.below BX.out)
              have CX := Lib.hid (BO5.out.mine.next OK.out (by omega))
              go_wp2_with fail
              refine CX.out.mono ?_
              rintro e w6 ⟨v6, rfl, o6, b6⟩
              obtain ⟨a6, c6, rfl, s6⟩ := o6.strs
              have CS := Lib.hid (refSameT_any a6 a12 c6 c12 (nextH p) (nextH p) w6 s6 (SN.out.below b6))
              rw [sameT_self] at CS
              have BO6 := Lib.hid (BO5.out.below b6)
              clear o6 s6 CX
              generalize (nextH p).length = nl at *
              go_wp2_with fail
              refine CS.out.mono ?_
              rintro e w7 ⟨rfl, b7⟩
              have BO7 := Lib.hid (BO6.out.below b7)
              have CT := Lib.hid (BO7.out.mine.tell OK.out (by omega) b)
              clear CS b6 b7 SN BX BO5 BO6 BO
              go_wp2_with fail
              refine CT.out.mono ?_
              rintro e w8 ⟨rfl, t8⟩
              have BO8 := Lib.hid (BO7.out.told ⟨rfl, t8⟩)
              obtain ⟨ra2, rc2, us2, ga2, gc2, ba2, bc2, rf2, row2⟩ := BO8.out.opened
              have CR := Lib.hid (refTell_any BO8.out.ref OK.out (by omega) b)
              have OK8 := Lib.hid (OK.out.tell b)
              have hv2 := rf2.val
              subst hv2
              have ld := ld_rp row2
              clear t8 BO7 CT rf2
              go_wp2_with fail
              refine CR.out.mono ?_
              rintro e w9 ⟨v9, rfl, rf9, b9⟩
              obtain ⟨rx, rn, us3, gx, gn, bx, bn, r9⟩ := id rf9
              have hv9 := r9.val
              subst hv9
              have BO9 := Lib.hid (BO8.out.put rf9 b9 (.cells #[.slice rx us3.length rn, .slice gx (tellH p b).good.length gn, .slice bx (tellH p b).bad.length bn, .int .i64 ((tellH p b).tries : Int)] 36))
              have sn := st_rp (Sl.new w9) rfl rx us3.length rn gx (tellH p b).good.length gn bx (tellH p b).bad.length bn ((tellH p b).tries : Int)
              unfold zR at sn
              have row9 := (row2.below b9).below ((Below.refl w9.heap.size w9).alloc (Nat.le_refl _) (.cells #[.slice rx us3.length rn, .slice gx (tellH p b).good.length gn, .slice bx (tellH p b).bad.length bn, .int .i64 ((tellH p b).tries : Int)] 36))
              have ln := ld_rp (show Row (w9.alloc (.cells #[.slice rx us3.length rn, .slice gx (tellH p b).good.length gn, .slice bx (tellH p b).bad.length bn, .int .i64 ((tellH p b).tries : Int)] 36)) w9.heap.size 36 #[.slice rx us3.length rn, .slice gx (tellH p b).good.length gn, .slice bx (tellH p b).bad.length bn, .int .i64 ((tellH p b).tries : Int)] from heap_alloc_new _ _)
              have sq := st_rp row9 rfl rx us3.length rn gx (tellH p b).good.length gn bx (tellH p b).bad.length bn ((tellH p b).tries : Int)
              clear ld CR rf9 b9 row2 row9 r9 BO8 OK
              generalize tellH p b = p9 at *
              generalize tellN p = n9 at *
              go_upto_region 22 with (fail)
              generalize Value.agg #[.slice rx us3.length rn, .slice gx p9.good.length gn, .slice bx p9.bad.length bn, .int .i64 (p9.tries : Int)] = V9 at BO9
              generalize (fun k => D k ∨ (w8.heap.size ≤ k ∧ k < w9.heap.size)) = D9 at BO9
              clear sn ln sq
              generalize (w9.alloc (.cells #[.slice rx us3.length rn, .slice gx p9.good.length gn, .slice bx p9.bad.length bn, .int .i64 (p9.tries : Int)] 36)).setRow q #[.slice rx us3.length rn, .slice gx p9.good.length gn, .slice bx p9.bad.length bn, .int .i64 (p9.tries : Int)] = W9 at *
              obtain ⟨ra9, rc9, us9, ga9, gc9, ba9, bc9, rf9, row9⟩ := BO9.out.opened
              have S0 : Hid (∀ W, W = W9.drew → W.cell? ⟨q, 1, none⟩ = some (.slice ga9 p9.good.length gc9) ∧ W.cell? ⟨q, 2, none⟩ = some (.slice ba9 p9.bad.length bc9) ∧ W.cell? ⟨q, 3, none⟩ = some (.int .i64 (p9.tries : Int)) ∧ MidW w2 W g q p9 V9 D9 ra9 us9.length rc9 ga9 gc9 ba9 bc9) := Lib.hid (by
                rintro W rfl
                have M := (show MidW w2 W9 g q p9 V9 D9 ra9 us9.length rc9 ga9 gc9 ba9 bc9 from ⟨BO9.out, rf9.good, rf9.bad, row9⟩).below (Below.refl W9.heap.size W9).drew
                exact ⟨M.cells.1, M.cells.2.1, M.cells.2.2, M⟩)
              have SK : Hid (∀ W W', (W.cell? ⟨q, 1, none⟩ = some (.slice ga9 p9.good.length gc9) ∧ W.cell? ⟨q, 2, none⟩ = some (.slice ba9 p9.bad.length bc9) ∧ W.cell? ⟨q, 3, none⟩ = some (.int .i64 (p9.tries : Int)) ∧ MidW w2 W g q p9 V9 D9 ra9 us9.length rc9 ga9 gc9 ba9 bc9) → Below W.heap.size W W' → W'.cell? ⟨q, 1, none⟩ = some (.slice ga9 p9.good.length gc9) ∧ W'.cell? ⟨q, 2, none⟩ = some (.slice ba9 p9.bad.length bc9) ∧ W'.cell? ⟨q, 3, none⟩ = some (.int .i64 (p9.tries : Int)) ∧ MidW w2 W' g q p9 V9 D9 ra9 us9.length rc9 ga9 gc9 ba9 bc9) := Lib.hid (fun W W' h hb => by
                have M := h.2.2.2.below hb
                exact ⟨M.cells.1, M.cells.2.1, M.cells.2.2, M⟩)
              have SM := Lib.hid (fun (W : World) (h : W.cell? ⟨q, 1, none⟩ = some (.slice ga9 p9.good.length gc9) ∧ W.cell? ⟨q, 2, none⟩ = some (.slice ba9 p9.bad.length bc9) ∧ W.cell? ⟨q, 3, none⟩ = some (.int .i64 (p9.tries : Int)) ∧ MidW w2 W g q p9 V9 D9 ra9 us9.length rc9 ga9 gc9 ba9 bc9) => show MidW w2 W g q p9 V9 D9 ra9 us9.length rc9 ga9 gc9 ba9 bc9 from h.2.2.2)
              have CT := Lib.hid (fun (W : World) (h : MidW w2 W g q p9 V9 D9 ra9 us9.length rc9 ga9 gc9 ba9 bc9) => h.both.mine.tries)
              have CG := Lib.hid (fun (W : World) (h : MidW w2 W g q p9 V9 D9 ra9 us9.length rc9 ga9 gc9 ba9 bc9) => h.both.mine.goods OK8.out (by omega))
              have CB := Lib.hid (fun (W : World) (h : MidW w2 W g q p9 V9 D9 ra9 us9.length rc9 ga9 gc9 ba9 bc9) => h.both.mine.bads OK8.out (by omega))
              have CSG := Lib.hid (fun (W : World) (a : Option Addr) (c : Nat) (h : MidW w2 W g q p9 V9 D9 ra9 us9.length rc9 ga9 gc9 ba9 bc9) (s : StrsP W a c p9.good) => show Calls Try.prog 17 #[.slice a p9.good.length c, .slice ga9 p9.good.length gc9] W (Tell true W) from by
                have := refSameT_any a ga9 c gc9 p9.good p9.good W s h.good
                rwa [sameT_self] at this)
              have CSB := Lib.hid (fun (W : World) (a : Option Addr) (c : Nat) (h : MidW w2 W g q p9 V9 D9 ra9 us9.length rc9 ga9 gc9 ba9 bc9) (s : StrsP W a c p9.bad) => show Calls Try.prog 17 #[.slice a p9.bad.length c, .slice ba9 p9.bad.length bc9] W (Tell true W) from by
                have := refSameT_any a ba9 c bc9 p9.bad p9.bad W s h.bad
                rwa [sameT_self] at this)
              clear BO9 rf9 row9
              --@
              go_region_held_law (fun W => W.cell? ⟨q, 1, none⟩ = some (.slice ga9 p9.good.length gc9) ∧ W.cell? ⟨q, 2, none⟩ = some (.slice ba9 p9.bad.length bc9) ∧ W.cell? ⟨q, 3, none⟩ = some (.int .i64 (p9.tries : Int)) ∧ MidW w2 W g q p9 V9 D9 ra9 us9.length rc9 ga9 gc9 ba9 bc9)
                (first | exact S0.out _ rfl | exact kp)
                (first
                  | ((try go_simp); go_at_call 17; have _once := s13; refine (CSB.out _ _ _ (SM.out _ (by assumption)) (by assumption)).mono ?_; rintro e w14 ⟨rfl, b14⟩; have kp := SK.out _ _ (by assumption) b14; clear b14)
                  | ((try go_simp); go_at_call 21; refine (CB.out _ (SM.out _ (by assumption))).mono ?_; rintro e w13 ⟨v13, rfl, o13, b13⟩; have kp := SK.out _ _ (by assumption) b13; obtain ⟨a13, c13, rfl, s13⟩ := o13.strs; clear o13 b13)
                  | ((try go_simp); go_at_call 17; refine (CSG.out _ _ _ (SM.out _ (by assumption)) (by assumption)).mono ?_; rintro e w12 ⟨rfl, b12⟩; have kp := SK.out _ _ (by assumption) b12; clear b12)
                  | ((try go_simp); go_at_call 20; refine (CG.out _ (SM.out _ (by assumption))).mono ?_; rintro e w11 ⟨v11, rfl, o11, b11⟩; have kp := SK.out _ _ (by assumption) b11; obtain ⟨a11, c11, rfl, s11⟩ := o11.strs; clear o11 b11)
                  | ((try go_simp); go_at_call 19; refine (CT.out _ (SM.out _ (by assumption))).mono ?_; rintro e w10 ⟨rfl, b10⟩; have kp := SK.out _ _ (by assumption) b10; clear b10))
              all_goals
                go_wp2_with fail
                go_roundw
                case rel => exact ⟨k + 1, p9, _, _, by omega, by go_num, Lib.hid (SM.out _ (by assumption)).both, OK8⟩
                case measure => simp [intOf]; omega
          · have CS := Lib.hid (refSameT_any a2 a c2 cap l l wr (S2.out.below LW.out) (S.out.below (B2.out.trans (LW.out.mono B2.out.size))))
            rw [sameT_self] at CS
            have BF := Lib.hid (B2.out.trans (LW.out.mono B2.out.size))
            go_wp2_with fail
            refine CS.out.mono ?_
            rintro e w9 ⟨rfl, b9⟩
            have B9 := Lib.hid (BF.out.trans (b9.mono BF.out.size))
            go_wp2_with fail
            go_ret
            exact ⟨rfl, B9.out⟩



set_option maxRecDepth 100000 in
theorem halvesRuns_lifted (os : Os) (started : os.Started) (H : Type) (enc : TypeId × Value → H) :
    ReturnsInHanded {} Try.checked os 4 .any (Rows.halvesRunsSpec.pre6 enc Try.prog Try.f4 Rows.halvesRunsRow.domain false) (Rows.halvesRunsSpec.post enc Try.prog Try.f4 false true false false) := by
  refine returnsInHanded_of_change (C := Try.checked) own started (by kernel_rfl) Try.func4
    (ChangeSpec.witness6 (enc := enc) (C := Try.checked) false ⟨#[], #[.slice none 0 0, .slice none 0 0], []⟩ 8 (by kernel_rfl) (by kernel_rfl) (by kernel_rfl) (by kernel_rfl)) ?_
  intro W base args ds gs before hval0 hW _ _
  have hval : ∀ (j : Nat) t v, Try.f4.params[j]? = some t → args[j]? = some v → Value.okWide Try.prog W .any base t v := hval0
  have hW' := hW
  obtain ⟨p, q, hA0, hV, rfl, _, _⟩ := hW
  have hA : DataW.TrodAll enc Try.prog W 0 (fun _ => true) true Try.f4.params.toList args.toList ds p := hA0
  rw [Try.params4] at hA hval
  obtain ⟨v0, vs0, d0, ds0, p0, q_0, hargs, rfl, rfl, h0, r0⟩ := trodAll_cons hA
  obtain ⟨v1, vs1, d1, ds1, p1, q_1, rfl, rfl, rfl, h1, r1⟩ := trodAll_cons r0
  obtain ⟨rfl, rfl, rfl⟩ := trodAll_nil r1
  obtain rfl : args = #[v0, v1] := by cases args; simp_all
  obtain ⟨rfl, rfl⟩ := trodVars_none hV
  clear hA0 hval0
  simp only [List.append_nil] at hW'
  obtain ⟨q0, cap0, l0, rfl, hS0, hm0⟩ := strs_of_trod (hval 0 27 v0 rfl rfl) h0
  have hlt0 : ∀ x ∈ p0, x.block < W.heap.size := fun x hx => by simpa using hW'.lt x (by simpa using (by simp [hx]))
  obtain ⟨q1, cap1, l1, rfl, hS1, hm1⟩ := bools_of_trod (hval 1 33 v1 rfl rfl) h1
  have hlt1 : ∀ x ∈ p1, x.block < W.heap.size := fun x hx => by simpa using hW'.lt x (by simpa using (by simp [hx]))
  refine (runs_walk q0 q1 cap0 cap1 l0 l1 W hS0 hS1).mono fun e W' ⟨he, hb⟩ => ?_
  subst he
  have hT : DataW.TrodAll enc Try.prog W' 0 (fun b => decide (b < W.heap.size)) true _ _ _ _ := (trodAll_cons_mk (Below.trod laidOut (by kernel_rfl) (of_decide_eq_true (by kernel_rfl)) h0 hb hlt0) (trodAll_cons_mk (Below.trod laidOut (by kernel_rfl) (of_decide_eq_true (by kernel_rfl)) h1 hb hlt1) trodAll_mk0))
  simp only [List.append_nil] at hT
  exact ⟨_, rfl, _, _, _, [], p0 ++ (p1), [], hW', trodAll_mk1 (shut_bool Try.underlying4 _), hT, rfl, hb.frame _, fun h => by cases h⟩

theorem halvesRuns_holds : Rows.HalvesRunsSaid :=
  OpenClaim.holds_of_wide 4 Try.f4 rfl rfl rfl rfl rfl rfl rfl ⟨rfl, rfl, rfl, rfl, rfl⟩ rfl rfl rfl rfl rfl (by kernel_rfl) Try.func4 (by kernel_rfl)
    (of_decide_eq_true (by kernel_rfl)) (by unfold Func.isWrapper; first | (rw [if_pos (by decide +kernel)]; kernel_rfl) | (rw [if_neg (by decide +kernel)]; exact ⟨rfl, rfl⟩))
    (fun os started H enc _ => halvesRuns_lifted os started H enc)
#print axioms halvesRuns_holds


end Go.Proofs.Ytbhknaggbenfnaa
