/- PlateKeeps: the law returns true for any two lists of acts, any bytes and any two numbers: what was flushed is there, whatever is lost behind it; with all kept, all is. It has no conditions. -/
import Derived.Test.YtnnikgchffkalaaArgs
import Derived.Test.YtnnikgchffkalaaPair
import Derived.Test.YtnnikgchffkalaaPlain2
import Derived.Test.YtnnikgchffkalaaRules2
import Derived.Deep.DeepCutAuto
namespace Go.Proofs.Ytnnikgchffkalaa
open Go.ChangeShapes Go.WideShapes Go.ChangeAt Go.RowKit

attribute [local go_sem ↓] ld26 ld66 st26 st66 bx26 al26 al66 bd26 bd66 bs61 bs48 mk48 eq26 ap61 ap48 ap49 cp46 cp48 st55 st56 al55 al56 bd55 bd56 mk46
attribute [local go_sem] bx_agg al_cell al_wr bd_zero bd_one bd_two bd_nine al_bools al_rows bd_bools bd_rows mk_bytes

/-- An act in a local variable. -/
def acA (x : Ac) : Array Value := #[.int .i64 x.kind, .int .i64 x.at_, .int .i64 x.torn, .int .u8 (x.v : Int)]

/-- The local variables: two numbers that came in. -/
def TornAt (b : Nat) (x y : Int) (w : World) : Prop := w.heap[b]? = some (.cells #[.int .i64 x, .int .i64 y] 54 (0, 0))

/-- The local variables: two numbers that came in, which cells were written. -/
def Locs (b1 bt : Nat) (x y : Int) (T : List Bool) (w : World) : Prop := TornAt b1 x y w ∧ RowAt w bt 55 (boolsL T)
theorem Locs.same {b1 bt : Nat} {x y : Int} {T : List Bool} {w w' : World} (h : Locs b1 bt x y T w) {L : Nat → Prop} (hk : ∀ k, L k → w'.heap[k]? = w.heap[k]?) (h1 : L b1) (h2 : L bt) : Locs b1 bt x y T w' := ⟨(hk _ h1).trans h.1, h.2.same (hk _ h2)⟩
theorem Locs.below {b1 bt : Nat} {x y : Int} {T : List Bool} {w w' : World} (h : Locs b1 bt x y T w) (hb : Below w.heap.size w w') : Locs b1 bt x y T w' := ⟨(hb.block _ (Array.getElem?_eq_some_iff.1 h.1).1).trans h.1, h.2.same (hb.block _ h.2.lt)⟩

theorem ac_cells {w : World} {b : Nat} {x : Ac} (h : w.heap[b]? = some (.cells (acA x) 38 (0, 0))) : w.cell? ⟨b, 0, none⟩ = some (.int .i64 x.kind) ∧ w.cell? ⟨b, 1, none⟩ = some (.int .i64 x.at_) ∧ w.cell? ⟨b, 2, none⟩ = some (.int .i64 x.torn) ∧ w.cell? ⟨b, 3, none⟩ = some (.int .u8 (x.v : Int)) := by
  unfold acA at h
  simp [World.cell?, h]

theorem pair_new {w0 w2 w3 w4 : World} {n g1 g2 : Nat} {L : Nat → Prop} (b : Below w0.heap.size w0 w2) (hL : ∀ k, L k → k < w2.heap.size) (h3 : PlateP w3 (fun k => w2.heap.size ≤ k ∧ k < w3.heap.size) g1 (Pl.new n)) (b3 : Below w2.heap.size w2 w3)
    (h4 : PlateP w4 (fun k => w3.heap.size ≤ k ∧ k < w4.heap.size) g2 (Pl.new n)) (b4 : Below w3.heap.size w3 w4) : Pair w0 w4 (atPl g1 (Pl.new n)) (atPl g2 (Pl.new n)) L := by
  refine ⟨_, _, (stays_pl g1 _).same _ _ _ h3 b4.size (fun k hk => b4.block k hk.2), h4, fun k h h' => by omega, fun k hk => ?_, fun k hk => ?_, (b.trans (b3.mono b.size)).trans (b4.mono (Nat.le_trans b.size b3.size))⟩
  · have := b.size
    have := b3.size
    exact ⟨by omega, fun hl => by have := hL k hl; omega⟩
  · have := hL k hk
    have := b3.size
    have := b4.size
    omega

/-- One put of the first list, or of the second one. -/
structure Once (P : Pl) (k : Nat) : Prop where
  calm : Calm P
  size : P.sure.length = 20
  few : P.loose.length ≤ k

theorem Once.put {P : Pl} {k : Nat} (h : Once P k) (i : Int) (c : List Nat) : Once (P.put i c).2 (k + 1) := by
  obtain ⟨h1, h2, h3⟩ := h.calm.put i c
  exact ⟨h1, by rw [h2, h.size], by have := h.few; omega⟩

/-- The first k of twenty bytes are 255. -/
def partB (k : Nat) : List Nat := List.replicate k 255 ++ List.replicate (20 - k) 0
theorem partB_len {k : Nat} (hk : k ≤ 20) : (partB k).length = 20 := by simp [partB]; omega
theorem partB_set {k : Nat} (hk : k < 20) : (partB k).set k 255 = partB (k + 1) := by
  unfold partB
  rw [List.set_append_right _ _ (by simp), List.length_replicate, Nat.sub_self, show 20 - k = (20 - (k + 1)) + 1 by omega, List.replicate_succ, List.set_cons_zero, List.replicate_succ']
  simp
theorem partB_all : partB 20 = onesL := by simp [partB, onesL]

/-- A cell in a local variable. -/
theorem local_cell {w : World} {c : List Nat} (hc : IsCell c) : ∃ w', StR 26 (.pointer (some ⟨w.heap.size, 0, none⟩)) (.agg (arr c)) (w.alloc (.cells (arr zeroC) 26)) = .ok .skip w' ∧ RowAt w' w.heap.size 26 (c.map bv) ∧ Below w.heap.size w w' ∧ w'.heap.size = w.heap.size + 1 := by
  obtain ⟨w', h1, h2, h3⟩ := st_block zeroC_len hc.len (cell_block w zeroC)
  exact ⟨w', h1, h2, ((Below.refl w.heap.size w).alloc (Nat.le_refl _) _).trans (h3.below (Nat.le_refl _)), h3.size.trans (by simp)⟩

set_option maxRecDepth 100000 in
set_option maxHeartbeats 16000000 in
theorem keeps_walk (a1 a2 : Option Addr) (c1 c2 : Nat) (l1 l2 : List Ac) (ka : Option Addr) (kc : Nat) (keep : List Nat) (x y : Int) (w : World) (h1 : ActsP w a1 c1 l1) (h2 : ActsP w a2 c2 l2) (hk : BytesP w ka kc keep) :
    Calls Try.prog 5 #[.agg #[.slice a1 l1.length c1, .slice a2 l2.length c2], .slice ka keep.length kc, .agg #[.int .i64 x, .int .i64 y]] w (TrueB w) := by
  have H1 := Lib.hid h1
  have H2 := Lib.hid h2
  have HK := Lib.hid hk
  clear h1 h2 hk
  have b0 := ((Below.refl w.heap.size w).alloc (Nat.le_refl _) (.cells #[.slice a1 l1.length c1, .slice a2 l2.length c2] 53)).alloc (by simp) (.cells #[.int .i64 x, .int .i64 y] 54)
  have hs0 : ((w.alloc (.cells #[.slice a1 l1.length c1, .slice a2 l2.length c2] 53)).alloc (.cells #[.int .i64 x, .int .i64 y] 54)).heap.size = w.heap.size + 2 := by simp
  have e0 := heap_alloc2_old w (.cells #[.slice a1 l1.length c1, .slice a2 l2.length c2] 53) (.cells #[.int .i64 x, .int .i64 y] 54)
  have e1 := heap_alloc2_new w (.cells #[.slice a1 l1.length c1, .slice a2 l2.length c2] 53) (.cells #[.int .i64 x, .int .i64 y] 54)
  have AL := Lib.hid (alive_any ((w.alloc (.cells #[.slice a1 l1.length c1, .slice a2 l2.length c2] 53)).alloc (.cells #[.int .i64 x, .int .i64 y] 54)))
  have E0 := Lib.hid e0
  have E1 := Lib.hid e1
  have B0 := Lib.hid b0
  have HS0 := Lib.hid hs0
  clear e0 e1 b0 hs0
  go_enter Try.func5, Try.ntmps5
  go_wp2_with fail
  refine AL.out.mono ?_
  rintro e w1 ⟨rfl, b1⟩
  have B1 := Lib.hid (B0.out.trans (b1.mono (by rw [HS0.out]; omega)))
  have x0 := (b1.block w.heap.size (by rw [HS0.out]; omega)).trans E0.out
  have T1 := Lib.hid (show TornAt (w.heap.size + 1) x y w1 from (b1.block (w.heap.size + 1) (by rw [HS0.out]; omega)).trans E1.out)
  have hz1 := Lib.hid (show w.heap.size + 2 ≤ w1.heap.size by have := b1.size; rw [HS0.out] at this; exact this)
  have y0 : w1.cell? ⟨w.heap.size, 0, none⟩ = some (.slice a1 l1.length c1) := by simp [World.cell?, x0]
  have y1 : w1.cell? ⟨w.heap.size, 1, none⟩ = some (.slice a2 l2.length c2) := by simp [World.cell?, x0]
  clear x0 b1 AL E0 E1 B0 HS0
  go_wp2_with fail
  go_quiet (fail)
  obtain ⟨w2, hw2⟩ : ∃ w2, w1.drewN nq = w2 := ⟨_, rfl⟩
  have B2 := Lib.hid (show Below w.heap.size w w2 by subst hw2; exact ⟨B1.out.os, B1.out.tape, B1.out.output, B1.out.size, B1.out.block⟩)
  have T2 := Lib.hid (show TornAt (w.heap.size + 1) x y w2 by subst hw2; exact T1.out)
  have Z2 := Lib.hid (show w.heap.size + 2 ≤ w2.heap.size by subst hw2; exact hz1.out)
  rw [hw2]
  clear hw2 y0 y1 B1 T1 hz1
  cases t1 : decide (60 < (l1.length : Int)) with
  | true =>
    go_wp2_with fail
    go_ret
    exact ⟨rfl, B2.out⟩
  | false =>
  cases t2 : decide (60 < (l2.length : Int)) with
  | true =>
    go_wp2_with fail
    go_ret
    exact ⟨rfl, B2.out⟩
  | false =>
  cases t3 : decide (20 < (keep.length : Int)) with
  | true =>
    go_wp2_with fail
    go_ret
    exact ⟨rfl, B2.out⟩
  | false =>
  have n1 : l1.length ≤ 60 := by simp at t1; omega
  have n2 : l2.length ≤ 60 := by simp at t2; omega
  have N1 := Lib.hid (show Calls Try.prog 9 #[.int .i64 20] w2 (NewPost 20 w2) from new_any 20 w2)
  go_wp2_with fail
  refine N1.out.mono ?_
  rintro e w3 ⟨g1, rfl, p3, b3⟩
  have P3 := Lib.hid p3
  have B3 := Lib.hid b3
  have N2 := Lib.hid (show Calls Try.prog 9 #[.int .i64 20] w3 (NewPost 20 w3) from new_any 20 w3)
  clear p3 b3 N1
  go_wp2_with fail
  refine N2.out.mono ?_
  rintro e w4 ⟨g2, rfl, p4, b4⟩
  have HP := Lib.hid (pair_new (L := fun k => k = w.heap.size + 1) B2.out (fun k hk => by have := Z2.out; omega) P3.out B3.out p4 b4)
  have T4 := Lib.hid (show TornAt (w.heap.size + 1) x y w4 from (b4.block _ (by have := Z2.out; have := B3.out.size; omega)).trans ((B3.out.block _ (by have := Z2.out; omega)).trans T2.out))
  have Z4 := Lib.hid (show w.heap.size + 2 ≤ w4.heap.size by have := Z2.out; have := B3.out.size; have := b4.size; omega)
  obtain ⟨w5, s5, r5, b5, z5⟩ := local_bools w4
  have HP5 := Lib.hid (HP.out.below (stays_pl _ _) (stays_pl _ _) b5 (M := fun k => k = w.heap.size + 1 ∨ k = w4.heap.size) (fun k hk => hk.elim (fun e => .inl e) (fun e => .inr ⟨by omega, by omega⟩)))
  have L5 := Lib.hid (show Locs (w.heap.size + 1) w4.heap.size x y (List.replicate 20 false) w5 from ⟨(b5.block _ (by have := Z4.out; omega)).trans T4.out, r5⟩)
  have ON := Lib.hid (show Once (Pl.new 20) 0 from ⟨calm_new 20, rfl, Nat.le_refl _⟩)
  obtain ⟨bt, hbt⟩ : ∃ bt, w4.heap.size = bt := ⟨_, rfl⟩
  have hbt2 := Lib.hid (show w.heap.size + 2 ≤ bt by rw [← hbt]; exact Z4.out)
  simp only [hbt] at HP5 L5 s5
  obtain ⟨L, hL⟩ : ∃ L : Nat → Prop, L = fun k => k = w.heap.size + 1 ∨ k = bt := ⟨_, rfl⟩
  rw [← hL] at HP5
  have HL := Lib.hid hL
  have hL1 := Lib.hid (show L (w.heap.size + 1) by rw [HL.out]; exact .inl rfl)
  have hL2 := Lib.hid (show L bt by rw [HL.out]; exact .inr rfl)
  generalize Pl.new 20 = P0 at *
  clear b4 p4 P3 B3 N2 T2 T4 HP r5 b5 z5 Z2 Z4 B2 hL t1 t2 t3
  go_wp2_with fail
  go_loopw [51] (fun i wr => ∃ (k : Nat) (P : Pl), k ≤ l1.length ∧ i = .int .i64 k ∧ Hid (Once P k) ∧ Hid (Pair w wr (atPl g1 P) (atPl g2 P) L) ∧ Hid (Locs (w.heap.size + 1) bt x y (List.replicate 20 false) wr)) (fun i _ => l1.length - (intOf i).toNat)
  case atStart => exact ⟨0, P0, Nat.zero_le _, rfl, ON, HP5, L5⟩
  case round =>
    clear s5 HP5 L5 ON hbt
    obtain ⟨k, P, hk, rfl, HO, HPr, HLo⟩ := hrel
    by_cases hlt : k < l1.length
    · obtain ⟨b1, o1, rfl, q1, r1⟩ := (H1.out.below HPr.out.low).cell (by intro e; subst e; simp at hlt)
      obtain ⟨d0, d1, d2, d3⟩ := r1 k _ (List.getElem?_eq_getElem hlt)
      have p1 := H1.out.cap
      have hx := (H1.out.each _ (List.getElem_mem hlt)).v
      generalize l1[k] = ac at *
      have AT : (wr.alloc (.cells (acA ac) 38)).drew.heap[wr.heap.size]? = some (.cells (acA ac) 38 (0, 0)) := heap_alloc_new wr _
      have ba := (Below.refl wr.heap.size wr).alloc (Nat.le_refl _) (.cells (acA ac) 38)
      have PA := Lib.hid (HPr.out.below (stays_pl _ _) (stays_pl _ _) ba.drew (M := fun k => L k ∨ k = wr.heap.size) (fun k hk => hk.elim .inl (fun e => .inr ⟨by omega, by rw [e]; show _ < (wr.alloc _).heap.size; simp⟩)))
      have LA := Lib.hid (HLo.out.below ba.drew)
      have AA := Lib.hid AT
      have AAlt := Lib.hid (show wr.heap.size < (wr.alloc (.cells (acA ac) 38)).drew.heap.size by show wr.heap.size < (wr.alloc _).heap.size; simp)
      obtain ⟨v0, v1, v2, v3⟩ := ac_cells AT
      have CC := Lib.hid (fun W => cell_any ac.v hx W)
      have ic := cellV_is hx
      generalize cellV ac.v = c at *
      have hlo : P.loose.length < 100000 := by have := HO.out.few; omega
      have CP := Lib.hid (fun W (b : Below (wr.alloc (.cells (acA ac) 38)).drew.heap.size (wr.alloc (.cells (acA ac) 38)).drew W) => (PA.out.more (stays_pl _ _) (stays_pl _ _) b).put (stays_pl _ _) ac.at_ ic hlo)
      have CQ := Lib.hid (fun W (h : Pair w W (atPl g2 P) (atPl g1 (P.put ac.at_ c).2) (fun k => L k ∨ k = wr.heap.size)) => h.put (stays_pl _ _) ac.at_ ic hlo)
      have HO2 := Lib.hid (HO.out.put ac.at_ c)
      obtain ⟨kind, at_, torn, v⟩ := ac
      simp only [acA] at v0 v1 v2 v3 PA LA AA CC CP CQ AAlt HO2
      generalize (P.put at_ c).2 = P2 at *
      generalize (P.put at_ c).1 = er at *
      clear r1 AT ba
      go_wp2_with fail
      go_cut [] (fun wx => Hid (Pair w wx (atPl g1 P2) (atPl g2 P) (fun k => L k ∨ k = wr.heap.size)) ∧ Hid (Locs (w.heap.size + 1) bt x y (List.replicate 20 false) wx) ∧ Hid (wx.heap[wr.heap.size]? = some (.cells (acA ⟨kind, at_, torn, v⟩) 38 (0, 0))))
      case first =>
        go_region_law (first
          | (go_simp; go_at_call 17; refine (CC.out _).mono ?_; rintro e w4 ⟨rfl, b4⟩
             have B4 := Lib.hid b4
             have AA4 := Lib.hid ((b4.block wr.heap.size (AAlt.out)).trans AA.out)
             have vv := ac_cells (x := ⟨kind, at_, torn, v⟩) AA4.out
             simp only at vv
             obtain ⟨v0', v1', v2', v3'⟩ := vv
             clear b4)
          | (go_simp; go_at_call 11; refine (CP.out _ B4.out).mono ?_; rintro e w5 ⟨rfl, p5, k5⟩
             have P5 := Lib.hid p5
             have K5 := Lib.hid k5
             clear p5 k5))
        all_goals
          go_wp2_with fail
          go_meet
          exact ⟨P5, Lib.hid ((LA.out.below B4.out).same K5.out (.inl hL1.out) (.inl hL2.out)), Lib.hid ((K5.out _ (.inr rfl)).trans AA4.out)⟩
      case rest =>
        obtain ⟨P5, LO5, AC5⟩ := hcut
        have CP2 := Lib.hid (fun W (b : Below wc.drew.heap.size wc.drew W) => CQ.out W (((P5.out.more (stays_pl _ _) (stays_pl _ _) (Below.refl _ _).drew).more (stays_pl _ _) (stays_pl _ _) b).swap))
        have AA2 := Lib.hid (show wc.drew.heap[wr.heap.size]? = some (.cells (acA ⟨kind, at_, torn, v⟩) 38 (0, 0)) from AC5.out)
        have AA2lt := Lib.hid (show wr.heap.size < wc.drew.heap.size from (Array.getElem?_eq_some_iff.1 AC5.out).1)
        have vw := ac_cells (x := ⟨kind, at_, torn, v⟩) AC5.out
        simp only at vw
        obtain ⟨z0, z1, z2, z3⟩ := vw
        clear v0 v1 v2 v3 CP PA LA AA AAlt CQ
        go_wp2_with fail
        go_region_law (first
          | (go_simp; go_at_call 17; refine (CC.out _).mono ?_; rintro e u4 ⟨rfl, b4⟩
             have B4 := Lib.hid b4
             have AA4 := Lib.hid ((b4.block wr.heap.size (AA2lt.out)).trans AA2.out)
             have vv := ac_cells (x := ⟨kind, at_, torn, v⟩) AA4.out
             simp only at vv
             obtain ⟨v0', v1', v2', v3'⟩ := vv
             clear b4)
          | (go_simp; go_at_call 11; refine (CP2.out _ B4.out).mono ?_; rintro e u5 ⟨rfl, p5, k5⟩
             have P5 := Lib.hid p5
             have K5 := Lib.hid k5
             clear p5 k5))
        all_goals
          go_wp2_with fail
          go_roundw
          case rel => exact ⟨k + 1, P2, by omega, by go_num, HO2, Lib.hid (P5.out.swap.mono (fun k hk => .inl hk)), Lib.hid (((LO5.out.below (Below.refl _ _).drew).below B4.out).same K5.out (.inl hL1.out) (.inl hL2.out))⟩
          case measure => simp [intOf]; omega
    · have hfl := HO.out.calm.flush
      have FL := Lib.hid (HPr.out.flush (stays_pl _ _))
      rw [hfl] at FL
      simp only at FL
      have S20 := Lib.hid (show P.last.length = 20 by rw [HPr.out.good.size, HO.out.size])
      have SC := Lib.hid HPr.out.good.cl
      have ON1 := Lib.hid (show Once { P with sure := P.last, loose := [] } 0 from ⟨⟨HO.out.calm.left, HO.out.calm.off, rfl⟩, S20.out, Nat.le_refl _⟩)
      have ES := Lib.hid (show ({ P with sure := P.last, loose := [] } : Pl).sure = P.last ∧ ({ P with sure := P.last, loose := [] } : Pl).last = P.last ∧ ({ P with sure := P.last, loose := [] } : Pl).loose = [] from ⟨rfl, rfl, rfl⟩)
      have OQ := Lib.hid (show Once P 60 from ⟨HO.out.calm, HO.out.size, by have := HO.out.few; omega⟩)
      generalize ({ P with sure := P.last, loose := [] } : Pl) = P1 at *
      generalize P.last = S at S20 SC ES
      clear hfl
      go_wp2_with fail
      refine FL.out.mono ?_
      rintro e w6 ⟨rfl, p6, k6⟩
      have LO := Lib.hid (show Calls Try.prog 24 #[ptr g1] w6 (Same (.int .i64 0) w6) by have := p6.loose; rw [ES.out.2.2] at this; exact this)
      have LO6 := Lib.hid (HLo.out.same k6 hL1.out hL2.out)
      have P6 := Lib.hid p6
      clear p6 k6 FL HPr HLo HO
      go_wp2_with fail
      refine LO.out.mono ?_
      rintro e w' ⟨rfl, rfl⟩
      obtain ⟨w7, s7, r7, b7, z7⟩ := local_rows w6
      have P7 := Lib.hid (P6.out.below (stays_pl _ _) (stays_pl _ _) b7 (M := fun k => L k ∨ k = w6.heap.size) (fun k hk => hk.elim .inl (fun e => .inr ⟨by omega, by omega⟩)))
      have LO7 := Lib.hid (LO6.out.below b7)
      have R7 := Lib.hid r7
      have hb1 := Lib.hid (show w.heap.size + 1 ≠ w6.heap.size by have := (Array.getElem?_eq_some_iff.1 LO6.out.1).1; omega)
      have hbt3 := Lib.hid (show bt ≠ w6.heap.size by have := LO6.out.2.lt; omega)
      have hbw0 := Lib.hid (show w.heap.size ≤ w6.heap.size from P6.out.low.size)
      obtain ⟨bw, hbw⟩ : ∃ bw, w6.heap.size = bw := ⟨_, rfl⟩
      simp only [hbw] at P7 R7 hb1 hbt3 hbw0 s7
      obtain ⟨M, hM⟩ : ∃ M : Nat → Prop, M = fun k => L k ∨ k = bw := ⟨_, rfl⟩
      rw [← hM] at P7
      have hM1 := Lib.hid (show M (w.heap.size + 1) by rw [hM]; exact .inl hL1.out)
      have hM2 := Lib.hid (show M bt by rw [hM]; exact .inl hL2.out)
      have hM3 := Lib.hid (show M bw by rw [hM]; exact .inr rfl)
      clear hM LO b7 z7 r7 P6 LO6 HL
      go_wp2_with fail
      generalize wr = wa at *
      go_loopw [79] (fun i wr => ∃ (k : Nat), k ≤ 20 ∧ i = .int .i64 k ∧ Hid (Pair w wr (atPl g1 P1) (atPl g2 P) M) ∧ Hid (Locs (w.heap.size + 1) bt x y (List.replicate 20 false) wr) ∧ Hid (RowAt wr bw 56 (rowL (mixL S (List.replicate 20 zeroC) k)))) (fun i _ => 20 - (intOf i).toNat)
      case atStart => exact ⟨0, Nat.zero_le _, rfl, P7, LO7, by rw [mixL_zero]; exact R7⟩
      case round =>
        clear P7 LO7 R7 s7 hbw
        obtain ⟨k, hk, rfl, HPr, HLo, HRo⟩ := hrel
        by_cases hlt : k < 20
        · have hS : S.length = (List.replicate 20 zeroC).length := by rw [S20.out, List.length_replicate]
          have hkS : k < S.length := by rw [S20.out]; exact hlt
          have ic := getD_cell SC.out hkS
          have hmc := mixL_cells SC.out (Cells.zero 20) k
          have hml : (mixL S (List.replicate 20 zeroC) k).length = 20 := by rw [mixL_len hS (by omega), S20.out]
          have CG := Lib.hid (show Calls Try.prog 10 #[ptr g1, .int .i64 (k : Int)] wr (fun e w' => e = .returned (.tuple #[.agg (arr (S.getD k [])), .int .i64 0]) ∧ Below wr.heap.size wr w') by
            have := HPr.out.get (k : Int)
            have hh : P1.has (k : Int) = true := by simp [Pl.has, ES.out.1, S20.out]; omega
            have e1 : P1.get (k : Int) = S.getD k [] := by unfold Pl.get; rw [hh, ES.out.2.1]; rfl
            have e2 : P1.getE (k : Int) = 0 := by unfold Pl.getE; rw [hh]; rfl
            rw [e1, e2] at this
            exact this)
          have HN := Lib.hid (mixL_set hS hkS)
          generalize S.getD k [] = c at *
          go_wp2_with fail
          refine CG.out.mono ?_
          rintro e w8 ⟨rfl, b8⟩
          have r8 := HRo.out.same (b8.block bw HRo.out.lt)
          obtain ⟨w9, s9, r9, u9⟩ := st_cell r8 (o := k * 64) ic.len (by rw [rowL_len hmc, hml]; omega)
          rw [rowL_set hmc ic (by rw [hml]; exact hlt), HN.out] at r9
          have P9 := Lib.hid ((HPr.out.more (stays_pl _ _) (stays_pl _ _) b8).upd (stays_pl _ _) (stays_pl _ _) hM3.out hbw0.out u9)
          have LO9 := Lib.hid (show Locs (w.heap.size + 1) bt x y (List.replicate 20 false) w9 from ⟨(u9.block _ hb1.out).trans (HLo.out.below b8).1, (HLo.out.below b8).2.same (u9.block _ hbt3.out)⟩)
          have R9 := Lib.hid r9
          clear r9 r8 u9 b8 HN hmc hml CG hS hkS
          go_wp2_with fail
          go_roundw
          case rel => exact ⟨k + 1, by omega, by go_num, P9, LO9, R9⟩
          case measure => simp [intOf]; omega
        · have hk20 := Lib.hid (show k = S.length by rw [S20.out]; omega)
          have HRo2 := Lib.hid (show RowAt wr bw 56 (rowL S) by have := HRo.out; rwa [hk20.out, mixL_all (by rw [S20.out, List.length_replicate])] at this)
          have T0 := Lib.hid (show (List.replicate 20 false).length = 20 ∧ ∀ z ∈ P1.loose, (List.replicate 20 false)[z.1]? = some true from ⟨rfl, fun z hz => by rw [ES.out.2.2] at hz; cases hz⟩)
          have OP := Lib.hid (show Once P1 0 ∧ P1.sure = S from ⟨ON1.out, ES.out.1⟩)
          clear HRo ON1 ES hk20
          generalize wr = wb at *
          generalize k = k2 at *
          go_wp2_with fail
          go_loopw [93] (fun i wr => ∃ (k : Nat) (P' Q' : Pl) (T : List Bool), k ≤ l2.length ∧ i = .int .i64 k ∧ Hid (Once P' k ∧ P'.sure = S) ∧ Hid (Once Q' (60 + k)) ∧ Hid (T.length = 20 ∧ ∀ z ∈ P'.loose, T[z.1]? = some true) ∧ Hid (Pair w wr (atPl g1 P') (atPl g2 Q') M) ∧ Hid (Locs (w.heap.size + 1) bt x y T wr) ∧ Hid (RowAt wr bw 56 (rowL S))) (fun i _ => l2.length - (intOf i).toNat)
          case atStart => exact ⟨0, P1, P, List.replicate 20 false, Nat.zero_le _, rfl, OP, OQ, T0, HPr, HLo, HRo2⟩
          case round =>
            clear HPr HLo HRo2 T0 OP OQ
            obtain ⟨k, P', Q', T, hk, rfl, HO, HQ, HT, HPr, HLo, HRo⟩ := hrel
            by_cases hlt : k < l2.length
            · obtain ⟨b1, o1, rfl, q1, r1⟩ := (H2.out.below HPr.out.low).cell (by intro e; subst e; simp at hlt)
              obtain ⟨d0, d1, d2, d3⟩ := r1 k _ (List.getElem?_eq_getElem hlt)
              have p1 := H2.out.cap
              have hx := (H2.out.each _ (List.getElem_mem hlt)).v
              generalize l2[k] = ac at *
              have AT : (wr.alloc (.cells (acA ac) 38)).drew.heap[wr.heap.size]? = some (.cells (acA ac) 38 (0, 0)) := heap_alloc_new wr _
              have ba := (Below.refl wr.heap.size wr).alloc (Nat.le_refl _) (.cells (acA ac) 38)
              have PA := Lib.hid (HPr.out.below (stays_pl _ _) (stays_pl _ _) ba.drew (M := fun k => M k ∨ k = wr.heap.size) (fun k hk => hk.elim .inl (fun e => .inr ⟨by omega, by rw [e]; show _ < (wr.alloc _).heap.size; simp⟩)))
              have LA := Lib.hid (HLo.out.below ba.drew)
              have AA := Lib.hid AT
              have AAlt := Lib.hid (show wr.heap.size < (wr.alloc (.cells (acA ac) 38)).drew.heap.size by show wr.heap.size < (wr.alloc _).heap.size; simp)
              obtain ⟨v0, v1, v2, v3⟩ := ac_cells AT
              have CC := Lib.hid (fun W => cell_any ac.v hx W)
              have ic := cellV_is hx
              generalize cellV ac.v = c at *
              have RA := Lib.hid (HRo.out.same (ba.drew.block bw HRo.out.lt))
              have hlo : P'.loose.length < 100000 := by have := HO.out.1.few; omega
              have hlq : Q'.loose.length < 100000 := by have := HQ.out.few; omega
              have CP := Lib.hid (fun W (b : Below (wr.alloc (.cells (acA ac) 38)).drew.heap.size (wr.alloc (.cells (acA ac) 38)).drew W) => (PA.out.more (stays_pl _ _) (stays_pl _ _) b).put (stays_pl _ _) ac.at_ ic hlo)
              have CQ := Lib.hid (fun W (h : Pair w W (atPl g2 Q') (atPl g1 (P'.put ac.at_ c).2) (fun k => M k ∨ k = wr.heap.size)) => h.put (stays_pl _ _) ac.at_ ic hlq)
              have HP2 := Lib.hid (show Once (P'.put ac.at_ c).2 (k + 1) ∧ (P'.put ac.at_ c).2.sure = S from ⟨HO.out.1.put ac.at_ c, by rw [(HO.out.1.calm.put ac.at_ c).2.1, HO.out.2]⟩)
              have HQ2 := Lib.hid (show Once (Q'.put ac.at_ c).2 (60 + (k + 1)) from HQ.out.put ac.at_ c)
              have ER := Lib.hid (show (P'.put ac.at_ c).1 = if P'.has ac.at_ then 0 else 71 by
                cases hh : P'.has ac.at_ with
                | true => rw [HO.out.1.calm.has hh]; rfl
                | false => rw [Pl.none hh]; rfl)
              have ELO := Lib.hid (show (P'.put ac.at_ c).2.loose = if P'.has ac.at_ then P'.loose ++ [(ac.at_.toNat, c)] else P'.loose by
                cases hh : P'.has ac.at_ with
                | true => rw [HO.out.1.calm.has hh]; rfl
                | false => rw [Pl.none hh]; rfl)
              have hsz := HO.out.1.size
              obtain ⟨kind, at_, torn, v⟩ := ac
              simp only [acA] at v0 v1 v2 v3 PA LA AA CC CP CQ AAlt HP2 HQ2 ER ELO RA d0 d1 d2 d3
              clear r1 AT ba
              cases hh : P'.has at_ with
              | true =>
                rw [hh, if_pos rfl] at ER ELO
                rw [ER.out] at CP
                have hr := hh
                simp only [Pl.has, Bool.and_eq_true, decide_eq_true_eq, hsz] at hr
                obtain ⟨j, rfl⟩ := Int.eq_ofNat_of_zero_le hr.1
                have hj20 : j < 20 := by omega
                have HT2 := Lib.hid (show (T.set j true).length = 20 ∧ ∀ z ∈ (P'.put (j : Int) c).2.loose, (T.set j true)[z.1]? = some true by
                  refine ⟨by rw [List.length_set, HT.out.1], fun z hz => ?_⟩
                  rw [ELO.out] at hz
                  rcases List.mem_append.1 hz with h | h
                  · by_cases e : j = z.1
                    · rw [← e, List.getElem?_set_self (by rw [HT.out.1]; exact hj20)]
                    · rw [List.getElem?_set_ne e]; exact HT.out.2 z h
                  · simp at h
                    rw [h]
                    exact List.getElem?_set_self (by rw [HT.out.1]; exact hj20))
                generalize (P'.put (j : Int) c).2 = P2 at *
                generalize (Q'.put (j : Int) c).2 = Q2 at *
                generalize (Q'.put (j : Int) c).1 = eq at *
                clear hh hr ELO ER hsz
                go_wp2_with fail
                go_cut [104] (fun s104 wx => s104 = .bool true ∧ Hid (Pair w wx (atPl g1 P2) (atPl g2 Q') (fun k => M k ∨ k = wr.heap.size)) ∧ Hid (Locs (w.heap.size + 1) bt x y T wx) ∧ Hid (wx.heap[wr.heap.size]? = some (.cells (acA ⟨kind, (j : Int), torn, v⟩) 38 (0, 0))) ∧ Hid (RowAt wx bw 56 (rowL S)))
                case first =>
                  go_region_law (first
                    | (go_simp; go_at_call 17; refine (CC.out _).mono ?_; rintro e w4 ⟨rfl, b4⟩
                       have B4 := Lib.hid b4
                       have AA4 := Lib.hid ((b4.block wr.heap.size (AAlt.out)).trans AA.out)
                       have vv := ac_cells (x := ⟨kind, (j : Int), torn, v⟩) AA4.out
                       simp only at vv
                       obtain ⟨v0', v1', v2', v3'⟩ := vv
                       clear b4)
                    | (go_simp; go_at_call 11; refine (CP.out _ B4.out).mono ?_; rintro e w5 ⟨rfl, p5, k5⟩
                       have P5 := Lib.hid p5
                       have K5 := Lib.hid k5
                       clear p5 k5))
                  all_goals
                    go_wp2_with fail
                    go_meet
                    exact ⟨rfl, P5, Lib.hid ((LA.out.below B4.out).same K5.out (.inl hM1.out) (.inl hM2.out)), Lib.hid ((K5.out _ (.inr rfl)).trans AA4.out), Lib.hid ((RA.out.same (w' := w4) (B4.out.block bw RA.out.lt)).same (K5.out bw (.inl hM3.out)))⟩
                case rest =>
                  obtain ⟨rfl, P5, LO5, AC5, RB5⟩ := hcut
                  have vw := ac_cells (x := ⟨kind, (j : Int), torn, v⟩) AC5.out
                  simp only at vw
                  obtain ⟨z0, z1, z2, z3⟩ := vw
                  have ht20 := HT.out.1
                  have tc := LO5.out.2.cell (j := j) (v := .bool (T[j]'(by rw [ht20]; exact hj20))) (by simp [boolsL, ht20, hj20])
                  have tf := LO5.out.2.frozen j
                  have U6 : Upd bt wc (wc.setCell ⟨bt, j, none⟩ (.bool true)) := ⟨rfl, rfl, rfl, by simp [World.setCell], fun k hk => heap_setCell_other wc ⟨bt, j, none⟩ k _ hk⟩
                  have rt := LO5.out.2.setCell (o := j) (.bool true) (by simp [boolsL, ht20, hj20])
                  have et : (boolsL T).set j (.bool true) = boolsL (T.set j true) := by simp [boolsL, List.map_set]
                  rw [et] at rt
                  obtain ⟨w6, hw6⟩ : ∃ w6, wc.setCell ⟨bt, j, none⟩ (.bool true) = w6 := ⟨_, rfl⟩
                  rw [hw6] at U6 rt
                  have nact := Lib.hid (show wr.heap.size ≠ bt by have := HLo.out.2.lt; omega)
                  have P6 := Lib.hid (P5.out.upd (stays_pl _ _) (stays_pl _ _) (.inl hM2.out) (by have := hbt2.out; omega) U6)
                  have LO6 := Lib.hid (show Locs (w.heap.size + 1) bt x y (T.set j true) w6 from ⟨(U6.block _ (by have := hbt2.out; omega)).trans LO5.out.1, rt⟩)
                  have AC6 := Lib.hid ((U6.block _ nact.out).trans AC5.out)
                  have RB6 := Lib.hid (RB5.out.same (U6.block _ (Ne.symm hbt3.out)))
                  generalize T[j]'(by rw [ht20]; exact hj20) = told at tc
                  clear U6 rt et v0 v1 v2 v3 CP PA LA AA AAlt RA P5 LO5 AC5 RB5 nact ht20
                  go_wp2_with fail
                  clear z0 z1 z2 z3 tc tf
                  have CP2 := Lib.hid (fun W (b : Below w6.drew.heap.size w6.drew W) => CQ.out W (((P6.out.more (stays_pl _ _) (stays_pl _ _) (Below.refl _ _).drew).more (stays_pl _ _) (stays_pl _ _) b).swap))
                  have AA2 := Lib.hid (show w6.drew.heap[wr.heap.size]? = some (.cells (acA ⟨kind, (j : Int), torn, v⟩) 38 (0, 0)) from AC6.out)
                  have AA2lt := Lib.hid (show wr.heap.size < w6.drew.heap.size from (Array.getElem?_eq_some_iff.1 AC6.out).1)
                  have vw := ac_cells (x := ⟨kind, (j : Int), torn, v⟩) AC6.out
                  simp only at vw
                  obtain ⟨z0, z1, z2, z3⟩ := vw
                  clear CQ
                  go_wp2_with fail
                  go_region_law (first
                    | (go_simp; go_at_call 17; refine (CC.out _).mono ?_; rintro e u4 ⟨rfl, b4⟩
                       have B4 := Lib.hid b4
                       have AA4 := Lib.hid ((b4.block wr.heap.size (AA2lt.out)).trans AA2.out)
                       have vv := ac_cells (x := ⟨kind, (j : Int), torn, v⟩) AA4.out
                       simp only at vv
                       obtain ⟨v0', v1', v2', v3'⟩ := vv
                       clear b4)
                    | (go_simp; go_at_call 11; refine (CP2.out _ B4.out).mono ?_; rintro e u5 ⟨rfl, p5, k5⟩
                       have P5 := Lib.hid p5
                       have K5 := Lib.hid k5
                       clear p5 k5))
                  all_goals
                    go_wp2_with fail
                    go_roundw
                    case rel => exact ⟨k + 1, P2, Q2, T.set j true, by omega, by go_num, HP2, HQ2, HT2, Lib.hid (P5.out.swap.mono (fun k hk => .inl hk)), Lib.hid (((LO6.out.below (Below.refl _ _).drew).below B4.out).same K5.out (.inl hM1.out) (.inl hM2.out)), Lib.hid ((RB6.out.same (w' := u4) (B4.out.block bw RB6.out.lt)).same (K5.out bw (.inl hM3.out)))⟩
                    case measure => simp [intOf]; omega
              | false =>
                rw [hh, if_neg (by simp)] at ER ELO
                rw [ER.out] at CP
                have HT2 := Lib.hid (show T.length = 20 ∧ ∀ z ∈ (P'.put at_ c).2.loose, T[z.1]? = some true by rw [ELO.out]; exact HT.out)
                generalize (P'.put at_ c).2 = P2 at *
                generalize (Q'.put at_ c).2 = Q2 at *
                generalize (Q'.put at_ c).1 = eq at *
                clear hh ELO ER hsz
                go_wp2_with fail
                go_cut [104] (fun s104 wx => s104 = .bool false ∧ Hid (Pair w wx (atPl g1 P2) (atPl g2 Q') (fun k => M k ∨ k = wr.heap.size)) ∧ Hid (Locs (w.heap.size + 1) bt x y T wx) ∧ Hid (wx.heap[wr.heap.size]? = some (.cells (acA ⟨kind, at_, torn, v⟩) 38 (0, 0))) ∧ Hid (RowAt wx bw 56 (rowL S)))
                case first =>
                  go_region_law (first
                    | (go_simp; go_at_call 17; refine (CC.out _).mono ?_; rintro e w4 ⟨rfl, b4⟩
                       have B4 := Lib.hid b4
                       have AA4 := Lib.hid ((b4.block wr.heap.size (AAlt.out)).trans AA.out)
                       have vv := ac_cells (x := ⟨kind, at_, torn, v⟩) AA4.out
                       simp only at vv
                       obtain ⟨v0', v1', v2', v3'⟩ := vv
                       clear b4)
                    | (go_simp; go_at_call 11; refine (CP.out _ B4.out).mono ?_; rintro e w5 ⟨rfl, p5, k5⟩
                       have P5 := Lib.hid p5
                       have K5 := Lib.hid k5
                       clear p5 k5))
                  all_goals
                    go_wp2_with fail
                    go_meet
                    exact ⟨rfl, P5, Lib.hid ((LA.out.below B4.out).same K5.out (.inl hM1.out) (.inl hM2.out)), Lib.hid ((K5.out _ (.inr rfl)).trans AA4.out), Lib.hid ((RA.out.same (w' := w4) (B4.out.block bw RA.out.lt)).same (K5.out bw (.inl hM3.out)))⟩
                case rest =>
                  obtain ⟨rfl, P5, LO5, AC5, RB5⟩ := hcut
                  clear v0 v1 v2 v3 CP PA LA AA AAlt RA
                  go_wp2_with fail
                  have CP2 := Lib.hid (fun W (b : Below wc.drew.heap.size wc.drew W) => CQ.out W (((P5.out.more (stays_pl _ _) (stays_pl _ _) (Below.refl _ _).drew).more (stays_pl _ _) (stays_pl _ _) b).swap))
                  have AA2 := Lib.hid (show wc.drew.heap[wr.heap.size]? = some (.cells (acA ⟨kind, at_, torn, v⟩) 38 (0, 0)) from AC5.out)
                  have AA2lt := Lib.hid (show wr.heap.size < wc.drew.heap.size from (Array.getElem?_eq_some_iff.1 AC5.out).1)
                  have vw := ac_cells (x := ⟨kind, at_, torn, v⟩) AC5.out
                  simp only at vw
                  obtain ⟨z0, z1, z2, z3⟩ := vw
                  clear CQ
                  go_wp2_with fail
                  go_region_law (first
                    | (go_simp; go_at_call 17; refine (CC.out _).mono ?_; rintro e u4 ⟨rfl, b4⟩
                       have B4 := Lib.hid b4
                       have AA4 := Lib.hid ((b4.block wr.heap.size (AA2lt.out)).trans AA2.out)
                       have vv := ac_cells (x := ⟨kind, at_, torn, v⟩) AA4.out
                       simp only at vv
                       obtain ⟨v0', v1', v2', v3'⟩ := vv
                       clear b4)
                    | (go_simp; go_at_call 11; refine (CP2.out _ B4.out).mono ?_; rintro e u5 ⟨rfl, p5, k5⟩
                       have P5 := Lib.hid p5
                       have K5 := Lib.hid k5
                       clear p5 k5))
                  all_goals
                    go_wp2_with fail
                    go_roundw
                    case rel => exact ⟨k + 1, P2, Q2, T, by omega, by go_num, HP2, HQ2, HT2, Lib.hid (P5.out.swap.mono (fun k hk => .inl hk)), Lib.hid (((LO5.out.below (Below.refl _ _).drew).below B4.out).same K5.out (.inl hM1.out) (.inl hM2.out)), Lib.hid ((RB5.out.same (w' := u4) (B4.out.block bw RB5.out.lt)).same (K5.out bw (.inl hM3.out)))⟩
                    case measure => simp [intOf]; omega
            · have Z20 := Lib.hid (show Q'.last.length = 20 by rw [HPr.out.swap.good.size, HQ.out.size])
              have ZC := Lib.hid HPr.out.swap.good.cl
              obtain ⟨w7, s7, r7, b7, z7⟩ := local_rows wr
              have P7 := Lib.hid (HPr.out.below (stays_pl _ _) (stays_pl _ _) b7 (M := fun k => M k ∨ k = wr.heap.size) (fun k hk => hk.elim .inl (fun e => .inr ⟨by omega, by omega⟩)))
              have LO7 := Lib.hid (HLo.out.below b7)
              have RW7 := Lib.hid (HRo.out.same (b7.block bw HRo.out.lt))
              have R7 := Lib.hid r7
              have hb1z := Lib.hid (show w.heap.size + 1 ≠ wr.heap.size by have := (Array.getElem?_eq_some_iff.1 HLo.out.1).1; omega)
              have hbtz := Lib.hid (show bt ≠ wr.heap.size by have := HLo.out.2.lt; omega)
              have hbwz := Lib.hid (show bw ≠ wr.heap.size by have := HRo.out.lt; omega)
              have hbz0 := Lib.hid (show w.heap.size ≤ wr.heap.size from HPr.out.low.size)
              obtain ⟨bz, hbz⟩ : ∃ bz, wr.heap.size = bz := ⟨_, rfl⟩
              simp only [hbz] at P7 R7 hb1z hbtz hbwz hbz0 s7
              obtain ⟨N, hN⟩ : ∃ N : Nat → Prop, N = fun k => M k ∨ k = bz := ⟨_, rfl⟩
              rw [← hN] at P7
              have hN1 := Lib.hid (show N (w.heap.size + 1) by rw [hN]; exact .inl hM1.out)
              have hN2 := Lib.hid (show N bt by rw [hN]; exact .inl hM2.out)
              have hN3 := Lib.hid (show N bw by rw [hN]; exact .inl hM3.out)
              have hN4 := Lib.hid (show N bz by rw [hN]; exact .inr rfl)
              clear hN b7 z7 r7 HLo HPr HRo H1 H2
              go_wp2_with fail
              generalize k = k3 at *
              go_loopw [117] (fun i wr => ∃ (k : Nat), k ≤ 20 ∧ i = .int .i64 k ∧ Hid (Pair w wr (atPl g1 P') (atPl g2 Q') N) ∧ Hid (Locs (w.heap.size + 1) bt x y T wr) ∧ Hid (RowAt wr bw 56 (rowL S)) ∧ Hid (RowAt wr bz 56 (rowL (mixL Q'.last (List.replicate 20 zeroC) k)))) (fun i _ => 20 - (intOf i).toNat)
              case atStart => exact ⟨0, Nat.zero_le _, rfl, P7, LO7, RW7, by rw [mixL_zero]; exact R7⟩
              case round =>
                clear P7 LO7 R7 RW7 s7 hbz
                obtain ⟨k, hk, rfl, HPr, HLo, HRw, HRz⟩ := hrel
                by_cases hlt : k < 20
                · have hS : Q'.last.length = (List.replicate 20 zeroC).length := by rw [Z20.out, List.length_replicate]
                  have hkS : k < Q'.last.length := by rw [Z20.out]; exact hlt
                  have ic := getD_cell ZC.out hkS
                  have hmc := mixL_cells ZC.out (Cells.zero 20) k
                  have hml : (mixL Q'.last (List.replicate 20 zeroC) k).length = 20 := by rw [mixL_len hS (by omega), Z20.out]
                  have CG := Lib.hid (show Calls Try.prog 10 #[ptr g2, .int .i64 (k : Int)] wr (fun e w' => e = .returned (.tuple #[.agg (arr (Q'.last.getD k [])), .int .i64 0]) ∧ Below wr.heap.size wr w') by
                    have := HPr.out.swap.get (k : Int)
                    have hh : Q'.has (k : Int) = true := by simp [Pl.has, HQ.out.size]; omega
                    have e1 : Q'.get (k : Int) = Q'.last.getD k [] := by unfold Pl.get; rw [hh]; rfl
                    have e2 : Q'.getE (k : Int) = 0 := by unfold Pl.getE; rw [hh]; rfl
                    rw [e1, e2] at this
                    exact this)
                  have HN := Lib.hid (mixL_set hS hkS)
                  generalize Q'.last.getD k [] = c at *
                  go_wp2_with fail
                  refine CG.out.mono ?_
                  rintro e w8 ⟨rfl, b8⟩
                  have r8 := HRz.out.same (b8.block bz HRz.out.lt)
                  obtain ⟨w9, s9, r9, u9⟩ := st_cell r8 (o := k * 64) ic.len (by rw [rowL_len hmc, hml]; omega)
                  rw [rowL_set hmc ic (by rw [hml]; exact hlt), HN.out] at r9
                  have P9 := Lib.hid ((HPr.out.more (stays_pl _ _) (stays_pl _ _) b8).upd (stays_pl _ _) (stays_pl _ _) hN4.out hbz0.out u9)
                  have LO9 := Lib.hid (show Locs (w.heap.size + 1) bt x y T w9 from ⟨(u9.block _ hb1z.out).trans (HLo.out.below b8).1, (HLo.out.below b8).2.same (u9.block _ hbtz.out)⟩)
                  have RW9 := Lib.hid ((HRw.out.same (w' := w8) (b8.block bw HRw.out.lt)).same (u9.block _ hbwz.out))
                  have R9 := Lib.hid r9
                  clear r9 r8 u9 b8 HN hmc hml CG hS hkS
                  go_wp2_with fail
                  go_roundw
                  case rel => exact ⟨k + 1, by omega, by go_num, P9, LO9, RW9, R9⟩
                  case measure => simp [intOf]; omega
                · have hk20 := Lib.hid (show k = Q'.last.length by rw [Z20.out]; omega)
                  have HRz2 := Lib.hid (show RowAt wr bz 56 (rowL Q'.last) by have := HRz.out; rwa [hk20.out, mixL_all (by rw [Z20.out, List.length_replicate])] at this)
                  have CF := Lib.hid (HPr.out.fail (stays_pl _ _) ka kc keep (HK.out.below HPr.out.low) (fun hne b o e => by
                    obtain ⟨b', o', e', hlt', _⟩ := HK.out.cell hne
                    rw [e] at e'
                    injection e' with e'
                    injection e' with e1
                    subst e1
                    exact .inl hlt') x y)
                  have tv := HLo.out.1
                  unfold TornAt at tv
                  have ty0 : wr.cell? ⟨w.heap.size + 1, 0, none⟩ = some (.int .i64 x) := by simp [World.cell?, tv]
                  have ty1 : wr.cell? ⟨w.heap.size + 1, 1, none⟩ = some (.int .i64 y) := by simp [World.cell?, tv]
                  have P3S := Lib.hid (show (P'.fail keep x y).sure.length = 20 by show (failL _ _ _ _ _ _).length = 20; rw [failL_len]; exact HO.out.1.size)
                  have P3L := Lib.hid (show ∀ i, T[i]? = some false → (P'.fail keep x y).last.getD i [] = S.getD i [] from fun i hi => by
                    show (failL keep x y 0 P'.loose P'.sure).getD i [] = _
                    rw [failL_other keep x y i P'.loose 0 P'.sure (fun z hz e => by have := HT.out.2 z hz; rw [e, hi] at this; cases this), HO.out.2])
                  have HT1 := Lib.hid HT.out.1
                  have OQ := Lib.hid HQ.out
                  generalize P'.fail keep x y = P3 at *
                  clear HRz hk20 tv HT HQ HO
                  go_wp2_with fail
                  refine CF.out.mono ?_
                  rintro e w8 ⟨rfl, p8, k8⟩
                  have P9 := Lib.hid (p8.below (stays_pl _ _) (stays_pl _ _) ((Below.refl w8.heap.size w8).alloc (Nat.le_refl _) (.cells bytesZ 5)) (M := fun k => N k ∨ k = w8.heap.size) (fun k hk => hk.elim .inl (fun e => .inr ⟨by omega, by rw [e]; simp⟩)))
                  have LO9 := Lib.hid ((HLo.out.same k8 hN1.out hN2.out).below ((Below.refl w8.heap.size w8).alloc (Nat.le_refl _) (.cells bytesZ 5)))
                  have rw8 := HRw.out.same (k8 bw hN3.out)
                  have rz8 := HRz2.out.same (k8 bz hN4.out)
                  have RW9 := Lib.hid (rw8.same (w' := w8.alloc (.cells bytesZ 5)) (Below.heap_alloc w8 _ bw rw8.lt))
                  have RZ9 := Lib.hid (rz8.same (w' := w8.alloc (.cells bytesZ 5)) (Below.heap_alloc w8 _ bz rz8.lt))
                  have RO9 := Lib.hid (show RowAt (w8.alloc (.cells bytesZ 5)) w8.heap.size 5 ((partB 0).map bv) from RowAt.of (heap_alloc_new w8 (.cells bytesZ 5)))
                  have hb1o := Lib.hid (show w.heap.size + 1 ≠ w8.heap.size by have := (Array.getElem?_eq_some_iff.1 (HLo.out.same k8 hN1.out hN2.out).1).1; omega)
                  have hbto := Lib.hid (show bt ≠ w8.heap.size by have := (HLo.out.same k8 hN1.out hN2.out).2.lt; omega)
                  have hbwo := Lib.hid (show bw ≠ w8.heap.size by have := rw8.lt; omega)
                  have hbzo := Lib.hid (show bz ≠ w8.heap.size by have := rz8.lt; omega)
                  have hbo0 := Lib.hid (show w.heap.size ≤ w8.heap.size from p8.low.size)
                  obtain ⟨bo, hbo⟩ : ∃ bo, w8.heap.size = bo := ⟨_, rfl⟩
                  simp only [hbo] at P9 RO9 hb1o hbto hbwo hbzo hbo0
                  obtain ⟨O, hO⟩ : ∃ O : Nat → Prop, O = fun k => N k ∨ k = bo := ⟨_, rfl⟩
                  rw [← hO] at P9
                  have hO1 := Lib.hid (show O (w.heap.size + 1) by rw [hO]; exact .inl hN1.out)
                  have hO2 := Lib.hid (show O bt by rw [hO]; exact .inl hN2.out)
                  have hO3 := Lib.hid (show O bw by rw [hO]; exact .inl hN3.out)
                  have hO4 := Lib.hid (show O bz by rw [hO]; exact .inl hN4.out)
                  have hO5 := Lib.hid (show O bo by rw [hO]; exact .inr rfl)
                  clear hO CF p8 k8 rw8 rz8 HPr HLo HRw HRz2 ty0 ty1
                  go_wp2_with fail
                  generalize k = k4 at *
                  go_loopw [139] (fun i wr => ∃ (k : Nat), k ≤ 20 ∧ i = .int .i64 k ∧ Hid (Pair w wr (atPl g1 P3) (atPl g2 Q') O) ∧ Hid (Locs (w.heap.size + 1) bt x y T wr) ∧ Hid (RowAt wr bw 56 (rowL S)) ∧ Hid (RowAt wr bz 56 (rowL Q'.last)) ∧ Hid (RowAt wr bo 5 ((partB k).map bv))) (fun i _ => 20 - (intOf i).toNat)
                  case atStart => exact ⟨0, Nat.zero_le _, rfl, P9, LO9, RW9, RZ9, RO9⟩
                  case round =>
                    clear P9 LO9 RW9 RZ9 RO9 hbo
                    obtain ⟨k, hk, rfl, HPr, HLo, HRw, HRz, HRo⟩ := hrel
                    by_cases hlt : k < 20
                    · have hl : ((partB k).map bv).length = 20 := by rw [List.length_map, partB_len hk]
                      have c0 := HRo.out.cell (List.getElem?_eq_getElem (show k < ((partB k).map bv).length by rw [hl]; exact hlt))
                      have f0 := HRo.out.frozen k
                      generalize ((partB k).map bv)[k]'(by rw [hl]; exact hlt) = old at c0
                      have U9 : Upd bo wr (wr.setCell ⟨bo, k, none⟩ (.int .u8 255)) := ⟨rfl, rfl, rfl, by simp [World.setCell], fun j hj => heap_setCell_other wr ⟨bo, k, none⟩ j _ hj⟩
                      have ro := HRo.out.setCell (o := k) (.int .u8 255) (by rw [hl]; exact hlt)
                      have eo : ((partB k).map bv).set k (.int .u8 255) = (partB (k + 1)).map bv := by rw [← partB_set hlt, List.map_set]; rfl
                      rw [eo] at ro
                      have P9 := Lib.hid (HPr.out.upd (stays_pl _ _) (stays_pl _ _) hO5.out hbo0.out U9)
                      have LO9 := Lib.hid (show Locs (w.heap.size + 1) bt x y T (wr.setCell ⟨bo, k, none⟩ (.int .u8 255)) from ⟨(U9.block _ hb1o.out).trans HLo.out.1, HLo.out.2.same (U9.block _ hbto.out)⟩)
                      have RW9 := Lib.hid (HRw.out.same (U9.block _ hbwo.out))
                      have RZ9 := Lib.hid (HRz.out.same (U9.block _ hbzo.out))
                      have RO9 := Lib.hid ro
                      clear ro eo U9 hl
                      go_wp2_with fail
                      go_roundw
                      case rel => exact ⟨k + 1, by omega, by go_num, P9, LO9, RW9, RZ9, RO9⟩
                      case measure => simp [intOf]; omega
                    · have hk20 := Lib.hid (show k = 20 by omega)
                      have ROO := Lib.hid (show RowAt wr bo 5 (onesL.map bv) by have := HRo.out; rwa [hk20.out, partB_all] at this)
                      have BO : BytesP wr (some ⟨bo, 0, none⟩) 20 onesL := ⟨Nat.le_refl _, by decide, fun b hb => by rw [(List.mem_replicate.1 hb).2]; omega, fun _ => ⟨bo, 0, rfl, ROO.out.lt, fun j z hj => by rw [Nat.zero_add]; exact ROO.out.cell (by rw [List.getElem?_map, hj]; rfl)⟩⟩
                      have CF := Lib.hid (show Calls Try.prog 22 #[ptr g2, .slice (some ⟨bo, 0, none⟩) 20 20, .int .i64 (-1), .int .i64 0] wr (fun e w' => e = .returned (.tuple #[]) ∧ Pair w w' (atPl g2 { Q' with sure := Q'.last, loose := [] }) (atPl g1 P3) O ∧ ∀ k, O k → w'.heap[k]? = wr.heap[k]?) by
                        have := HPr.out.swap.fail (stays_pl _ _) (some ⟨bo, 0, none⟩) 20 onesL BO (fun _ b o e => by injection e with e; injection e with e1; subst e1; exact .inr hO5.out) (-1) 0
                        rw [fail_ones OQ.out.calm HPr.out.swap.good (by have := OQ.out.few; omega)] at this
                        exact this)
                      have Q3L := Lib.hid (show ({ Q' with sure := Q'.last, loose := [] } : Pl).last = Q'.last ∧ ({ Q' with sure := Q'.last, loose := [] } : Pl).sure.length = 20 from ⟨rfl, Z20.out⟩)
                      generalize ({ Q' with sure := Q'.last, loose := [] } : Pl) = Q3 at *
                      clear BO ROO hk20 HRo
                      go_wp2_with fail
                      refine CF.out.mono ?_
                      rintro e w8 ⟨rfl, p8, k8⟩
                      have P9 := Lib.hid p8
                      have LO9 := Lib.hid (HLo.out.same k8 hO1.out hO2.out)
                      have RW9 := Lib.hid (HRw.out.same (k8 bw hO3.out))
                      have RZ9 := Lib.hid (HRz.out.same (k8 bz hO4.out))
                      clear CF p8 k8 HPr HLo HRw HRz
                      go_wp2_with fail
                      generalize k = k5 at *
                      go_loopw [149] (fun i wr => ∃ (k : Nat), k ≤ 20 ∧ i = .int .i64 k ∧ Hid (Pair w wr (atPl g2 Q3) (atPl g1 P3) O) ∧ Hid (Locs (w.heap.size + 1) bt x y T wr) ∧ Hid (RowAt wr bw 56 (rowL S)) ∧ Hid (RowAt wr bz 56 (rowL Q'.last))) (fun i _ => 20 - (intOf i).toNat)
                      case atStart => exact ⟨0, Nat.zero_le _, rfl, P9, LO9, RW9, RZ9⟩
                      case round =>
                        clear P9 LO9 RW9 RZ9
                        obtain ⟨k, hk, rfl, HPr, HLo, HRw, HRz⟩ := hrel
                        by_cases hlt : k < 20
                        · have CX := Lib.hid (show Calls Try.prog 10 #[ptr g1, .int .i64 (k : Int)] wr (fun e w' => e = .returned (.tuple #[.agg (arr (P3.last.getD k [])), .int .i64 0]) ∧ Below wr.heap.size wr w') by
                            have := HPr.out.swap.get (k : Int)
                            have hh : P3.has (k : Int) = true := by simp [Pl.has, P3S.out]; omega
                            have e1 : P3.get (k : Int) = P3.last.getD k [] := by unfold Pl.get; rw [hh]; rfl
                            have e2 : P3.getE (k : Int) = 0 := by unfold Pl.getE; rw [hh]; rfl
                            rw [e1, e2] at this
                            exact this)
                          have CY := Lib.hid (fun W (b : Below wr.heap.size wr W) => show Calls Try.prog 10 #[ptr g2, .int .i64 (k : Int)] W (fun e w' => e = .returned (.tuple #[.agg (arr (Q'.last.getD k [])), .int .i64 0]) ∧ Below W.heap.size W w') by
                            have := (HPr.out.more (stays_pl _ _) (stays_pl _ _) b).get (k : Int)
                            have hh : Q3.has (k : Int) = true := by simp [Pl.has, Q3L.out.2]; omega
                            have e1 : Q3.get (k : Int) = Q'.last.getD k [] := by unfold Pl.get; rw [hh, Q3L.out.1]; rfl
                            have e2 : Q3.getE (k : Int) = 0 := by unfold Pl.getE; rw [hh]; rfl
                            rw [e1, e2] at this
                            exact this)
                          have icx := getD_cell HPr.out.swap.good.cl (i := k) (by rw [HPr.out.swap.good.size, P3S.out]; exact hlt)
                          have icy := getD_cell ZC.out (i := k) (by rw [Z20.out]; exact hlt)
                          have ics := getD_cell SC.out (i := k) (by rw [S20.out]; exact hlt)
                          have hws := rowL_cell SC.out (i := k) (by rw [S20.out]; exact hlt)
                          have hzs := rowL_cell ZC.out (i := k) (by rw [Z20.out]; exact hlt)
                          have HXS := Lib.hid (P3L.out k)
                          have tk : k < T.length := by rw [HT1.out]; exact hlt
                          have HTK := Lib.hid (List.getElem?_eq_getElem tk)
                          generalize T[k]'tk = tb at *
                          generalize P3.last.getD k [] = cx at *
                          generalize Q'.last.getD k [] = cy at *
                          generalize S.getD k [] = cs at *
                          have HWS := Lib.hid hws
                          have HZS := Lib.hid hzs
                          clear hws hzs tk
                          go_wp2_with fail
                          refine CX.out.mono ?_
                          rintro e w10 ⟨rfl, b10⟩
                          obtain ⟨w11, s11, r11, b11, z11⟩ := local_cell (w := w10) icx
                          have b11' := b10.trans (b11.mono b10.size)
                          have CY2 := Lib.hid (CY.out w11 b11')
                          have R11 := Lib.hid r11
                          have B11 := Lib.hid b11'
                          clear b10 r11 b11 z11 b11' CX CY
                          go_wp2_with fail
                          refine CY2.out.mono ?_
                          rintro e w12 ⟨rfl, b12⟩
                          obtain ⟨w13, s13, r13, b13, z13⟩ := local_cell (w := w12) icy
                          have b13' := b12.trans (b13.mono b12.size)
                          have B13 := Lib.hid (B11.out.trans (b13'.mono B11.out.size))
                          have r11' := R11.out.same (b13'.block _ R11.out.lt)
                          have rw13 := HRw.out.same (B13.out.block bw HRw.out.lt)
                          have rz13 := HRz.out.same (B13.out.block bz HRz.out.lt)
                          have lo13 := HLo.out.below B13.out
                          have tc : w13.cell? ⟨bt, k, none⟩ = some (.bool tb) := lo13.2.cell (by rw [boolsL, List.getElem?_map, HTK.out]; rfl)
                          have LX := fun n => ld_block (w := w13.drewN n) icx.len r11'
                          have LY := fun n => ld_block (w := w13.drewN n) icy.len r13
                          have LW := fun n => ld_cell (w := w13.drewN n) rw13 ics.len HWS.out
                          have LZ := fun n => ld_cell (w := w13.drewN n) rz13 icy.len HZS.out
                          have EY := fun n a b => ne_cell (w13.drewN n) icy icy a b
                          have HP2 := Lib.hid (fun n => HPr.out.more (stays_pl _ _) (stays_pl _ _) (w' := w13.drewN n) ⟨B13.out.os, B13.out.tape, B13.out.output, B13.out.size, B13.out.block⟩)
                          have LO2 := Lib.hid (fun n => show Locs (w.heap.size + 1) bt x y T (w13.drewN n) from lo13)
                          have RW2 := Lib.hid (fun n => show RowAt (w13.drewN n) bw 56 (rowL S) from rw13)
                          have RZ2 := Lib.hid (fun n => show RowAt (w13.drewN n) bz 56 (rowL Q'.last) from rz13)
                          clear CY2 b12 r13 b13 z13 b13' r11' rw13 rz13 lo13 B13 R11 B11 HLo HPr HRw HRz
                          cases tb with
                          | true =>
                            clear HXS
                            go_wp2_with fail
                            go_quiet (fail)
                            go_wp2_with fail
                            go_roundw
                            case rel => exact ⟨k + 1, by omega, by go_num, Lib.hid (HP2.out _), Lib.hid (LO2.out _), Lib.hid (RW2.out _), Lib.hid (RZ2.out _)⟩
                            case measure => simp [intOf]; omega
                          | false =>
                            have exs := HXS.out HTK.out
                            subst exs
                            have EX := fun n a b => ne_cell (w13.drewN n) icx icx a b
                            go_wp2_with fail
                            go_quiet (fail)
                            go_wp2_with fail
                            go_roundw
                            case rel => exact ⟨k + 1, by omega, by go_num, Lib.hid (HP2.out _), Lib.hid (LO2.out _), Lib.hid (RW2.out _), Lib.hid (RZ2.out _)⟩
                            case measure => simp [intOf]; omega
                        · go_wp2_with fail
                          go_ret
                          exact ⟨rfl, HPr.out.low⟩


set_option maxRecDepth 100000 in
theorem plateKeeps_lifted (os : Os) (started : os.Started) (H : Type) (enc : TypeId × Value → H) :
    ReturnsInHanded {} Try.checked os 5 .any (Rows.plateKeepsSpec.pre6 enc Try.prog Try.f5 Rows.plateKeepsRow.domain false) (Rows.plateKeepsSpec.post enc Try.prog Try.f5 false true false false) := by
  refine returnsInHanded_of_change (C := Try.checked) own started (by kernel_rfl) Try.func5
    (ChangeSpec.witness6 (enc := enc) (C := Try.checked) false ⟨#[], #[.agg #[.slice none 0 0, .slice none 0 0], .slice none 0 0, .agg #[.int .i64 0, .int .i64 0]], []⟩ 8 (by kernel_rfl) (by kernel_rfl) (by kernel_rfl) (by kernel_rfl)) ?_
  intro W base args ds gs before hval0 hW _ _
  have hval : ∀ (j : Nat) t v, Try.f5.params[j]? = some t → args[j]? = some v → Value.okWide Try.prog W .any base t v := hval0
  have hW' := hW
  obtain ⟨p, q, hA0, hV, rfl, _, _⟩ := hW
  have hA : DataW.TrodAll enc Try.prog W 0 (fun _ => true) true Try.f5.params.toList args.toList ds p := hA0
  rw [Try.params5] at hA hval
  obtain ⟨v0, vs0, d0, ds0, p0, q_0, hargs, rfl, rfl, h0, r0⟩ := trodAll_cons hA
  obtain ⟨v1, vs1, d1, ds1, p1, q_1, rfl, rfl, rfl, h1, r1⟩ := trodAll_cons r0
  obtain ⟨v2, vs2, d2, ds2, p2, q_2, rfl, rfl, rfl, h2, r2⟩ := trodAll_cons r1
  obtain ⟨rfl, rfl, rfl⟩ := trodAll_nil r2
  obtain rfl : args = #[v0, v1, v2] := by cases args; simp_all
  obtain ⟨rfl, rfl⟩ := trodVars_none hV
  clear hA0 hval0
  simp only [List.append_nil] at hW'
  obtain ⟨qa0, ca0, la0, qb0, cb0, lb0, rfl, hA0, hB0⟩ := twoActs_of_trod (hval 0 53 v0 rfl rfl) h0
  have hlt0 : ∀ x ∈ p0, x.block < W.heap.size := fun x hx => by simpa using hW'.lt x (by simpa using (by simp [hx]))
  obtain ⟨q1, cap1, l1, rfl, hS1, hm1⟩ := bytes_of_trod (hval 1 46 v1 rfl rfl) h1
  have hlt1 : ∀ x ∈ p1, x.block < W.heap.size := fun x hx => by simpa using hW'.lt x (by simpa using (by simp [hx]))
  obtain ⟨x2, y2, rfl⟩ := two_of_trod (hval 2 54 v2 rfl rfl) h2
  have hlt2 : ∀ x ∈ p2, x.block < W.heap.size := fun x hx => by simpa using hW'.lt x (by simpa using (by simp [hx]))
  refine (keeps_walk qa0 qb0 ca0 cb0 la0 lb0 q1 cap1 l1 x2 y2 W hA0 hB0 hS1).mono fun e W' ⟨he, hb⟩ => ?_
  subst he
  have hT : DataW.TrodAll enc Try.prog W' 0 (fun b => decide (b < W.heap.size)) true _ _ _ _ := (trodAll_cons_mk (Below.trod laidOut (by kernel_rfl) (of_decide_eq_true (by kernel_rfl)) h0 hb hlt0) (trodAll_cons_mk (Below.trod laidOut (by kernel_rfl) (of_decide_eq_true (by kernel_rfl)) h1 hb hlt1) (trodAll_cons_mk (Below.trod laidOut (by kernel_rfl) (of_decide_eq_true (by kernel_rfl)) h2 hb hlt2) trodAll_mk0)))
  simp only [List.append_nil] at hT
  exact ⟨_, rfl, _, _, _, [], p0 ++ (p1 ++ (p2)), [], hW', trodAll_mk1 (shut_bool Try.underlying4 _), hT, rfl, hb.frame _, fun h => by cases h⟩

theorem plateKeeps_holds : Rows.PlateKeepsSaid :=
  OpenClaim.holds_of_wide 5 Try.f5 rfl rfl rfl rfl rfl rfl rfl ⟨rfl, rfl, rfl, rfl, rfl⟩ rfl rfl rfl rfl rfl (by kernel_rfl) Try.func5 (by kernel_rfl)
    (of_decide_eq_true (by kernel_rfl)) (by unfold Func.isWrapper; first | (rw [if_pos (by decide +kernel)]; kernel_rfl) | (rw [if_neg (by decide +kernel)]; exact ⟨rfl, rfl⟩))
    (fun os started H enc _ => plateKeeps_lifted os started H enc)
#print axioms plateKeeps_holds


end Go.Proofs.Ytnnikgchffkalaa
