/- What SnapTold wants besides: SnRef5, SnKinds, SnPt, SnLine. -/
import Derived.Test.YtfmpibmhhfmajaaGreatDoorSnRef3
import Derived.Test.YtfmpibmhhfmajaaGreatDoorPSc
import Derived.Test.YtfmpibmhhfmajaaGreatDoorPOr
import Derived.Test.YtfmpibmhhfmajaaGreatDoorMgOrders
import Derived.Test.YtfmpibmhhfmajaaGreatDoorSnLay
import Derived.Test.YtfmpibmhhfmajaaGreatDoorRows
import Derived.LaidLaws
import Derived.LaidSub
import Derived.MakeChecks
import Derived.OpenShut
import Derived.Test.YtfmpibmhhfmajaaGreatDoorSnKinds
import Derived.Test.YtfmpibmhhfmajaaGreatDoorMgBase
import Derived.Test.YtfmpibmhhfmajaaGreatDoorPLb
import Derived.Test.YtfmpibmhhfmajaaGreatDoorLbShelf
import Derived.Test.YtfmpibmhhfmajaaGreatDoorPSl
import Derived.Test.YtfmpibmhhfmajaaGreatDoorMgLines
import Derived.Test.YtfmpibmhhfmajaaGreatDoorMgBatches
import Derived.Test.YtfmpibmhhfmajaaGreatDoorMgEffects
import Derived.Test.YtfmpibmhhfmajaaGreatDoorPDy
import Derived.Test.YtfmpibmhhfmajaaGreatDoorDyShelf
import Derived.Test.YtfmpibmhhfmajaaGreatDoorMgState
import Derived.Test.YtfmpibmhhfmajaaGreatDoorMgStates
import Derived.Test.YtfmpibmhhfmajaaGreatDoorMgRight
import Derived.Test.YtfmpibmhhfmajaaGreatDoorMgProg
import Derived.Test.YtfmpibmhhfmajaaGreatDoorMgCopy
import Derived.Test.YtfmpibmhhfmajaaGreatDoorPBt
import Derived.Test.YtfmpibmhhfmajaaGreatDoorPOb
import Derived.Test.YtfmpibmhhfmajaaGreatDoorSnPlain
import Derived.Test.YtfmpibmhhfmajaaGreatDoorSnPlain2
import Derived.Test.YtfmpibmhhfmajaaGreatDoorSnRef4
import Derived.Test.YtfmpibmhhfmajaaGreatDoorSnLines
import Derived.Test.YtfmpibmhhfmajaaGreatDoorSnTold
import Derived.Test.YtfmpibmhhfmajaaGreatDoorSnRight
import Derived.Test.YtfmpibmhhfmajaaGreatDoorSnCon
import Derived.Test.YtfmpibmhhfmajaaGreatDoorSnRow
import Derived.Test.YtfmpibmhhfmajaaGreatDoorSnOwn
import Derived.Test.YtfmpibmhhfmajaaGreatDoorSnRead0
import Derived.Test.YtfmpibmhhfmajaaGreatDoorSnReadP
import Derived.Test.YtfmpibmhhfmajaaGreatDoorSnReadP2
import Derived.Test.YtfmpibmhhfmajaaGreatDoorSnReadP3
import Derived.Test.YtfmpibmhhfmajaaGreatDoorSnReadD
import Derived.Test.YtfmpibmhhfmajaaGreatDoorSnCmd
import Derived.Test.YtfmpibmhhfmajaaGreatDoorSnState
import Derived.Test.YtfmpibmhhfmajaaGreatDoorSnAlive
import Derived.Test.YtfmpibmhhfmajaaGreatDoorRSnapToldA
namespace Go.Proofs.YtfmpibmhhfmajaaGreatDoor

/- SnRef5: The document's Told: the command of bytes. -/
section
set_option maxRecDepth 100000
open Go.RowKit Go.ChangeShapes Go.WideShapes Go.ChangeAt
attribute [local go_sem ↓] ldCm stCm alCm bxCm bdCm
attribute [local go_sem] al_cm bx_cm st_cmnew bd_cm bd_cmKind

/-- What is told lies in memory of the call's own. -/
structure TdI (w : World) (c : Nat) (o : CmR) (s : Sc) (W : World) : Prop where
  res : Row W w.heap.size 26 (cmC noCmR)
  sn : SnS W (w.heap.size + 1) s
  out : Row W c 26 (cmC o)
  own : OwnL W (c + 1) (.slice o.a o.m.ls.length o.c) o.m.ls
  low : Below w.heap.size w W
  hc : w.heap.size + 1 < c
theorem TdI.call {w W W' : World} {c : Nat} {o : CmR} {s s' : Sc} (h : TdI w c o s W) (r : SnS W' (w.heap.size + 1) s') (b : But (w.heap.size + 1) W W') : TdI w c o s' W' := by
  have hc := h.hc
  exact ⟨(b.block _ h.res.lt (by omega)).trans h.res, r, (b.block _ h.out.lt (by omega)).trans h.out, h.own.grown fun k h1 h2 => b.block k h2 (by omega), h.low.trans (b.below (by omega) h.low.size), hc⟩
theorem TdI.set {w W : World} {c : Nat} {o : CmR} {s : Sc} (h : TdI w c o s W) (i : Nat) (v : Value) (o' : CmR) (e : (cmC o).setIfInBounds i v = cmC o') (hl : o'.m.ls = o.m.ls ∧ o'.a = o.a ∧ o'.c = o.c) : TdI w c o' s (W.setCell ⟨c, i, none⟩ v) := by
  have hc := h.hc
  obtain ⟨e1, e2, e3⟩ := hl
  refine ⟨(setCell_els W i v (by omega)).trans h.res, h.sn.other (k := c) hc ((But.refl _ _).set i v), e ▸ h.out.set i v, ?_, h.low.setCell (p := ⟨c, i, none⟩) (show w.heap.size ≤ c by omega) v, hc⟩
  rw [e1, e2, e3]
  exact h.own.cell (k := c) (Nat.lt_succ_self c) i v
theorem TdI.below {w W W' : World} {c : Nat} {o : CmR} {s : Sc} (h : TdI w c o s W) (b : Below W.heap.size W W') : TdI w c o s W' := ⟨h.res.below b, h.sn.below b, h.out.below b, h.own.below b, h.low.trans (b.mono h.low.size), h.hc⟩
theorem TdI.lines {w W W' : World} {c q n : Nat} {o o' : CmR} {s : Sc} (h : TdI w c o s W) (hn : o'.m.ls.length = n) (own : OwnL W' (c + 1) (.slice o'.a n o'.c) o'.m.ls) (hq : c + 1 ≤ q) (b : But q W W') (e : (cmC o).setIfInBounds 2 (.slice o'.a o'.m.ls.length o'.c) = cmC o') : TdI w c o' s (W'.setCell ⟨c, 2, none⟩ (.slice o'.a n o'.c)) := by
  subst hn
  have hc := h.hc
  have h1 : Row W' w.heap.size 26 (cmC noCmR) := (b.block _ h.res.lt (by omega)).trans h.res
  have h2 : Row W' c 26 (cmC o) := (b.block _ h.out.lt (by omega)).trans h.out
  have h3 := h.sn.other (k := q) (by omega) b
  have h4 : Below w.heap.size w W' := h.low.trans (b.below (by omega) h.low.size)
  exact ⟨(setCell_els W' 2 _ (by omega)).trans h1, h3.other (k := c) hc ((But.refl _ _).set 2 _), e ▸ h2.set 2 _, own.cell (k := c) (Nat.lt_succ_self c) 2 _, h4.setCell (p := ⟨c, 2, none⟩) (show w.heap.size ≤ c by omega) _, hc⟩
def FitC (m : Cm) : Prop := (∀ x ∈ m.ls, x.sku.size ≤ 32) ∧ m.ls.length ≤ 8 ∧ m.id.size ≤ 32 ∧ m.car.size ≤ 32 ∧ m.zone.size ≤ 32 ∧ m.serv.size ≤ 32
theorem cmP_own {w : World} {base : Nat} {o : CmR} (h : OwnL w base (.slice o.a o.m.ls.length o.c) o.m.ls) (hf : FitC o.m) : CmP w o := by
  obtain ⟨f1, f2, f3, f4, f5, f6⟩ := hf
  obtain ⟨a', c', e, h1⟩ := h.lns (fun x hx => by unfold maxLen; have := f1 x hx; omega)
  injection e with e1 e2 e3
  have h1 : LnsP w o.a o.c o.m.ls := by rw [e1, e3]; exact h1
  exact ⟨h1, by unfold maxLen; omega, by unfold maxLen; omega, by unfold maxLen; omega, by unfold maxLen; omega, by unfold maxLen; omega⟩
def ToldPost (l : List Nat) (w : World) (e : Ending) (w' : World) : Prop := ∃ r : CmR, e = .returned (.tuple #[cmV r, .int .i64 (toldE l)]) ∧ r.m = toldV l ∧ CmP w' r ∧ Below w.heap.size w w'
theorem told_none {l : List Nat} {m : Cm} {s : Sc} (h : toldS 1000000000000 (some l) = (m, s)) (hn : s ≠ some [] ∨ rightC m = false) : toldV l = noCm ∧ toldE l = 161 := by
  have : toldO 1000000000000 l = none := by
    unfold toldO
    rw [h]
    rcases hn with hn | hn
    · rw [if_neg (by simp [hn])]
    · rw [if_neg (by simp [hn])]
  unfold toldV toldE
  rw [this]
  exact ⟨rfl, rfl⟩
theorem told_some {l : List Nat} {m : Cm} (h : toldS 1000000000000 (some l) = (m, some [])) (hr : rightC m = true) : toldV l = m ∧ toldE l = 0 := by
  have : toldO 1000000000000 l = some m := by
    unfold toldO
    rw [h]
    simp [hr]
  unfold toldV toldE
  rw [this]
  exact ⟨rfl, rfl⟩
theorem empty32 : (⟨#[]⟩ : ByteArray).size ≤ 32 := by decide
theorem strB_32 {s : Sc} (h : BytesS s) : (strB (textS 32 s).1).size ≤ 32 := by rw [strB_size]; exact textS_le 32 h
/-- A Scan of bytes in its variable. -/
theorem sn_new {w : World} {a : Option Addr} {cap : Nat} {l : List Nat} (h : BytesP w a cap l) (o : Obj) : SnS ((w.alloc o).alloc (.cells #[.slice a l.length cap, .bool true] 84)) (w.heap.size + 1) (some l) := by
  have b : Below w.heap.size w ((w.alloc o).alloc (.cells #[.slice a l.length cap, .bool true] 84)) := ((Below.refl _ _).alloc (Nat.le_refl _) _).alloc (by simp) _
  have R := Row.new (w.alloc o) #[.slice a l.length cap, .bool true] 84
  rw [show (w.alloc o).heap.size = w.heap.size + 1 by simp] at R
  refine ⟨a, cap, l, true, R, h.below b, fun hne b' o' e => ?_, rfl⟩
  obtain ⟨b2, o2, e2, h2, _⟩ := h.cell hne
  rw [e] at e2
  injection e2 with e2
  injection e2 with e2
  omega


set_option maxHeartbeats 16000000 in
theorem refTold0 (a : Option Addr) (cap : Nat) (l : List Nat) (w : World) (h : BytesP w a cap l) (hk : (numS 8 (some l)).1 = 0) : Calls Tryz.prog 19 #[.slice a l.length cap] w (ToldPost l w) := by
  rcases h1 : numS 8 (some l) with ⟨v1, s1'⟩
  have hk : v1 = 0 := by rw [h1] at hk; exact hk
  subst hk
  have C1 := Lib.hid (fun W hW => show Calls Tryz.prog 53 #[.pointer (some ⟨w.heap.size + 1, 0, none⟩), .int .u64 8] W (ScanS (w.heap.size + 1) (.int .i64 0) s1' W) by have := scan_num W (w.heap.size + 1) (some l) 8 hW (by decide); rwa [h1] at this)
  have y1 : BytesS s1' := by have := numS_bytes (s := some l) (fun b e => by cases e; exact h.byte) 8; rwa [h1] at this
  have S0 := Lib.hid (sn_new h (.cells (cmC noCmR) 26))
  have R0 : Hid (Row ((w.alloc (.cells (cmC noCmR) 26)).alloc (.cells #[.slice a l.length cap, .bool true] 84)) w.heap.size 26 (cmC noCmR)) := Lib.hid ((Row.new w _ _).more _)
  have B0 : Hid (Below w.heap.size w ((w.alloc (.cells (cmC noCmR) 26)).alloc (.cells #[.slice a l.length cap, .bool true] 84))) := Lib.hid (((Below.refl _ _).alloc (Nat.le_refl _) _).alloc (by simp) _)
  have hz0 : w.heap.size + 2 ≤ ((w.alloc (.cells (cmC noCmR) 26)).alloc (.cells #[.slice a l.length cap, .bool true] 84)).heap.size := by simp
  have HT := Lib.hid (show toldS 1000000000000 (some l) = ((kindR 0).m, s1') by rw [toldS, h1]; rfl)
  have HFit : Hid (FitC (kindR 0).m) := Lib.hid ⟨fun x hx => (by cases hx), by decide, by decide, by decide, by decide, by decide⟩
  clear h1 y1
  clear h
  go_enter Tryz.func19, Tryz.ntmps19
  go_wp2_with fail
  generalize ((w.alloc (.cells (cmC noCmR) 26)).alloc (.cells #[.slice a l.length cap, .bool true] 84)) = W0 at *
  refine (C1.out _ S0.out).mono ?_
  rintro e w1 ⟨rfl, r1, b1⟩
  have K : Hid (TdI w w1.heap.size (kindR 0) s1' (w1.alloc (.cells (cmC (kindR 0)) 26))) := Lib.hid (by
    have b := (Below.refl w1.heap.size w1).alloc (Nat.le_refl _) (.cells (cmC (kindR 0)) 26)
    have hsz := b1.size
    have hR := R0.out.lt
    exact ⟨Row.below (show Row w1 w.heap.size 26 (cmC noCmR) from (b1.block _ hR (by omega)).trans R0.out) b, r1.below b, Row.new _ _ _, OwnL.nil _ _, (B0.out.trans (b1.below (by omega) B0.out.size)).trans (b.mono (Nat.le_trans B0.out.size hsz)), by omega⟩)
  clear r1 b1 S0 R0 B0 C1 hz0
  obtain ⟨⟨c0, _, _, _, _⟩, _, _, _, _⟩ := K.out.out.m
  obtain ⟨sa, sc, sl, ok, r1, r2, r3, r4⟩ := K.out.sn
  obtain ⟨⟨d0, d1⟩, _⟩ := cellsR2 r1
  have hscap := r2.cap
  clear r1 r2 r3
  cases ok with
  | false =>
    have HR4 := Lib.hid r4
    clear r4
    have HX := told_none HT.out (.inl (by rw [HR4.out]; simp))
    have s1 := st_cm K.out.res noCmR
    go_wp2_with fail
    (try simp only [Exit.inBlock, Exit.then])
    apply bodyPost_ret
    case hd => rfl
    case hr => exact results_cell_one rfl _ _ w.heap.size _ rfl (loadCm (setRow_heap _ _ _ _ _ _ K.out.res))
    case hR => exact ⟨noCmR, by rw [HX.2]; rfl, HX.1.symm, CmP.none _, Below.row K.out.low (Nat.le_refl _) _⟩
  | true =>
    by_cases hs : sl = []
    · subst hs
      have HR4 := Lib.hid (show (s1' : Sc) = some [] from by rw [r4]; rfl)
      clear r4
      have CR := Lib.hid (refCmRight_any _ _ (cmP_own K.out.own HFit.out))
      have la := ld_cm K.out.out
      go_wp2_with fail
      refine CR.out.mono ?_
      rintro e w9 ⟨rfl, b9⟩
      have K9 := Lib.hid (K.out.below b9)
      clear la d0 d1 b9
      cases hq : rightC (kindR 0).m with
      | false =>
        have HX := told_none HT.out (.inr hq)
        have s1 := st_cm K9.out.res noCmR
        go_wp2_with fail
        (try simp only [Exit.inBlock, Exit.then])
        apply bodyPost_ret
        case hd => rfl
        case hr => exact results_cell_one rfl _ _ w.heap.size _ rfl (loadCm (setRow_heap _ _ _ _ _ _ K9.out.res))
        case hR => exact ⟨noCmR, by rw [HX.2]; rfl, HX.1.symm, CmP.none _, Below.row K9.out.low (Nat.le_refl _) _⟩
      | true =>
        have HT2 := HT.out
        rw [HR4.out] at HT2
        have HX := told_some HT2 hq
        have la := ld_cm K9.out.out
        have s1 := st_cm K9.out.res (kindR 0)
        go_wp2_with fail
        (try simp only [Exit.inBlock, Exit.then])
        apply bodyPost_ret
        case hd => rfl
        case hr => exact results_cell_one rfl _ _ w.heap.size _ rfl (loadCm (setRow_heap _ _ _ _ _ _ K9.out.res))
        case hR => exact ⟨(kindR 0), by rw [HX.2]; rfl, HX.1.symm, cmP_own (K9.out.own.grown fun k h1 h2 => setRow_other _ _ k _ (by have := K9.out.hc; omega)) HFit.out, Below.row K9.out.low (Nat.le_refl _) _⟩
    · have hpos := List.length_pos_iff.2 hs
      have hpos2 : (0 : Int) < (sl.length : Int) := by omega
      have HNe : Hid ((s1' : Sc) ≠ some []) := Lib.hid (fun e => hs (by have q := r4.symm.trans e; simpa using q))
      clear hs r4
      have HX := told_none HT.out (.inl HNe.out)
      have s1 := st_cm K.out.res noCmR
      go_wp2_with fail
      (try simp only [Exit.inBlock, Exit.then])
      apply bodyPost_ret
      case hd => rfl
      case hr => exact results_cell_one rfl _ _ w.heap.size _ rfl (loadCm (setRow_heap _ _ _ _ _ _ K.out.res))
      case hR => exact ⟨noCmR, by rw [HX.2]; rfl, HX.1.symm, CmP.none _, Below.row K.out.low (Nat.le_refl _) _⟩


set_option maxHeartbeats 16000000 in
theorem refTold2 (a : Option Addr) (cap : Nat) (l : List Nat) (w : World) (h : BytesP w a cap l) (hk : (numS 8 (some l)).1 = 2) : Calls Tryz.prog 19 #[.slice a l.length cap] w (ToldPost l w) := by
  rcases h1 : numS 8 (some l) with ⟨v1, s1'⟩
  have hk : v1 = 2 := by rw [h1] at hk; exact hk
  subst hk
  have C1 := Lib.hid (fun W hW => show Calls Tryz.prog 53 #[.pointer (some ⟨w.heap.size + 1, 0, none⟩), .int .u64 8] W (ScanS (w.heap.size + 1) (.int .i64 2) s1' W) by have := scan_num W (w.heap.size + 1) (some l) 8 hW (by decide); rwa [h1] at this)
  have y1 : BytesS s1' := by have := numS_bytes (s := some l) (fun b e => by cases e; exact h.byte) 8; rwa [h1] at this
  have S0 := Lib.hid (sn_new h (.cells (cmC noCmR) 26))
  have R0 : Hid (Row ((w.alloc (.cells (cmC noCmR) 26)).alloc (.cells #[.slice a l.length cap, .bool true] 84)) w.heap.size 26 (cmC noCmR)) := Lib.hid ((Row.new w _ _).more _)
  have B0 : Hid (Below w.heap.size w ((w.alloc (.cells (cmC noCmR) 26)).alloc (.cells #[.slice a l.length cap, .bool true] 84))) := Lib.hid (((Below.refl _ _).alloc (Nat.le_refl _) _).alloc (by simp) _)
  have hz0 : w.heap.size + 2 ≤ ((w.alloc (.cells (cmC noCmR) 26)).alloc (.cells #[.slice a l.length cap, .bool true] 84)).heap.size := by simp
  rcases h2 : textS 32 s1' with ⟨v2, s2⟩
  have C2 := Lib.hid (fun W hW => show Calls Tryz.prog 54 #[.pointer (some ⟨w.heap.size + 1, 0, none⟩), .int .u64 32] W (ScanS (w.heap.size + 1) (.string (strB v2)) s2 W) by have := scan_text W (w.heap.size + 1) s1' 32 hW (by decide); rwa [h2] at this)
  have y2 : BytesS s2 := by have := (textS_bytes y1 32).1; rwa [h2] at this
  have HT := Lib.hid (show toldS 1000000000000 (some l) = ((⟨2, strB v2, [], ⟨#[]⟩, ⟨#[]⟩, ⟨#[]⟩, 0, 0, false⟩ : Cm), s2) by rw [toldS, h1]; show idS 2 s1' = _; rw [idS, h2]; rfl)
  have z2 : (strB v2).size ≤ 32 := by have := strB_32 y1; rwa [h2] at this
  have HFit : Hid (FitC ⟨2, strB v2, [], ⟨#[]⟩, ⟨#[]⟩, ⟨#[]⟩, 0, 0, false⟩) := Lib.hid ⟨fun x hx => (by cases hx), by simp, z2, empty32, empty32, empty32⟩
  clear h1 y1 h2 y2 z2
  clear h
  go_enter Tryz.func19, Tryz.ntmps19
  go_wp2_with fail
  generalize ((w.alloc (.cells (cmC noCmR) 26)).alloc (.cells #[.slice a l.length cap, .bool true] 84)) = W0 at *
  refine (C1.out _ S0.out).mono ?_
  rintro e w1 ⟨rfl, r1, b1⟩
  have K : Hid (TdI w w1.heap.size (kindR 2) s1' (w1.alloc (.cells (cmC (kindR 2)) 26))) := Lib.hid (by
    have b := (Below.refl w1.heap.size w1).alloc (Nat.le_refl _) (.cells (cmC (kindR 2)) 26)
    have hsz := b1.size
    have hR := R0.out.lt
    exact ⟨Row.below (show Row w1 w.heap.size 26 (cmC noCmR) from (b1.block _ hR (by omega)).trans R0.out) b, r1.below b, Row.new _ _ _, OwnL.nil _ _, (B0.out.trans (b1.below (by omega) B0.out.size)).trans (b.mono (Nat.le_trans B0.out.size hsz)), by omega⟩)
  clear r1 b1 S0 R0 B0 C1 hz0
  obtain ⟨⟨c0, _, _, _, _⟩, _, _, _, _⟩ := K.out.out.m
  go_wp2_with fail
  clear c0
  generalize w1.alloc (.cells (cmC (kindR 2)) 26) = W1 at *
  generalize w1.heap.size = c at *
  refine (C2.out _ K.out.sn).mono ?_
  rintro e w2 ⟨rfl, r2, b2⟩
  have J := Lib.hid (K.out.call r2 b2)
  clear r2 b2 K C2
  obtain ⟨⟨c0, _, _, _, _⟩, _, _, _, _⟩ := J.out.out.m
  obtain ⟨⟨_, g1, g2, g3, g4⟩, g5, g6, g7, g8⟩ := J.out.out.m
  have ff := J.out.out.free 1
  have K := Lib.hid (J.out.set 1 (.string (strB v2)) (⟨⟨2, strB v2, [], ⟨#[]⟩, ⟨#[]⟩, ⟨#[]⟩, 0, 0, false⟩, none, 0⟩) rfl ⟨rfl, rfl, rfl⟩)
  clear J
  obtain ⟨sa, sc, sl, ok, r1, r2, r3, r4⟩ := K.out.sn
  obtain ⟨⟨d0, d1⟩, _⟩ := cellsR2 r1
  have hscap := r2.cap
  clear r1 r2 r3
  cases ok with
  | false =>
    have HR4 := Lib.hid r4
    clear r4
    have HX := told_none HT.out (.inl (by rw [HR4.out]; simp))
    have s1 := st_cm K.out.res noCmR
    go_wp2_with fail
    (try simp only [Exit.inBlock, Exit.then])
    apply bodyPost_ret
    case hd => rfl
    case hr => exact results_cell_one rfl _ _ w.heap.size _ rfl (loadCm (setRow_heap _ _ _ _ _ _ K.out.res))
    case hR => exact ⟨noCmR, by rw [HX.2]; rfl, HX.1.symm, CmP.none _, Below.row K.out.low (Nat.le_refl _) _⟩
  | true =>
    by_cases hs : sl = []
    · subst hs
      have HR4 := Lib.hid (show (s2 : Sc) = some [] from by rw [r4]; rfl)
      clear r4
      have CR := Lib.hid (refCmRight_any _ _ (cmP_own K.out.own HFit.out))
      have la := ld_cm K.out.out
      go_wp2_with fail
      refine CR.out.mono ?_
      rintro e w9 ⟨rfl, b9⟩
      have K9 := Lib.hid (K.out.below b9)
      clear la d0 d1 b9
      cases hq : rightC (⟨2, strB v2, [], ⟨#[]⟩, ⟨#[]⟩, ⟨#[]⟩, 0, 0, false⟩ : Cm) with
      | false =>
        have HX := told_none HT.out (.inr hq)
        have s1 := st_cm K9.out.res noCmR
        go_wp2_with fail
        (try simp only [Exit.inBlock, Exit.then])
        apply bodyPost_ret
        case hd => rfl
        case hr => exact results_cell_one rfl _ _ w.heap.size _ rfl (loadCm (setRow_heap _ _ _ _ _ _ K9.out.res))
        case hR => exact ⟨noCmR, by rw [HX.2]; rfl, HX.1.symm, CmP.none _, Below.row K9.out.low (Nat.le_refl _) _⟩
      | true =>
        have HT2 := HT.out
        rw [HR4.out] at HT2
        have HX := told_some HT2 hq
        have la := ld_cm K9.out.out
        have s1 := st_cm K9.out.res (⟨⟨2, strB v2, [], ⟨#[]⟩, ⟨#[]⟩, ⟨#[]⟩, 0, 0, false⟩, none, 0⟩ : CmR)
        go_wp2_with fail
        (try simp only [Exit.inBlock, Exit.then])
        apply bodyPost_ret
        case hd => rfl
        case hr => exact results_cell_one rfl _ _ w.heap.size _ rfl (loadCm (setRow_heap _ _ _ _ _ _ K9.out.res))
        case hR => exact ⟨(⟨⟨2, strB v2, [], ⟨#[]⟩, ⟨#[]⟩, ⟨#[]⟩, 0, 0, false⟩, none, 0⟩ : CmR), by rw [HX.2]; rfl, HX.1.symm, cmP_own (K9.out.own.grown fun k h1 h2 => setRow_other _ _ k _ (by have := K9.out.hc; omega)) HFit.out, Below.row K9.out.low (Nat.le_refl _) _⟩
    · have hpos := List.length_pos_iff.2 hs
      have hpos2 : (0 : Int) < (sl.length : Int) := by omega
      have HNe : Hid ((s2 : Sc) ≠ some []) := Lib.hid (fun e => hs (by have q := r4.symm.trans e; simpa using q))
      clear hs r4
      have HX := told_none HT.out (.inl HNe.out)
      have s1 := st_cm K.out.res noCmR
      go_wp2_with fail
      (try simp only [Exit.inBlock, Exit.then])
      apply bodyPost_ret
      case hd => rfl
      case hr => exact results_cell_one rfl _ _ w.heap.size _ rfl (loadCm (setRow_heap _ _ _ _ _ _ K.out.res))
      case hR => exact ⟨noCmR, by rw [HX.2]; rfl, HX.1.symm, CmP.none _, Below.row K.out.low (Nat.le_refl _) _⟩


set_option maxHeartbeats 16000000 in
theorem refTold3 (a : Option Addr) (cap : Nat) (l : List Nat) (w : World) (h : BytesP w a cap l) (hk : (numS 8 (some l)).1 = 3) : Calls Tryz.prog 19 #[.slice a l.length cap] w (ToldPost l w) := by
  rcases h1 : numS 8 (some l) with ⟨v1, s1'⟩
  have hk : v1 = 3 := by rw [h1] at hk; exact hk
  subst hk
  have C1 := Lib.hid (fun W hW => show Calls Tryz.prog 53 #[.pointer (some ⟨w.heap.size + 1, 0, none⟩), .int .u64 8] W (ScanS (w.heap.size + 1) (.int .i64 3) s1' W) by have := scan_num W (w.heap.size + 1) (some l) 8 hW (by decide); rwa [h1] at this)
  have y1 : BytesS s1' := by have := numS_bytes (s := some l) (fun b e => by cases e; exact h.byte) 8; rwa [h1] at this
  have S0 := Lib.hid (sn_new h (.cells (cmC noCmR) 26))
  have R0 : Hid (Row ((w.alloc (.cells (cmC noCmR) 26)).alloc (.cells #[.slice a l.length cap, .bool true] 84)) w.heap.size 26 (cmC noCmR)) := Lib.hid ((Row.new w _ _).more _)
  have B0 : Hid (Below w.heap.size w ((w.alloc (.cells (cmC noCmR) 26)).alloc (.cells #[.slice a l.length cap, .bool true] 84))) := Lib.hid (((Below.refl _ _).alloc (Nat.le_refl _) _).alloc (by simp) _)
  have hz0 : w.heap.size + 2 ≤ ((w.alloc (.cells (cmC noCmR) 26)).alloc (.cells #[.slice a l.length cap, .bool true] 84)).heap.size := by simp
  rcases h2 : textS 32 s1' with ⟨v2, s2⟩
  have C2 := Lib.hid (fun W hW => show Calls Tryz.prog 54 #[.pointer (some ⟨w.heap.size + 1, 0, none⟩), .int .u64 32] W (ScanS (w.heap.size + 1) (.string (strB v2)) s2 W) by have := scan_text W (w.heap.size + 1) s1' 32 hW (by decide); rwa [h2] at this)
  have y2 : BytesS s2 := by have := (textS_bytes y1 32).1; rwa [h2] at this
  rcases h3 : textS 32 s2 with ⟨v3, s3⟩
  have C3 := Lib.hid (fun W hW => show Calls Tryz.prog 54 #[.pointer (some ⟨w.heap.size + 1, 0, none⟩), .int .u64 32] W (ScanS (w.heap.size + 1) (.string (strB v3)) s3 W) by have := scan_text W (w.heap.size + 1) s2 32 hW (by decide); rwa [h3] at this)
  have y3 : BytesS s3 := by have := (textS_bytes y2 32).1; rwa [h3] at this
  rcases h4 : textS 32 s3 with ⟨v4, s4⟩
  have C4 := Lib.hid (fun W hW => show Calls Tryz.prog 54 #[.pointer (some ⟨w.heap.size + 1, 0, none⟩), .int .u64 32] W (ScanS (w.heap.size + 1) (.string (strB v4)) s4 W) by have := scan_text W (w.heap.size + 1) s3 32 hW (by decide); rwa [h4] at this)
  have y4 : BytesS s4 := by have := (textS_bytes y3 32).1; rwa [h4] at this
  rcases h5 : textS 32 s4 with ⟨v5, s5⟩
  have C5 := Lib.hid (fun W hW => show Calls Tryz.prog 54 #[.pointer (some ⟨w.heap.size + 1, 0, none⟩), .int .u64 32] W (ScanS (w.heap.size + 1) (.string (strB v5)) s5 W) by have := scan_text W (w.heap.size + 1) s4 32 hW (by decide); rwa [h5] at this)
  have y5 : BytesS s5 := by have := (textS_bytes y4 32).1; rwa [h5] at this
  have HT := Lib.hid (show toldS 1000000000000 (some l) = ((⟨3, strB v2, [], strB v3, strB v4, strB v5, 0, 0, false⟩ : Cm), s5) by rw [toldS, h1]; show amendS 3 s1' = _; simp only [amendS, groupS, h2, h3, h4, h5]; rfl)
  have z2 : (strB v2).size ≤ 32 := by have := strB_32 y1; rwa [h2] at this
  have z3 : (strB v3).size ≤ 32 := by have := strB_32 y2; rwa [h3] at this
  have z4 : (strB v4).size ≤ 32 := by have := strB_32 y3; rwa [h4] at this
  have z5 : (strB v5).size ≤ 32 := by have := strB_32 y4; rwa [h5] at this
  have HFit : Hid (FitC ⟨3, strB v2, [], strB v3, strB v4, strB v5, 0, 0, false⟩) := Lib.hid ⟨fun x hx => (by cases hx), by simp, z2, z3, z4, z5⟩
  clear h1 y1 h2 y2 z2 h3 y3 z3 h4 y4 z4 h5 y5 z5
  clear h
  go_enter Tryz.func19, Tryz.ntmps19
  go_wp2_with fail
  generalize ((w.alloc (.cells (cmC noCmR) 26)).alloc (.cells #[.slice a l.length cap, .bool true] 84)) = W0 at *
  refine (C1.out _ S0.out).mono ?_
  rintro e w1 ⟨rfl, r1, b1⟩
  have K : Hid (TdI w w1.heap.size (kindR 3) s1' (w1.alloc (.cells (cmC (kindR 3)) 26))) := Lib.hid (by
    have b := (Below.refl w1.heap.size w1).alloc (Nat.le_refl _) (.cells (cmC (kindR 3)) 26)
    have hsz := b1.size
    have hR := R0.out.lt
    exact ⟨Row.below (show Row w1 w.heap.size 26 (cmC noCmR) from (b1.block _ hR (by omega)).trans R0.out) b, r1.below b, Row.new _ _ _, OwnL.nil _ _, (B0.out.trans (b1.below (by omega) B0.out.size)).trans (b.mono (Nat.le_trans B0.out.size hsz)), by omega⟩)
  clear r1 b1 S0 R0 B0 C1 hz0
  obtain ⟨⟨c0, _, _, _, _⟩, _, _, _, _⟩ := K.out.out.m
  go_wp2_with fail
  clear c0
  generalize w1.alloc (.cells (cmC (kindR 3)) 26) = W1 at *
  generalize w1.heap.size = c at *
  refine (C2.out _ K.out.sn).mono ?_
  rintro e w2 ⟨rfl, r2, b2⟩
  have J := Lib.hid (K.out.call r2 b2)
  clear r2 b2 K C2
  obtain ⟨⟨c0, _, _, _, _⟩, _, _, _, _⟩ := J.out.out.m
  obtain ⟨⟨_, g1, g2, g3, g4⟩, g5, g6, g7, g8⟩ := J.out.out.m
  have ff := J.out.out.free 1
  have K := Lib.hid (J.out.set 1 (.string (strB v2)) (⟨⟨3, strB v2, [], ⟨#[]⟩, ⟨#[]⟩, ⟨#[]⟩, 0, 0, false⟩, none, 0⟩) rfl ⟨rfl, rfl, rfl⟩)
  clear J
  go_wp2_with fail
  clear c0 g1 g2 g3 g4 g5 g6 g7 g8 ff
  generalize w2.setCell ⟨c, 1, none⟩ (.string (strB v2)) = W2 at *
  refine (C3.out _ K.out.sn).mono ?_
  rintro e w3 ⟨rfl, r2, b2⟩
  have J := Lib.hid (K.out.call r2 b2)
  clear r2 b2 K C3
  obtain ⟨⟨c0, _, _, _, _⟩, _, _, _, _⟩ := J.out.out.m
  obtain ⟨⟨_, g1, g2, g3, g4⟩, g5, g6, g7, g8⟩ := J.out.out.m
  have ff := J.out.out.free 3
  have K := Lib.hid (J.out.set 3 (.string (strB v3)) (⟨⟨3, strB v2, [], strB v3, ⟨#[]⟩, ⟨#[]⟩, 0, 0, false⟩, none, 0⟩) rfl ⟨rfl, rfl, rfl⟩)
  clear J
  go_wp2_with fail
  clear c0 g1 g2 g3 g4 g5 g6 g7 g8 ff
  generalize w3.setCell ⟨c, 3, none⟩ (.string (strB v3)) = W3 at *
  refine (C4.out _ K.out.sn).mono ?_
  rintro e w4 ⟨rfl, r2, b2⟩
  have J := Lib.hid (K.out.call r2 b2)
  clear r2 b2 K C4
  obtain ⟨⟨c0, _, _, _, _⟩, _, _, _, _⟩ := J.out.out.m
  obtain ⟨⟨_, g1, g2, g3, g4⟩, g5, g6, g7, g8⟩ := J.out.out.m
  have ff := J.out.out.free 4
  have K := Lib.hid (J.out.set 4 (.string (strB v4)) (⟨⟨3, strB v2, [], strB v3, strB v4, ⟨#[]⟩, 0, 0, false⟩, none, 0⟩) rfl ⟨rfl, rfl, rfl⟩)
  clear J
  go_wp2_with fail
  clear c0 g1 g2 g3 g4 g5 g6 g7 g8 ff
  generalize w4.setCell ⟨c, 4, none⟩ (.string (strB v4)) = W4 at *
  refine (C5.out _ K.out.sn).mono ?_
  rintro e w5 ⟨rfl, r2, b2⟩
  have J := Lib.hid (K.out.call r2 b2)
  clear r2 b2 K C5
  obtain ⟨⟨c0, _, _, _, _⟩, _, _, _, _⟩ := J.out.out.m
  obtain ⟨⟨_, g1, g2, g3, g4⟩, g5, g6, g7, g8⟩ := J.out.out.m
  have ff := J.out.out.free 5
  have K := Lib.hid (J.out.set 5 (.string (strB v5)) (⟨⟨3, strB v2, [], strB v3, strB v4, strB v5, 0, 0, false⟩, none, 0⟩) rfl ⟨rfl, rfl, rfl⟩)
  clear J
  obtain ⟨sa, sc, sl, ok, r1, r2, r3, r4⟩ := K.out.sn
  obtain ⟨⟨d0, d1⟩, _⟩ := cellsR2 r1
  have hscap := r2.cap
  clear r1 r2 r3
  cases ok with
  | false =>
    have HR4 := Lib.hid r4
    clear r4
    have HX := told_none HT.out (.inl (by rw [HR4.out]; simp))
    have s1 := st_cm K.out.res noCmR
    go_wp2_with fail
    (try simp only [Exit.inBlock, Exit.then])
    apply bodyPost_ret
    case hd => rfl
    case hr => exact results_cell_one rfl _ _ w.heap.size _ rfl (loadCm (setRow_heap _ _ _ _ _ _ K.out.res))
    case hR => exact ⟨noCmR, by rw [HX.2]; rfl, HX.1.symm, CmP.none _, Below.row K.out.low (Nat.le_refl _) _⟩
  | true =>
    by_cases hs : sl = []
    · subst hs
      have HR4 := Lib.hid (show (s5 : Sc) = some [] from by rw [r4]; rfl)
      clear r4
      have CR := Lib.hid (refCmRight_any _ _ (cmP_own K.out.own HFit.out))
      have la := ld_cm K.out.out
      go_wp2_with fail
      refine CR.out.mono ?_
      rintro e w9 ⟨rfl, b9⟩
      have K9 := Lib.hid (K.out.below b9)
      clear la d0 d1 b9
      cases hq : rightC (⟨3, strB v2, [], strB v3, strB v4, strB v5, 0, 0, false⟩ : Cm) with
      | false =>
        have HX := told_none HT.out (.inr hq)
        have s1 := st_cm K9.out.res noCmR
        go_wp2_with fail
        (try simp only [Exit.inBlock, Exit.then])
        apply bodyPost_ret
        case hd => rfl
        case hr => exact results_cell_one rfl _ _ w.heap.size _ rfl (loadCm (setRow_heap _ _ _ _ _ _ K9.out.res))
        case hR => exact ⟨noCmR, by rw [HX.2]; rfl, HX.1.symm, CmP.none _, Below.row K9.out.low (Nat.le_refl _) _⟩
      | true =>
        have HT2 := HT.out
        rw [HR4.out] at HT2
        have HX := told_some HT2 hq
        have la := ld_cm K9.out.out
        have s1 := st_cm K9.out.res (⟨⟨3, strB v2, [], strB v3, strB v4, strB v5, 0, 0, false⟩, none, 0⟩ : CmR)
        go_wp2_with fail
        (try simp only [Exit.inBlock, Exit.then])
        apply bodyPost_ret
        case hd => rfl
        case hr => exact results_cell_one rfl _ _ w.heap.size _ rfl (loadCm (setRow_heap _ _ _ _ _ _ K9.out.res))
        case hR => exact ⟨(⟨⟨3, strB v2, [], strB v3, strB v4, strB v5, 0, 0, false⟩, none, 0⟩ : CmR), by rw [HX.2]; rfl, HX.1.symm, cmP_own (K9.out.own.grown fun k h1 h2 => setRow_other _ _ k _ (by have := K9.out.hc; omega)) HFit.out, Below.row K9.out.low (Nat.le_refl _) _⟩
    · have hpos := List.length_pos_iff.2 hs
      have hpos2 : (0 : Int) < (sl.length : Int) := by omega
      have HNe : Hid ((s5 : Sc) ≠ some []) := Lib.hid (fun e => hs (by have q := r4.symm.trans e; simpa using q))
      clear hs r4
      have HX := told_none HT.out (.inl HNe.out)
      have s1 := st_cm K.out.res noCmR
      go_wp2_with fail
      (try simp only [Exit.inBlock, Exit.then])
      apply bodyPost_ret
      case hd => rfl
      case hr => exact results_cell_one rfl _ _ w.heap.size _ rfl (loadCm (setRow_heap _ _ _ _ _ _ K.out.res))
      case hR => exact ⟨noCmR, by rw [HX.2]; rfl, HX.1.symm, CmP.none _, Below.row K.out.low (Nat.le_refl _) _⟩


set_option maxHeartbeats 16000000 in
theorem refTold4 (a : Option Addr) (cap : Nat) (l : List Nat) (w : World) (h : BytesP w a cap l) (hk : (numS 8 (some l)).1 = 4) : Calls Tryz.prog 19 #[.slice a l.length cap] w (ToldPost l w) := by
  rcases h1 : numS 8 (some l) with ⟨v1, s1'⟩
  have hk : v1 = 4 := by rw [h1] at hk; exact hk
  subst hk
  have C1 := Lib.hid (fun W hW => show Calls Tryz.prog 53 #[.pointer (some ⟨w.heap.size + 1, 0, none⟩), .int .u64 8] W (ScanS (w.heap.size + 1) (.int .i64 4) s1' W) by have := scan_num W (w.heap.size + 1) (some l) 8 hW (by decide); rwa [h1] at this)
  have y1 : BytesS s1' := by have := numS_bytes (s := some l) (fun b e => by cases e; exact h.byte) 8; rwa [h1] at this
  have S0 := Lib.hid (sn_new h (.cells (cmC noCmR) 26))
  have R0 : Hid (Row ((w.alloc (.cells (cmC noCmR) 26)).alloc (.cells #[.slice a l.length cap, .bool true] 84)) w.heap.size 26 (cmC noCmR)) := Lib.hid ((Row.new w _ _).more _)
  have B0 : Hid (Below w.heap.size w ((w.alloc (.cells (cmC noCmR) 26)).alloc (.cells #[.slice a l.length cap, .bool true] 84))) := Lib.hid (((Below.refl _ _).alloc (Nat.le_refl _) _).alloc (by simp) _)
  have hz0 : w.heap.size + 2 ≤ ((w.alloc (.cells (cmC noCmR) 26)).alloc (.cells #[.slice a l.length cap, .bool true] 84)).heap.size := by simp
  rcases h2 : numS 1000000000000 s1' with ⟨v2, s2⟩
  have C2 := Lib.hid (fun W hW => show Calls Tryz.prog 53 #[.pointer (some ⟨w.heap.size + 1, 0, none⟩), .int .u64 1000000000000] W (ScanS (w.heap.size + 1) (.int .i64 (v2 : Int)) s2 W) by have := scan_num W (w.heap.size + 1) s1' 1000000000000 hW (by decide); rwa [h2] at this)
  have y2 : BytesS s2 := by have := numS_bytes y1 1000000000000; rwa [h2] at this
  have HT := Lib.hid (show toldS 1000000000000 (some l) = ((⟨4, ⟨#[]⟩, [], ⟨#[]⟩, ⟨#[]⟩, ⟨#[]⟩, 0, (v2 : Int), false⟩ : Cm), s2) by rw [toldS, h1]; show tickS 1000000000000 4 s1' = _; rw [tickS, h2]; rfl)
  have HFit : Hid (FitC ⟨4, ⟨#[]⟩, [], ⟨#[]⟩, ⟨#[]⟩, ⟨#[]⟩, 0, (v2 : Int), false⟩) := Lib.hid ⟨fun x hx => (by cases hx), by simp, empty32, empty32, empty32, empty32⟩
  clear h1 y1 h2 y2
  clear h
  go_enter Tryz.func19, Tryz.ntmps19
  go_wp2_with fail
  generalize ((w.alloc (.cells (cmC noCmR) 26)).alloc (.cells #[.slice a l.length cap, .bool true] 84)) = W0 at *
  refine (C1.out _ S0.out).mono ?_
  rintro e w1 ⟨rfl, r1, b1⟩
  have K : Hid (TdI w w1.heap.size (kindR 4) s1' (w1.alloc (.cells (cmC (kindR 4)) 26))) := Lib.hid (by
    have b := (Below.refl w1.heap.size w1).alloc (Nat.le_refl _) (.cells (cmC (kindR 4)) 26)
    have hsz := b1.size
    have hR := R0.out.lt
    exact ⟨Row.below (show Row w1 w.heap.size 26 (cmC noCmR) from (b1.block _ hR (by omega)).trans R0.out) b, r1.below b, Row.new _ _ _, OwnL.nil _ _, (B0.out.trans (b1.below (by omega) B0.out.size)).trans (b.mono (Nat.le_trans B0.out.size hsz)), by omega⟩)
  clear r1 b1 S0 R0 B0 C1 hz0
  obtain ⟨⟨c0, _, _, _, _⟩, _, _, _, _⟩ := K.out.out.m
  go_wp2_with fail
  clear c0
  generalize w1.alloc (.cells (cmC (kindR 4)) 26) = W1 at *
  generalize w1.heap.size = c at *
  refine (C2.out _ K.out.sn).mono ?_
  rintro e w2 ⟨rfl, r2, b2⟩
  have J := Lib.hid (K.out.call r2 b2)
  clear r2 b2 K C2
  obtain ⟨⟨c0, _, _, _, _⟩, _, _, _, _⟩ := J.out.out.m
  obtain ⟨⟨_, g1, g2, g3, g4⟩, g5, g6, g7, g8⟩ := J.out.out.m
  have ff := J.out.out.free 7
  have K := Lib.hid (J.out.set 7 (.int .i64 (v2 : Int)) (⟨⟨4, ⟨#[]⟩, [], ⟨#[]⟩, ⟨#[]⟩, ⟨#[]⟩, 0, (v2 : Int), false⟩, none, 0⟩) rfl ⟨rfl, rfl, rfl⟩)
  clear J
  obtain ⟨sa, sc, sl, ok, r1, r2, r3, r4⟩ := K.out.sn
  obtain ⟨⟨d0, d1⟩, _⟩ := cellsR2 r1
  have hscap := r2.cap
  clear r1 r2 r3
  cases ok with
  | false =>
    have HR4 := Lib.hid r4
    clear r4
    have HX := told_none HT.out (.inl (by rw [HR4.out]; simp))
    have s1 := st_cm K.out.res noCmR
    go_wp2_with fail
    (try simp only [Exit.inBlock, Exit.then])
    apply bodyPost_ret
    case hd => rfl
    case hr => exact results_cell_one rfl _ _ w.heap.size _ rfl (loadCm (setRow_heap _ _ _ _ _ _ K.out.res))
    case hR => exact ⟨noCmR, by rw [HX.2]; rfl, HX.1.symm, CmP.none _, Below.row K.out.low (Nat.le_refl _) _⟩
  | true =>
    by_cases hs : sl = []
    · subst hs
      have HR4 := Lib.hid (show (s2 : Sc) = some [] from by rw [r4]; rfl)
      clear r4
      have CR := Lib.hid (refCmRight_any _ _ (cmP_own K.out.own HFit.out))
      have la := ld_cm K.out.out
      go_wp2_with fail
      refine CR.out.mono ?_
      rintro e w9 ⟨rfl, b9⟩
      have K9 := Lib.hid (K.out.below b9)
      clear la d0 d1 b9
      cases hq : rightC (⟨4, ⟨#[]⟩, [], ⟨#[]⟩, ⟨#[]⟩, ⟨#[]⟩, 0, (v2 : Int), false⟩ : Cm) with
      | false =>
        have HX := told_none HT.out (.inr hq)
        have s1 := st_cm K9.out.res noCmR
        go_wp2_with fail
        (try simp only [Exit.inBlock, Exit.then])
        apply bodyPost_ret
        case hd => rfl
        case hr => exact results_cell_one rfl _ _ w.heap.size _ rfl (loadCm (setRow_heap _ _ _ _ _ _ K9.out.res))
        case hR => exact ⟨noCmR, by rw [HX.2]; rfl, HX.1.symm, CmP.none _, Below.row K9.out.low (Nat.le_refl _) _⟩
      | true =>
        have HT2 := HT.out
        rw [HR4.out] at HT2
        have HX := told_some HT2 hq
        have la := ld_cm K9.out.out
        have s1 := st_cm K9.out.res (⟨⟨4, ⟨#[]⟩, [], ⟨#[]⟩, ⟨#[]⟩, ⟨#[]⟩, 0, (v2 : Int), false⟩, none, 0⟩ : CmR)
        go_wp2_with fail
        (try simp only [Exit.inBlock, Exit.then])
        apply bodyPost_ret
        case hd => rfl
        case hr => exact results_cell_one rfl _ _ w.heap.size _ rfl (loadCm (setRow_heap _ _ _ _ _ _ K9.out.res))
        case hR => exact ⟨(⟨⟨4, ⟨#[]⟩, [], ⟨#[]⟩, ⟨#[]⟩, ⟨#[]⟩, 0, (v2 : Int), false⟩, none, 0⟩ : CmR), by rw [HX.2]; rfl, HX.1.symm, cmP_own (K9.out.own.grown fun k h1 h2 => setRow_other _ _ k _ (by have := K9.out.hc; omega)) HFit.out, Below.row K9.out.low (Nat.le_refl _) _⟩
    · have hpos := List.length_pos_iff.2 hs
      have hpos2 : (0 : Int) < (sl.length : Int) := by omega
      have HNe : Hid ((s2 : Sc) ≠ some []) := Lib.hid (fun e => hs (by have q := r4.symm.trans e; simpa using q))
      clear hs r4
      have HX := told_none HT.out (.inl HNe.out)
      have s1 := st_cm K.out.res noCmR
      go_wp2_with fail
      (try simp only [Exit.inBlock, Exit.then])
      apply bodyPost_ret
      case hd => rfl
      case hr => exact results_cell_one rfl _ _ w.heap.size _ rfl (loadCm (setRow_heap _ _ _ _ _ _ K.out.res))
      case hR => exact ⟨noCmR, by rw [HX.2]; rfl, HX.1.symm, CmP.none _, Below.row K.out.low (Nat.le_refl _) _⟩


set_option maxHeartbeats 16000000 in
theorem refTold5 (a : Option Addr) (cap : Nat) (l : List Nat) (w : World) (h : BytesP w a cap l) (hk : (numS 8 (some l)).1 = 5) : Calls Tryz.prog 19 #[.slice a l.length cap] w (ToldPost l w) := by
  rcases h1 : numS 8 (some l) with ⟨v1, s1'⟩
  have hk : v1 = 5 := by rw [h1] at hk; exact hk
  subst hk
  have C1 := Lib.hid (fun W hW => show Calls Tryz.prog 53 #[.pointer (some ⟨w.heap.size + 1, 0, none⟩), .int .u64 8] W (ScanS (w.heap.size + 1) (.int .i64 5) s1' W) by have := scan_num W (w.heap.size + 1) (some l) 8 hW (by decide); rwa [h1] at this)
  have y1 : BytesS s1' := by have := numS_bytes (s := some l) (fun b e => by cases e; exact h.byte) 8; rwa [h1] at this
  have S0 := Lib.hid (sn_new h (.cells (cmC noCmR) 26))
  have R0 : Hid (Row ((w.alloc (.cells (cmC noCmR) 26)).alloc (.cells #[.slice a l.length cap, .bool true] 84)) w.heap.size 26 (cmC noCmR)) := Lib.hid ((Row.new w _ _).more _)
  have B0 : Hid (Below w.heap.size w ((w.alloc (.cells (cmC noCmR) 26)).alloc (.cells #[.slice a l.length cap, .bool true] 84))) := Lib.hid (((Below.refl _ _).alloc (Nat.le_refl _) _).alloc (by simp) _)
  have hz0 : w.heap.size + 2 ≤ ((w.alloc (.cells (cmC noCmR) 26)).alloc (.cells #[.slice a l.length cap, .bool true] 84)).heap.size := by simp
  rcases h2 : numS 1000000000000 s1' with ⟨v2, s2⟩
  have C2 := Lib.hid (fun W hW => show Calls Tryz.prog 53 #[.pointer (some ⟨w.heap.size + 1, 0, none⟩), .int .u64 1000000000000] W (ScanS (w.heap.size + 1) (.int .i64 (v2 : Int)) s2 W) by have := scan_num W (w.heap.size + 1) s1' 1000000000000 hW (by decide); rwa [h2] at this)
  have y2 : BytesS s2 := by have := numS_bytes y1 1000000000000; rwa [h2] at this
  rcases h3 : numS 1 s2 with ⟨v3, s3⟩
  have C3 := Lib.hid (fun W hW => show Calls Tryz.prog 53 #[.pointer (some ⟨w.heap.size + 1, 0, none⟩), .int .u64 1] W (ScanS (w.heap.size + 1) (.int .i64 (v3 : Int)) s3 W) by have := scan_num W (w.heap.size + 1) s2 1 hW (by decide); rwa [h3] at this)
  have y3 : BytesS s3 := by have := numS_bytes y2 1; rwa [h3] at this
  have HT := Lib.hid (show toldS 1000000000000 (some l) = ((⟨5, ⟨#[]⟩, [], ⟨#[]⟩, ⟨#[]⟩, ⟨#[]⟩, 0, (v2 : Int), decide (v3 = 1)⟩ : Cm), s3) by rw [toldS, h1]; show replyS 5 s1' = _; simp only [replyS, h2, h3]; rfl)
  have e3 : ((v3 : Int) == 1) = decide (v3 = 1) := by rw [Bool.eq_iff_iff]; simp; omega
  have HFit : Hid (FitC ⟨5, ⟨#[]⟩, [], ⟨#[]⟩, ⟨#[]⟩, ⟨#[]⟩, 0, (v2 : Int), decide (v3 = 1)⟩) := Lib.hid ⟨fun x hx => (by cases hx), by simp, empty32, empty32, empty32, empty32⟩
  clear h1 y1 h2 y2 h3 y3
  clear h
  go_enter Tryz.func19, Tryz.ntmps19
  go_wp2_with fail
  generalize ((w.alloc (.cells (cmC noCmR) 26)).alloc (.cells #[.slice a l.length cap, .bool true] 84)) = W0 at *
  refine (C1.out _ S0.out).mono ?_
  rintro e w1 ⟨rfl, r1, b1⟩
  have K : Hid (TdI w w1.heap.size (kindR 5) s1' (w1.alloc (.cells (cmC (kindR 5)) 26))) := Lib.hid (by
    have b := (Below.refl w1.heap.size w1).alloc (Nat.le_refl _) (.cells (cmC (kindR 5)) 26)
    have hsz := b1.size
    have hR := R0.out.lt
    exact ⟨Row.below (show Row w1 w.heap.size 26 (cmC noCmR) from (b1.block _ hR (by omega)).trans R0.out) b, r1.below b, Row.new _ _ _, OwnL.nil _ _, (B0.out.trans (b1.below (by omega) B0.out.size)).trans (b.mono (Nat.le_trans B0.out.size hsz)), by omega⟩)
  clear r1 b1 S0 R0 B0 C1 hz0
  obtain ⟨⟨c0, _, _, _, _⟩, _, _, _, _⟩ := K.out.out.m
  go_wp2_with fail
  clear c0
  generalize w1.alloc (.cells (cmC (kindR 5)) 26) = W1 at *
  generalize w1.heap.size = c at *
  refine (C2.out _ K.out.sn).mono ?_
  rintro e w2 ⟨rfl, r2, b2⟩
  have J := Lib.hid (K.out.call r2 b2)
  clear r2 b2 K C2
  obtain ⟨⟨c0, _, _, _, _⟩, _, _, _, _⟩ := J.out.out.m
  obtain ⟨⟨_, g1, g2, g3, g4⟩, g5, g6, g7, g8⟩ := J.out.out.m
  have ff := J.out.out.free 7
  have K := Lib.hid (J.out.set 7 (.int .i64 (v2 : Int)) (⟨⟨5, ⟨#[]⟩, [], ⟨#[]⟩, ⟨#[]⟩, ⟨#[]⟩, 0, (v2 : Int), false⟩, none, 0⟩) rfl ⟨rfl, rfl, rfl⟩)
  clear J
  go_wp2_with fail
  clear c0 g1 g2 g3 g4 g5 g6 g7 g8 ff
  generalize w2.setCell ⟨c, 7, none⟩ (.int .i64 (v2 : Int)) = W2 at *
  refine (C3.out _ K.out.sn).mono ?_
  rintro e w3 ⟨rfl, r2, b2⟩
  have J := Lib.hid (K.out.call r2 b2)
  clear r2 b2 K C3
  obtain ⟨⟨c0, _, _, _, _⟩, _, _, _, _⟩ := J.out.out.m
  obtain ⟨⟨_, g1, g2, g3, g4⟩, g5, g6, g7, g8⟩ := J.out.out.m
  have ff := J.out.out.free 8
  have K := Lib.hid (J.out.set 8 (.bool (decide (v3 = 1))) (⟨⟨5, ⟨#[]⟩, [], ⟨#[]⟩, ⟨#[]⟩, ⟨#[]⟩, 0, (v2 : Int), decide (v3 = 1)⟩, none, 0⟩) rfl ⟨rfl, rfl, rfl⟩)
  clear J
  obtain ⟨sa, sc, sl, ok, r1, r2, r3, r4⟩ := K.out.sn
  obtain ⟨⟨d0, d1⟩, _⟩ := cellsR2 r1
  have hscap := r2.cap
  clear r1 r2 r3
  cases ok with
  | false =>
    have HR4 := Lib.hid r4
    clear r4
    have HX := told_none HT.out (.inl (by rw [HR4.out]; simp))
    have s1 := st_cm K.out.res noCmR
    go_wp2_with fail
    (try simp only [Exit.inBlock, Exit.then])
    apply bodyPost_ret
    case hd => rfl
    case hr => exact results_cell_one rfl _ _ w.heap.size _ rfl (loadCm (setRow_heap _ _ _ _ _ _ K.out.res))
    case hR => exact ⟨noCmR, by rw [HX.2]; rfl, HX.1.symm, CmP.none _, Below.row K.out.low (Nat.le_refl _) _⟩
  | true =>
    by_cases hs : sl = []
    · subst hs
      have HR4 := Lib.hid (show (s3 : Sc) = some [] from by rw [r4]; rfl)
      clear r4
      have CR := Lib.hid (refCmRight_any _ _ (cmP_own K.out.own HFit.out))
      have la := ld_cm K.out.out
      go_wp2_with fail
      refine CR.out.mono ?_
      rintro e w9 ⟨rfl, b9⟩
      have K9 := Lib.hid (K.out.below b9)
      clear la d0 d1 b9
      cases hq : rightC (⟨5, ⟨#[]⟩, [], ⟨#[]⟩, ⟨#[]⟩, ⟨#[]⟩, 0, (v2 : Int), decide (v3 = 1)⟩ : Cm) with
      | false =>
        have HX := told_none HT.out (.inr hq)
        have s1 := st_cm K9.out.res noCmR
        go_wp2_with fail
        (try simp only [Exit.inBlock, Exit.then])
        apply bodyPost_ret
        case hd => rfl
        case hr => exact results_cell_one rfl _ _ w.heap.size _ rfl (loadCm (setRow_heap _ _ _ _ _ _ K9.out.res))
        case hR => exact ⟨noCmR, by rw [HX.2]; rfl, HX.1.symm, CmP.none _, Below.row K9.out.low (Nat.le_refl _) _⟩
      | true =>
        have HT2 := HT.out
        rw [HR4.out] at HT2
        have HX := told_some HT2 hq
        have la := ld_cm K9.out.out
        have s1 := st_cm K9.out.res (⟨⟨5, ⟨#[]⟩, [], ⟨#[]⟩, ⟨#[]⟩, ⟨#[]⟩, 0, (v2 : Int), decide (v3 = 1)⟩, none, 0⟩ : CmR)
        go_wp2_with fail
        (try simp only [Exit.inBlock, Exit.then])
        apply bodyPost_ret
        case hd => rfl
        case hr => exact results_cell_one rfl _ _ w.heap.size _ rfl (loadCm (setRow_heap _ _ _ _ _ _ K9.out.res))
        case hR => exact ⟨(⟨⟨5, ⟨#[]⟩, [], ⟨#[]⟩, ⟨#[]⟩, ⟨#[]⟩, 0, (v2 : Int), decide (v3 = 1)⟩, none, 0⟩ : CmR), by rw [HX.2]; rfl, HX.1.symm, cmP_own (K9.out.own.grown fun k h1 h2 => setRow_other _ _ k _ (by have := K9.out.hc; omega)) HFit.out, Below.row K9.out.low (Nat.le_refl _) _⟩
    · have hpos := List.length_pos_iff.2 hs
      have hpos2 : (0 : Int) < (sl.length : Int) := by omega
      have HNe : Hid ((s3 : Sc) ≠ some []) := Lib.hid (fun e => hs (by have q := r4.symm.trans e; simpa using q))
      clear hs r4
      have HX := told_none HT.out (.inl HNe.out)
      have s1 := st_cm K.out.res noCmR
      go_wp2_with fail
      (try simp only [Exit.inBlock, Exit.then])
      apply bodyPost_ret
      case hd => rfl
      case hr => exact results_cell_one rfl _ _ w.heap.size _ rfl (loadCm (setRow_heap _ _ _ _ _ _ K.out.res))
      case hR => exact ⟨noCmR, by rw [HX.2]; rfl, HX.1.symm, CmP.none _, Below.row K.out.low (Nat.le_refl _) _⟩


set_option maxHeartbeats 16000000 in
theorem refTold6 (a : Option Addr) (cap : Nat) (l : List Nat) (w : World) (h : BytesP w a cap l) (hk : (numS 8 (some l)).1 = 6) : Calls Tryz.prog 19 #[.slice a l.length cap] w (ToldPost l w) := by
  rcases h1 : numS 8 (some l) with ⟨v1, s1'⟩
  have hk : v1 = 6 := by rw [h1] at hk; exact hk
  subst hk
  have C1 := Lib.hid (fun W hW => show Calls Tryz.prog 53 #[.pointer (some ⟨w.heap.size + 1, 0, none⟩), .int .u64 8] W (ScanS (w.heap.size + 1) (.int .i64 6) s1' W) by have := scan_num W (w.heap.size + 1) (some l) 8 hW (by decide); rwa [h1] at this)
  have y1 : BytesS s1' := by have := numS_bytes (s := some l) (fun b e => by cases e; exact h.byte) 8; rwa [h1] at this
  have S0 := Lib.hid (sn_new h (.cells (cmC noCmR) 26))
  have R0 : Hid (Row ((w.alloc (.cells (cmC noCmR) 26)).alloc (.cells #[.slice a l.length cap, .bool true] 84)) w.heap.size 26 (cmC noCmR)) := Lib.hid ((Row.new w _ _).more _)
  have B0 : Hid (Below w.heap.size w ((w.alloc (.cells (cmC noCmR) 26)).alloc (.cells #[.slice a l.length cap, .bool true] 84))) := Lib.hid (((Below.refl _ _).alloc (Nat.le_refl _) _).alloc (by simp) _)
  have hz0 : w.heap.size + 2 ≤ ((w.alloc (.cells (cmC noCmR) 26)).alloc (.cells #[.slice a l.length cap, .bool true] 84)).heap.size := by simp
  have HT := Lib.hid (show toldS 1000000000000 (some l) = ((kindR 6).m, s1') by rw [toldS, h1]; rfl)
  have HFit : Hid (FitC (kindR 6).m) := Lib.hid ⟨fun x hx => (by cases hx), by decide, by decide, by decide, by decide, by decide⟩
  clear h1 y1
  clear h
  go_enter Tryz.func19, Tryz.ntmps19
  go_wp2_with fail
  generalize ((w.alloc (.cells (cmC noCmR) 26)).alloc (.cells #[.slice a l.length cap, .bool true] 84)) = W0 at *
  refine (C1.out _ S0.out).mono ?_
  rintro e w1 ⟨rfl, r1, b1⟩
  have K : Hid (TdI w w1.heap.size (kindR 6) s1' (w1.alloc (.cells (cmC (kindR 6)) 26))) := Lib.hid (by
    have b := (Below.refl w1.heap.size w1).alloc (Nat.le_refl _) (.cells (cmC (kindR 6)) 26)
    have hsz := b1.size
    have hR := R0.out.lt
    exact ⟨Row.below (show Row w1 w.heap.size 26 (cmC noCmR) from (b1.block _ hR (by omega)).trans R0.out) b, r1.below b, Row.new _ _ _, OwnL.nil _ _, (B0.out.trans (b1.below (by omega) B0.out.size)).trans (b.mono (Nat.le_trans B0.out.size hsz)), by omega⟩)
  clear r1 b1 S0 R0 B0 C1 hz0
  obtain ⟨⟨c0, _, _, _, _⟩, _, _, _, _⟩ := K.out.out.m
  obtain ⟨sa, sc, sl, ok, r1, r2, r3, r4⟩ := K.out.sn
  obtain ⟨⟨d0, d1⟩, _⟩ := cellsR2 r1
  have hscap := r2.cap
  clear r1 r2 r3
  cases ok with
  | false =>
    have HR4 := Lib.hid r4
    clear r4
    have HX := told_none HT.out (.inl (by rw [HR4.out]; simp))
    have s1 := st_cm K.out.res noCmR
    go_wp2_with fail
    (try simp only [Exit.inBlock, Exit.then])
    apply bodyPost_ret
    case hd => rfl
    case hr => exact results_cell_one rfl _ _ w.heap.size _ rfl (loadCm (setRow_heap _ _ _ _ _ _ K.out.res))
    case hR => exact ⟨noCmR, by rw [HX.2]; rfl, HX.1.symm, CmP.none _, Below.row K.out.low (Nat.le_refl _) _⟩
  | true =>
    by_cases hs : sl = []
    · subst hs
      have HR4 := Lib.hid (show (s1' : Sc) = some [] from by rw [r4]; rfl)
      clear r4
      have CR := Lib.hid (refCmRight_any _ _ (cmP_own K.out.own HFit.out))
      have la := ld_cm K.out.out
      go_wp2_with fail
      refine CR.out.mono ?_
      rintro e w9 ⟨rfl, b9⟩
      have K9 := Lib.hid (K.out.below b9)
      clear la d0 d1 b9
      cases hq : rightC (kindR 6).m with
      | false =>
        have HX := told_none HT.out (.inr hq)
        have s1 := st_cm K9.out.res noCmR
        go_wp2_with fail
        (try simp only [Exit.inBlock, Exit.then])
        apply bodyPost_ret
        case hd => rfl
        case hr => exact results_cell_one rfl _ _ w.heap.size _ rfl (loadCm (setRow_heap _ _ _ _ _ _ K9.out.res))
        case hR => exact ⟨noCmR, by rw [HX.2]; rfl, HX.1.symm, CmP.none _, Below.row K9.out.low (Nat.le_refl _) _⟩
      | true =>
        have HT2 := HT.out
        rw [HR4.out] at HT2
        have HX := told_some HT2 hq
        have la := ld_cm K9.out.out
        have s1 := st_cm K9.out.res (kindR 6)
        go_wp2_with fail
        (try simp only [Exit.inBlock, Exit.then])
        apply bodyPost_ret
        case hd => rfl
        case hr => exact results_cell_one rfl _ _ w.heap.size _ rfl (loadCm (setRow_heap _ _ _ _ _ _ K9.out.res))
        case hR => exact ⟨(kindR 6), by rw [HX.2]; rfl, HX.1.symm, cmP_own (K9.out.own.grown fun k h1 h2 => setRow_other _ _ k _ (by have := K9.out.hc; omega)) HFit.out, Below.row K9.out.low (Nat.le_refl _) _⟩
    · have hpos := List.length_pos_iff.2 hs
      have hpos2 : (0 : Int) < (sl.length : Int) := by omega
      have HNe : Hid ((s1' : Sc) ≠ some []) := Lib.hid (fun e => hs (by have q := r4.symm.trans e; simpa using q))
      clear hs r4
      have HX := told_none HT.out (.inl HNe.out)
      have s1 := st_cm K.out.res noCmR
      go_wp2_with fail
      (try simp only [Exit.inBlock, Exit.then])
      apply bodyPost_ret
      case hd => rfl
      case hr => exact results_cell_one rfl _ _ w.heap.size _ rfl (loadCm (setRow_heap _ _ _ _ _ _ K.out.res))
      case hR => exact ⟨noCmR, by rw [HX.2]; rfl, HX.1.symm, CmP.none _, Below.row K.out.low (Nat.le_refl _) _⟩


set_option maxHeartbeats 16000000 in
theorem refTold7 (a : Option Addr) (cap : Nat) (l : List Nat) (w : World) (h : BytesP w a cap l) (hk : (numS 8 (some l)).1 = 7) : Calls Tryz.prog 19 #[.slice a l.length cap] w (ToldPost l w) := by
  rcases h1 : numS 8 (some l) with ⟨v1, s1'⟩
  have hk : v1 = 7 := by rw [h1] at hk; exact hk
  subst hk
  have C1 := Lib.hid (fun W hW => show Calls Tryz.prog 53 #[.pointer (some ⟨w.heap.size + 1, 0, none⟩), .int .u64 8] W (ScanS (w.heap.size + 1) (.int .i64 7) s1' W) by have := scan_num W (w.heap.size + 1) (some l) 8 hW (by decide); rwa [h1] at this)
  have y1 : BytesS s1' := by have := numS_bytes (s := some l) (fun b e => by cases e; exact h.byte) 8; rwa [h1] at this
  have S0 := Lib.hid (sn_new h (.cells (cmC noCmR) 26))
  have R0 : Hid (Row ((w.alloc (.cells (cmC noCmR) 26)).alloc (.cells #[.slice a l.length cap, .bool true] 84)) w.heap.size 26 (cmC noCmR)) := Lib.hid ((Row.new w _ _).more _)
  have B0 : Hid (Below w.heap.size w ((w.alloc (.cells (cmC noCmR) 26)).alloc (.cells #[.slice a l.length cap, .bool true] 84))) := Lib.hid (((Below.refl _ _).alloc (Nat.le_refl _) _).alloc (by simp) _)
  have hz0 : w.heap.size + 2 ≤ ((w.alloc (.cells (cmC noCmR) 26)).alloc (.cells #[.slice a l.length cap, .bool true] 84)).heap.size := by simp
  have HT := Lib.hid (show toldS 1000000000000 (some l) = ((kindR 7).m, s1') by rw [toldS, h1]; rfl)
  have HFit : Hid (FitC (kindR 7).m) := Lib.hid ⟨fun x hx => (by cases hx), by decide, by decide, by decide, by decide, by decide⟩
  clear h1 y1
  clear h
  go_enter Tryz.func19, Tryz.ntmps19
  go_wp2_with fail
  generalize ((w.alloc (.cells (cmC noCmR) 26)).alloc (.cells #[.slice a l.length cap, .bool true] 84)) = W0 at *
  refine (C1.out _ S0.out).mono ?_
  rintro e w1 ⟨rfl, r1, b1⟩
  have K : Hid (TdI w w1.heap.size (kindR 7) s1' (w1.alloc (.cells (cmC (kindR 7)) 26))) := Lib.hid (by
    have b := (Below.refl w1.heap.size w1).alloc (Nat.le_refl _) (.cells (cmC (kindR 7)) 26)
    have hsz := b1.size
    have hR := R0.out.lt
    exact ⟨Row.below (show Row w1 w.heap.size 26 (cmC noCmR) from (b1.block _ hR (by omega)).trans R0.out) b, r1.below b, Row.new _ _ _, OwnL.nil _ _, (B0.out.trans (b1.below (by omega) B0.out.size)).trans (b.mono (Nat.le_trans B0.out.size hsz)), by omega⟩)
  clear r1 b1 S0 R0 B0 C1 hz0
  obtain ⟨⟨c0, _, _, _, _⟩, _, _, _, _⟩ := K.out.out.m
  obtain ⟨sa, sc, sl, ok, r1, r2, r3, r4⟩ := K.out.sn
  obtain ⟨⟨d0, d1⟩, _⟩ := cellsR2 r1
  have hscap := r2.cap
  clear r1 r2 r3
  cases ok with
  | false =>
    have HR4 := Lib.hid r4
    clear r4
    have HX := told_none HT.out (.inl (by rw [HR4.out]; simp))
    have s1 := st_cm K.out.res noCmR
    go_wp2_with fail
    (try simp only [Exit.inBlock, Exit.then])
    apply bodyPost_ret
    case hd => rfl
    case hr => exact results_cell_one rfl _ _ w.heap.size _ rfl (loadCm (setRow_heap _ _ _ _ _ _ K.out.res))
    case hR => exact ⟨noCmR, by rw [HX.2]; rfl, HX.1.symm, CmP.none _, Below.row K.out.low (Nat.le_refl _) _⟩
  | true =>
    by_cases hs : sl = []
    · subst hs
      have HR4 := Lib.hid (show (s1' : Sc) = some [] from by rw [r4]; rfl)
      clear r4
      have CR := Lib.hid (refCmRight_any _ _ (cmP_own K.out.own HFit.out))
      have la := ld_cm K.out.out
      go_wp2_with fail
      refine CR.out.mono ?_
      rintro e w9 ⟨rfl, b9⟩
      have K9 := Lib.hid (K.out.below b9)
      clear la d0 d1 b9
      cases hq : rightC (kindR 7).m with
      | false =>
        have HX := told_none HT.out (.inr hq)
        have s1 := st_cm K9.out.res noCmR
        go_wp2_with fail
        (try simp only [Exit.inBlock, Exit.then])
        apply bodyPost_ret
        case hd => rfl
        case hr => exact results_cell_one rfl _ _ w.heap.size _ rfl (loadCm (setRow_heap _ _ _ _ _ _ K9.out.res))
        case hR => exact ⟨noCmR, by rw [HX.2]; rfl, HX.1.symm, CmP.none _, Below.row K9.out.low (Nat.le_refl _) _⟩
      | true =>
        have HT2 := HT.out
        rw [HR4.out] at HT2
        have HX := told_some HT2 hq
        have la := ld_cm K9.out.out
        have s1 := st_cm K9.out.res (kindR 7)
        go_wp2_with fail
        (try simp only [Exit.inBlock, Exit.then])
        apply bodyPost_ret
        case hd => rfl
        case hr => exact results_cell_one rfl _ _ w.heap.size _ rfl (loadCm (setRow_heap _ _ _ _ _ _ K9.out.res))
        case hR => exact ⟨(kindR 7), by rw [HX.2]; rfl, HX.1.symm, cmP_own (K9.out.own.grown fun k h1 h2 => setRow_other _ _ k _ (by have := K9.out.hc; omega)) HFit.out, Below.row K9.out.low (Nat.le_refl _) _⟩
    · have hpos := List.length_pos_iff.2 hs
      have hpos2 : (0 : Int) < (sl.length : Int) := by omega
      have HNe : Hid ((s1' : Sc) ≠ some []) := Lib.hid (fun e => hs (by have q := r4.symm.trans e; simpa using q))
      clear hs r4
      have HX := told_none HT.out (.inl HNe.out)
      have s1 := st_cm K.out.res noCmR
      go_wp2_with fail
      (try simp only [Exit.inBlock, Exit.then])
      apply bodyPost_ret
      case hd => rfl
      case hr => exact results_cell_one rfl _ _ w.heap.size _ rfl (loadCm (setRow_heap _ _ _ _ _ _ K.out.res))
      case hR => exact ⟨noCmR, by rw [HX.2]; rfl, HX.1.symm, CmP.none _, Below.row K.out.low (Nat.le_refl _) _⟩


set_option maxHeartbeats 16000000 in
theorem refTold8 (a : Option Addr) (cap : Nat) (l : List Nat) (w : World) (h : BytesP w a cap l) (hk : (numS 8 (some l)).1 = 8) : Calls Tryz.prog 19 #[.slice a l.length cap] w (ToldPost l w) := by
  rcases h1 : numS 8 (some l) with ⟨v1, s1'⟩
  have hk : v1 = 8 := by rw [h1] at hk; exact hk
  subst hk
  have C1 := Lib.hid (fun W hW => show Calls Tryz.prog 53 #[.pointer (some ⟨w.heap.size + 1, 0, none⟩), .int .u64 8] W (ScanS (w.heap.size + 1) (.int .i64 8) s1' W) by have := scan_num W (w.heap.size + 1) (some l) 8 hW (by decide); rwa [h1] at this)
  have y1 : BytesS s1' := by have := numS_bytes (s := some l) (fun b e => by cases e; exact h.byte) 8; rwa [h1] at this
  have S0 := Lib.hid (sn_new h (.cells (cmC noCmR) 26))
  have R0 : Hid (Row ((w.alloc (.cells (cmC noCmR) 26)).alloc (.cells #[.slice a l.length cap, .bool true] 84)) w.heap.size 26 (cmC noCmR)) := Lib.hid ((Row.new w _ _).more _)
  have B0 : Hid (Below w.heap.size w ((w.alloc (.cells (cmC noCmR) 26)).alloc (.cells #[.slice a l.length cap, .bool true] 84))) := Lib.hid (((Below.refl _ _).alloc (Nat.le_refl _) _).alloc (by simp) _)
  have hz0 : w.heap.size + 2 ≤ ((w.alloc (.cells (cmC noCmR) 26)).alloc (.cells #[.slice a l.length cap, .bool true] 84)).heap.size := by simp
  rcases h2 : textS 32 s1' with ⟨v2, s2⟩
  have C2 := Lib.hid (fun W hW => show Calls Tryz.prog 54 #[.pointer (some ⟨w.heap.size + 1, 0, none⟩), .int .u64 32] W (ScanS (w.heap.size + 1) (.string (strB v2)) s2 W) by have := scan_text W (w.heap.size + 1) s1' 32 hW (by decide); rwa [h2] at this)
  have y2 : BytesS s2 := by have := (textS_bytes y1 32).1; rwa [h2] at this
  have HT := Lib.hid (show toldS 1000000000000 (some l) = ((⟨8, strB v2, [], ⟨#[]⟩, ⟨#[]⟩, ⟨#[]⟩, 0, 0, false⟩ : Cm), s2) by rw [toldS, h1]; show idS 8 s1' = _; rw [idS, h2]; rfl)
  have z2 : (strB v2).size ≤ 32 := by have := strB_32 y1; rwa [h2] at this
  have HFit : Hid (FitC ⟨8, strB v2, [], ⟨#[]⟩, ⟨#[]⟩, ⟨#[]⟩, 0, 0, false⟩) := Lib.hid ⟨fun x hx => (by cases hx), by simp, z2, empty32, empty32, empty32⟩
  clear h1 y1 h2 y2 z2
  clear h
  go_enter Tryz.func19, Tryz.ntmps19
  go_wp2_with fail
  generalize ((w.alloc (.cells (cmC noCmR) 26)).alloc (.cells #[.slice a l.length cap, .bool true] 84)) = W0 at *
  refine (C1.out _ S0.out).mono ?_
  rintro e w1 ⟨rfl, r1, b1⟩
  have K : Hid (TdI w w1.heap.size (kindR 8) s1' (w1.alloc (.cells (cmC (kindR 8)) 26))) := Lib.hid (by
    have b := (Below.refl w1.heap.size w1).alloc (Nat.le_refl _) (.cells (cmC (kindR 8)) 26)
    have hsz := b1.size
    have hR := R0.out.lt
    exact ⟨Row.below (show Row w1 w.heap.size 26 (cmC noCmR) from (b1.block _ hR (by omega)).trans R0.out) b, r1.below b, Row.new _ _ _, OwnL.nil _ _, (B0.out.trans (b1.below (by omega) B0.out.size)).trans (b.mono (Nat.le_trans B0.out.size hsz)), by omega⟩)
  clear r1 b1 S0 R0 B0 C1 hz0
  obtain ⟨⟨c0, _, _, _, _⟩, _, _, _, _⟩ := K.out.out.m
  go_wp2_with fail
  clear c0
  generalize w1.alloc (.cells (cmC (kindR 8)) 26) = W1 at *
  generalize w1.heap.size = c at *
  refine (C2.out _ K.out.sn).mono ?_
  rintro e w2 ⟨rfl, r2, b2⟩
  have J := Lib.hid (K.out.call r2 b2)
  clear r2 b2 K C2
  obtain ⟨⟨c0, _, _, _, _⟩, _, _, _, _⟩ := J.out.out.m
  obtain ⟨⟨_, g1, g2, g3, g4⟩, g5, g6, g7, g8⟩ := J.out.out.m
  have ff := J.out.out.free 1
  have K := Lib.hid (J.out.set 1 (.string (strB v2)) (⟨⟨8, strB v2, [], ⟨#[]⟩, ⟨#[]⟩, ⟨#[]⟩, 0, 0, false⟩, none, 0⟩) rfl ⟨rfl, rfl, rfl⟩)
  clear J
  obtain ⟨sa, sc, sl, ok, r1, r2, r3, r4⟩ := K.out.sn
  obtain ⟨⟨d0, d1⟩, _⟩ := cellsR2 r1
  have hscap := r2.cap
  clear r1 r2 r3
  cases ok with
  | false =>
    have HR4 := Lib.hid r4
    clear r4
    have HX := told_none HT.out (.inl (by rw [HR4.out]; simp))
    have s1 := st_cm K.out.res noCmR
    go_wp2_with fail
    (try simp only [Exit.inBlock, Exit.then])
    apply bodyPost_ret
    case hd => rfl
    case hr => exact results_cell_one rfl _ _ w.heap.size _ rfl (loadCm (setRow_heap _ _ _ _ _ _ K.out.res))
    case hR => exact ⟨noCmR, by rw [HX.2]; rfl, HX.1.symm, CmP.none _, Below.row K.out.low (Nat.le_refl _) _⟩
  | true =>
    by_cases hs : sl = []
    · subst hs
      have HR4 := Lib.hid (show (s2 : Sc) = some [] from by rw [r4]; rfl)
      clear r4
      have CR := Lib.hid (refCmRight_any _ _ (cmP_own K.out.own HFit.out))
      have la := ld_cm K.out.out
      go_wp2_with fail
      refine CR.out.mono ?_
      rintro e w9 ⟨rfl, b9⟩
      have K9 := Lib.hid (K.out.below b9)
      clear la d0 d1 b9
      cases hq : rightC (⟨8, strB v2, [], ⟨#[]⟩, ⟨#[]⟩, ⟨#[]⟩, 0, 0, false⟩ : Cm) with
      | false =>
        have HX := told_none HT.out (.inr hq)
        have s1 := st_cm K9.out.res noCmR
        go_wp2_with fail
        (try simp only [Exit.inBlock, Exit.then])
        apply bodyPost_ret
        case hd => rfl
        case hr => exact results_cell_one rfl _ _ w.heap.size _ rfl (loadCm (setRow_heap _ _ _ _ _ _ K9.out.res))
        case hR => exact ⟨noCmR, by rw [HX.2]; rfl, HX.1.symm, CmP.none _, Below.row K9.out.low (Nat.le_refl _) _⟩
      | true =>
        have HT2 := HT.out
        rw [HR4.out] at HT2
        have HX := told_some HT2 hq
        have la := ld_cm K9.out.out
        have s1 := st_cm K9.out.res (⟨⟨8, strB v2, [], ⟨#[]⟩, ⟨#[]⟩, ⟨#[]⟩, 0, 0, false⟩, none, 0⟩ : CmR)
        go_wp2_with fail
        (try simp only [Exit.inBlock, Exit.then])
        apply bodyPost_ret
        case hd => rfl
        case hr => exact results_cell_one rfl _ _ w.heap.size _ rfl (loadCm (setRow_heap _ _ _ _ _ _ K9.out.res))
        case hR => exact ⟨(⟨⟨8, strB v2, [], ⟨#[]⟩, ⟨#[]⟩, ⟨#[]⟩, 0, 0, false⟩, none, 0⟩ : CmR), by rw [HX.2]; rfl, HX.1.symm, cmP_own (K9.out.own.grown fun k h1 h2 => setRow_other _ _ k _ (by have := K9.out.hc; omega)) HFit.out, Below.row K9.out.low (Nat.le_refl _) _⟩
    · have hpos := List.length_pos_iff.2 hs
      have hpos2 : (0 : Int) < (sl.length : Int) := by omega
      have HNe : Hid ((s2 : Sc) ≠ some []) := Lib.hid (fun e => hs (by have q := r4.symm.trans e; simpa using q))
      clear hs r4
      have HX := told_none HT.out (.inl HNe.out)
      have s1 := st_cm K.out.res noCmR
      go_wp2_with fail
      (try simp only [Exit.inBlock, Exit.then])
      apply bodyPost_ret
      case hd => rfl
      case hr => exact results_cell_one rfl _ _ w.heap.size _ rfl (loadCm (setRow_heap _ _ _ _ _ _ K.out.res))
      case hR => exact ⟨noCmR, by rw [HX.2]; rfl, HX.1.symm, CmP.none _, Below.row K.out.low (Nat.le_refl _) _⟩


set_option maxHeartbeats 16000000 in
theorem refTold1 (a : Option Addr) (cap : Nat) (l : List Nat) (w : World) (h : BytesP w a cap l) (hk : (numS 8 (some l)).1 = 1) : Calls Tryz.prog 19 #[.slice a l.length cap] w (ToldPost l w) := by
  rcases h1 : numS 8 (some l) with ⟨v1, s1'⟩
  have hk : v1 = 1 := by rw [h1] at hk; exact hk
  subst hk
  have C1 := Lib.hid (fun W hW => show Calls Tryz.prog 53 #[.pointer (some ⟨w.heap.size + 1, 0, none⟩), .int .u64 8] W (ScanS (w.heap.size + 1) (.int .i64 1) s1' W) by have := scan_num W (w.heap.size + 1) (some l) 8 hW (by decide); rwa [h1] at this)
  have y1 : BytesS s1' := by have := numS_bytes (s := some l) (fun b e => by cases e; exact h.byte) 8; rwa [h1] at this
  have S0 := Lib.hid (sn_new h (.cells (cmC noCmR) 26))
  have R0 : Hid (Row ((w.alloc (.cells (cmC noCmR) 26)).alloc (.cells #[.slice a l.length cap, .bool true] 84)) w.heap.size 26 (cmC noCmR)) := Lib.hid ((Row.new w _ _).more _)
  have B0 : Hid (Below w.heap.size w ((w.alloc (.cells (cmC noCmR) 26)).alloc (.cells #[.slice a l.length cap, .bool true] 84))) := Lib.hid (((Below.refl _ _).alloc (Nat.le_refl _) _).alloc (by simp) _)
  have hz0 : w.heap.size + 2 ≤ ((w.alloc (.cells (cmC noCmR) 26)).alloc (.cells #[.slice a l.length cap, .bool true] 84)).heap.size := by simp
  rcases h2 : textS 32 s1' with ⟨v2, s2⟩
  have C2 := Lib.hid (fun W hW => show Calls Tryz.prog 54 #[.pointer (some ⟨w.heap.size + 1, 0, none⟩), .int .u64 32] W (ScanS (w.heap.size + 1) (.string (strB v2)) s2 W) by have := scan_text W (w.heap.size + 1) s1' 32 hW (by decide); rwa [h2] at this)
  have y2 : BytesS s2 := by have := (textS_bytes y1 32).1; rwa [h2] at this
  rcases h3 : numS 8 s2 with ⟨v3, s3⟩
  have C3 := Lib.hid (fun W hW => show Calls Tryz.prog 53 #[.pointer (some ⟨w.heap.size + 1, 0, none⟩), .int .u64 8] W (ScanS (w.heap.size + 1) (.int .i64 (v3 : Int)) s3 W) by have := scan_num W (w.heap.size + 1) s2 8 hW (by decide); rwa [h3] at this)
  have y3 : BytesS s3 := by have := numS_bytes y2 8; rwa [h3] at this
  have n3 : v3 ≤ 8 := by have := numS_le 8 s2 y2; rwa [h3] at this
  have z2 : (strB v2).size ≤ 32 := by have := strB_32 y1; rwa [h2] at this
  have H1 := Lib.hid h1
  have H2 := Lib.hid h2
  have H3 := Lib.hid h3
  have Y3 := Lib.hid y3
  clear h1 y1 h2 y2 h3 y3
  clear h
  go_enter Tryz.func19, Tryz.ntmps19
  go_wp2_with fail
  generalize ((w.alloc (.cells (cmC noCmR) 26)).alloc (.cells #[.slice a l.length cap, .bool true] 84)) = W0 at *
  refine (C1.out _ S0.out).mono ?_
  rintro e w1 ⟨rfl, r1, b1⟩
  have K : Hid (TdI w w1.heap.size (kindR 1) s1' (w1.alloc (.cells (cmC (kindR 1)) 26))) := Lib.hid (by
    have b := (Below.refl w1.heap.size w1).alloc (Nat.le_refl _) (.cells (cmC (kindR 1)) 26)
    have hsz := b1.size
    have hR := R0.out.lt
    exact ⟨Row.below (show Row w1 w.heap.size 26 (cmC noCmR) from (b1.block _ hR (by omega)).trans R0.out) b, r1.below b, Row.new _ _ _, OwnL.nil _ _, (B0.out.trans (b1.below (by omega) B0.out.size)).trans (b.mono (Nat.le_trans B0.out.size hsz)), by omega⟩)
  clear r1 b1 S0 R0 B0 C1 hz0
  obtain ⟨⟨c0, _, _, _, _⟩, _, _, _, _⟩ := K.out.out.m
  go_wp2_with fail
  clear c0
  generalize w1.alloc (.cells (cmC (kindR 1)) 26) = W1 at *
  generalize w1.heap.size = c at *
  refine (C2.out _ K.out.sn).mono ?_
  rintro e w2 ⟨rfl, r2, b2⟩
  have J := Lib.hid (K.out.call r2 b2)
  clear r2 b2 K C2
  obtain ⟨⟨c0, _, _, _, _⟩, _, _, _, _⟩ := J.out.out.m
  obtain ⟨⟨_, g1, g2, g3, g4⟩, g5, g6, g7, g8⟩ := J.out.out.m
  have ff := J.out.out.free 1
  have K := Lib.hid (J.out.set 1 (.string (strB v2)) (⟨⟨1, strB v2, [], ⟨#[]⟩, ⟨#[]⟩, ⟨#[]⟩, 0, 0, false⟩, none, 0⟩) rfl ⟨rfl, rfl, rfl⟩)
  clear J
  go_wp2_with fail
  clear c0 g1 g2 g3 g4 g5 g6 g7 g8 ff
  generalize w2.setCell ⟨c, 1, none⟩ (.string (strB v2)) = W2 at *
  refine (C3.out _ K.out.sn).mono ?_
  rintro e w3 ⟨rfl, r2, b2⟩
  have J := Lib.hid (K.out.call r2 b2)
  clear r2 b2 K C3
  obtain ⟨⟨c0, _, _, _, _⟩, _, _, _, _⟩ := J.out.out.m
  go_wp2_with fail
  clear c0
  go_loopw [7] (fun i wr => ∃ (k : Nat) (acc : List Ln) (av : Option Addr) (cv : Nat) (sk : Sc), k ≤ v3 ∧ i = .int .i64 k ∧ Hid (TdI w c (⟨⟨1, strB v2, acc, ⟨#[]⟩, ⟨#[]⟩, ⟨#[]⟩, 0, 0, false⟩, av, cv⟩ : CmR) sk wr) ∧ acc.length = k ∧ Hid (BytesS sk) ∧ Hid (linesS v3 s3 = (acc ++ (linesS (v3 - k) sk).1, (linesS (v3 - k) sk).2))) (fun i _ => v3 - (intOf i).toNat)
  case atStart => exact ⟨0, [], none, 0, s3, Nat.zero_le _, rfl, J, rfl, Y3, Lib.hid (by simp)⟩
  case round =>
    clear J
    obtain ⟨k, acc, av, cv, sk, hk, rfl, K, hac, HB, HL⟩ := hrel
    by_cases hlt : k < v3
    · have yk := HB.out
      rcases h4 : textS 32 sk with ⟨v4, s4⟩
      have C4 := Lib.hid (fun W hW => show Calls Tryz.prog 54 #[.pointer (some ⟨w.heap.size + 1, 0, none⟩), .int .u64 32] W (ScanS (w.heap.size + 1) (.string (strB v4)) s4 W) by have := scan_text W (w.heap.size + 1) sk 32 hW (by decide); rwa [h4] at this)
      have y4 : BytesS s4 := by have := (textS_bytes yk 32).1; rwa [h4] at this
      rcases h5 : numS 1000 s4 with ⟨v5, s5⟩
      have C5 := Lib.hid (fun W hW => show Calls Tryz.prog 53 #[.pointer (some ⟨w.heap.size + 1, 0, none⟩), .int .u64 1000] W (ScanS (w.heap.size + 1) (.int .i64 (v5 : Int)) s5 W) by have := scan_num W (w.heap.size + 1) s4 1000 hW (by decide); rwa [h5] at this)
      have y5 : BytesS s5 := by have := numS_bytes y4 1000; rwa [h5] at this
      rcases h6 : numS 100000 s5 with ⟨v6, s6⟩
      have C6 := Lib.hid (fun W hW => show Calls Tryz.prog 53 #[.pointer (some ⟨w.heap.size + 1, 0, none⟩), .int .u64 100000] W (ScanS (w.heap.size + 1) (.int .i64 (v6 : Int)) s6 W) by have := scan_num W (w.heap.size + 1) s5 100000 hW (by decide); rwa [h6] at this)
      have y6 : BytesS s6 := by have := numS_bytes y5 100000; rwa [h6] at this

      have hsz : (strB v4).size ≤ 32 := by have := strB_32 yk; rwa [h4] at this
      have HX := Lib.hid y6
      have hx : lineS sk = (⟨strB v4, (v5 : Int), (v6 : Int)⟩, s6) := by simp only [lineS, h4, h5, h6]
      have HN := Lib.hid (show linesS v3 s3 = ((acc ++ [(⟨strB v4, (v5 : Int), (v6 : Int)⟩ : Ln)]) ++ (linesS (v3 - (k + 1)) s6).1, (linesS (v3 - (k + 1)) s6).2) by
        rw [HL.out, show v3 - k = (v3 - (k + 1)) + 1 by omega, linesS, hx]; simp)
      have HK1 := Lib.hid (show (acc ++ [(⟨strB v4, (v5 : Int), (v6 : Int)⟩ : Ln)]).length = k + 1 by rw [List.length_append, hac]; rfl)
      have HZ := Lib.hid (show (strB v4).size ≤ maxLen by unfold maxLen; omega)
      clear yk h4 h5 h6 y4 y5 y6 hx hsz HL HB
      go_wp2_with fail
      refine (C4.out _ K.out.sn).mono ?_
      rintro e w4 ⟨rfl, r4, b4⟩
      have K3 := Lib.hid (K.out.call r4 b4)
      have hcw := K3.out.hc
      have hcz := K3.out.out.lt
      have hg4 : w.heap.size + 1 < w4.heap.size := by omega
      have J3 : Hid (LnI w4 w4 (w.heap.size + 1) #[.string (strB v4), .int .i64 0, .int .i64 0] s4 (w4.alloc (.cells #[.string (strB v4), .int .i64 0, .int .i64 0] 72))) := Lib.hid (by
        have b := (Below.refl w4.heap.size w4).alloc (Nat.le_refl _) (.cells #[.string (strB v4), .int .i64 0, .int .i64 0] 72)
        exact ⟨r4.below b, .of b, fun k _ h2 => b.block k h2, heap_alloc_new _ _⟩)
      clear r4 b4 K C4
      go_wp2_with fail
      generalize w4.alloc (Obj.cells #[Value.string (strB v4), Value.int .i64 0, Value.int .i64 0] 72) = W4 at *
      refine (C5.out _ J3.out.rd).mono ?_
      rintro e w5 ⟨rfl, r5, b5⟩
      have J4 := Lib.hid (J3.out.call hg4 (Nat.le_refl _) r5 b5)
      obtain ⟨⟨c0, c1, c2⟩, f0, f1, f2⟩ := cellsR3 J4.out.line
      have L4 := Lib.hid (J4.out.set hg4 (Nat.le_refl _) 1 (.int .i64 (v5 : Int)))
      clear r5 b5 J3 C5
      go_wp2_with fail
      clear c0 c1 c2 f0 f1 f2 J4
      generalize w5.setCell ⟨w4.heap.size, 1, none⟩ (.int .i64 (v5 : Int)) = W5 at *
      refine (C6.out _ L4.out.rd).mono ?_
      rintro e w6 ⟨rfl, r6, b6⟩
      have J5 := Lib.hid (L4.out.call hg4 (Nat.le_refl _) r6 b6)
      obtain ⟨⟨c0, c1, c2⟩, f0, f1, f2⟩ := cellsR3 J5.out.line
      have L5 := Lib.hid (J5.out.set hg4 (Nat.le_refl _) 2 (.int .i64 (v6 : Int)))
      clear r6 b6 L4 C6
      have S5 := Lib.hid (K3.out.call L5.out.rd L5.out.but)
      obtain ⟨⟨d0, d1, d2⟩, _⟩ := cellsR3 L5.out.line
      have dv : (w6.setCell ⟨w4.heap.size, 2, none⟩ (.int .i64 (v6 : Int))).cell? ⟨c, 2, none⟩ = some (.slice av acc.length cv) := S5.out.out.m.1.2.2.1
      have T6 : Hid (LnsP ((w6.setCell ⟨w4.heap.size, 2, none⟩ (.int .i64 (v6 : Int))).alloc (.cells #[.string (strB v4), .int .i64 (v5 : Int), .int .i64 (v6 : Int)] 72)) (some ⟨w6.heap.size, 0, none⟩) 1 [(⟨strB v4, (v5 : Int), (v6 : Int)⟩ : Ln)]) := Lib.hid (by
        have := one_line (w6.setCell ⟨w4.heap.size, 2, none⟩ (.int .i64 (v6 : Int))) ⟨strB v4, (v5 : Int), (v6 : Int)⟩ HZ.out
        rwa [show (w6.setCell ⟨w4.heap.size, 2, none⟩ (.int .i64 (v6 : Int))).heap.size = w6.heap.size by simp [World.setCell]] at this)
      have S6 := Lib.hid (S5.out.below ((Below.refl _ _).alloc (Nat.le_refl _) (.cells #[.string (strB v4), .int .i64 (v5 : Int), .int .i64 (v6 : Int)] 72)))
      have hz6 : c + 1 ≤ ((w6.setCell ⟨w4.heap.size, 2, none⟩ (.int .i64 (v6 : Int))).alloc (.cells #[.string (strB v4), .int .i64 (v5 : Int), .int .i64 (v6 : Int)] 72)).heap.size := S6.out.out.lt
      have hl6 : acc.length + 1 ≤ 1000000 := by omega
      have O6 := S6.out.own
      dsimp only at O6
      rw [hac] at O6
      have O6 := Lib.hid O6
      clear L5 J5 K3 S5
      go_wp2_with (at_builtin; go_must (refine wpList_append_lines rfl _ _ rfl (c + 1) (.slice av k cv) acc [(⟨strB v4, (v5 : Int), (v6 : Int)⟩ : Ln)] rfl O6.out (some ⟨w6.heap.size, 0, none⟩) 1 rfl T6.out hl6 hz6 ?_))
      rintro v7 w7 o7 g7
      obtain ⟨a7, p7, e7⟩ := o7.shape
      rw [HK1.out] at e7
      subst e7
      obtain ⟨q, hq, bq⟩ := But.grown g7 O6.out.row
      have z1 : w7.cell? ⟨c, 2, none⟩ = some (.slice av acc.length cv) := ((S6.out.out.but bq (by omega)) : Row w7 c 26 _).m.1.2.2.1
      have zf : w7.frozen? ⟨c, 2, none⟩ = false := ((S6.out.out.but bq (by omega)) : Row w7 c 26 _).free 2
      have S8 := Lib.hid (S6.out.lines (o' := ⟨⟨1, strB v2, (acc ++ [(⟨strB v4, (v5 : Int), (v6 : Int)⟩ : Ln)]), ⟨#[]⟩, ⟨#[]⟩, ⟨#[]⟩, 0, 0, false⟩, a7, p7⟩) HK1.out o7 hq bq rfl)
      clear o7 g7 bq S6 T6 hz6 O6 c0 c1 c2 f0 f1 f2 d0 d1 d2 dv
      go_wp2_with fail
      go_roundw
      case rel => exact ⟨k + 1, acc ++ [(⟨strB v4, (v5 : Int), (v6 : Int)⟩ : Ln)], a7, p7, s6, by omega, by go_num, S8, HK1.out, HX, HN⟩
      case measure => simp [intOf]; omega
    · have HE := Lib.hid (show linesS v3 s3 = (acc, sk) by rw [HL.out, show v3 - k = 0 by omega, linesS]; simp)
      subst hac
      have yk := HB.out
      rcases h7 : textS 32 sk with ⟨v7, s7⟩
      have C7 := Lib.hid (fun W hW => show Calls Tryz.prog 54 #[.pointer (some ⟨w.heap.size + 1, 0, none⟩), .int .u64 32] W (ScanS (w.heap.size + 1) (.string (strB v7)) s7 W) by have := scan_text W (w.heap.size + 1) sk 32 hW (by decide); rwa [h7] at this)
      have y7 : BytesS s7 := by have := (textS_bytes yk 32).1; rwa [h7] at this
      rcases h8 : textS 32 s7 with ⟨v8, s8⟩
      have C8 := Lib.hid (fun W hW => show Calls Tryz.prog 54 #[.pointer (some ⟨w.heap.size + 1, 0, none⟩), .int .u64 32] W (ScanS (w.heap.size + 1) (.string (strB v8)) s8 W) by have := scan_text W (w.heap.size + 1) s7 32 hW (by decide); rwa [h8] at this)
      have y8 : BytesS s8 := by have := (textS_bytes y7 32).1; rwa [h8] at this
      rcases h9 : textS 32 s8 with ⟨v9, s9⟩
      have C9 := Lib.hid (fun W hW => show Calls Tryz.prog 54 #[.pointer (some ⟨w.heap.size + 1, 0, none⟩), .int .u64 32] W (ScanS (w.heap.size + 1) (.string (strB v9)) s9 W) by have := scan_text W (w.heap.size + 1) s8 32 hW (by decide); rwa [h9] at this)
      have y9 : BytesS s9 := by have := (textS_bytes y8 32).1; rwa [h9] at this
      rcases h10 : numS 1000000000000 s9 with ⟨v10, s10⟩
      have C10 := Lib.hid (fun W hW => show Calls Tryz.prog 53 #[.pointer (some ⟨w.heap.size + 1, 0, none⟩), .int .u64 1000000000000] W (ScanS (w.heap.size + 1) (.int .i64 (v10 : Int)) s10 W) by have := scan_num W (w.heap.size + 1) s9 1000000000000 hW (by decide); rwa [h10] at this)
      have y10 : BytesS s10 := by have := numS_bytes y9 1000000000000; rwa [h10] at this
      have HT := Lib.hid (show toldS 1000000000000 (some l) = ((⟨1, strB v2, acc, strB v7, strB v8, strB v9, (v10 : Int), 0, false⟩ : Cm), s10) by rw [toldS, H1.out]; show submitS 1 s1' = _; simp only [submitS, groupS, H2.out, H3.out, HE.out, h7, h8, h9, h10]; rfl)
      have z7 : (strB v7).size ≤ 32 := by have := strB_32 yk; rwa [h7] at this
      have z8 : (strB v8).size ≤ 32 := by have := strB_32 y7; rwa [h8] at this
      have z9 : (strB v9).size ≤ 32 := by have := strB_32 y8; rwa [h9] at this
      have HFit : Hid (FitC ⟨1, strB v2, acc, strB v7, strB v8, strB v9, (v10 : Int), 0, false⟩) := Lib.hid ⟨(by have := linesS_skus v3 Y3.out; rw [HE.out] at this; exact this), by show acc.length ≤ 8; omega, z2, z7, z8, z9⟩
      clear yk h7 y7 h8 y8 h9 y9 h10 y10 z7 z8 z9 HL HE HB H1 H2 H3 Y3
      obtain ⟨⟨c0, _, _, _, _⟩, _, _, _, _⟩ := K.out.out.m
      go_wp2_with fail
      clear c0
      refine (C7.out _ K.out.sn).mono ?_
      rintro e w7 ⟨rfl, r2, b2⟩
      have J := Lib.hid (K.out.call r2 b2)
      clear r2 b2 K C7
      obtain ⟨⟨c0, _, _, _, _⟩, _, _, _, _⟩ := J.out.out.m
      obtain ⟨⟨_, g1, g2, g3, g4⟩, g5, g6, g7, g8⟩ := J.out.out.m
      have ff := J.out.out.free 3
      have K := Lib.hid (J.out.set 3 (.string (strB v7)) (⟨⟨1, strB v2, acc, strB v7, ⟨#[]⟩, ⟨#[]⟩, 0, 0, false⟩, av, cv⟩) rfl ⟨rfl, rfl, rfl⟩)
      clear J
      go_wp2_with fail
      clear c0 g1 g2 g3 g4 g5 g6 g7 g8 ff
      generalize w7.setCell ⟨c, 3, none⟩ (.string (strB v7)) = W7 at *
      refine (C8.out _ K.out.sn).mono ?_
      rintro e w8 ⟨rfl, r2, b2⟩
      have J := Lib.hid (K.out.call r2 b2)
      clear r2 b2 K C8
      obtain ⟨⟨c0, _, _, _, _⟩, _, _, _, _⟩ := J.out.out.m
      obtain ⟨⟨_, g1, g2, g3, g4⟩, g5, g6, g7, g8⟩ := J.out.out.m
      have ff := J.out.out.free 4
      have K := Lib.hid (J.out.set 4 (.string (strB v8)) (⟨⟨1, strB v2, acc, strB v7, strB v8, ⟨#[]⟩, 0, 0, false⟩, av, cv⟩) rfl ⟨rfl, rfl, rfl⟩)
      clear J
      go_wp2_with fail
      clear c0 g1 g2 g3 g4 g5 g6 g7 g8 ff
      generalize w8.setCell ⟨c, 4, none⟩ (.string (strB v8)) = W8 at *
      refine (C9.out _ K.out.sn).mono ?_
      rintro e w9 ⟨rfl, r2, b2⟩
      have J := Lib.hid (K.out.call r2 b2)
      clear r2 b2 K C9
      obtain ⟨⟨c0, _, _, _, _⟩, _, _, _, _⟩ := J.out.out.m
      obtain ⟨⟨_, g1, g2, g3, g4⟩, g5, g6, g7, g8⟩ := J.out.out.m
      have ff := J.out.out.free 5
      have K := Lib.hid (J.out.set 5 (.string (strB v9)) (⟨⟨1, strB v2, acc, strB v7, strB v8, strB v9, 0, 0, false⟩, av, cv⟩) rfl ⟨rfl, rfl, rfl⟩)
      clear J
      go_wp2_with fail
      clear c0 g1 g2 g3 g4 g5 g6 g7 g8 ff
      generalize w9.setCell ⟨c, 5, none⟩ (.string (strB v9)) = W9 at *
      refine (C10.out _ K.out.sn).mono ?_
      rintro e w10 ⟨rfl, r2, b2⟩
      have J := Lib.hid (K.out.call r2 b2)
      clear r2 b2 K C10
      obtain ⟨⟨c0, _, _, _, _⟩, _, _, _, _⟩ := J.out.out.m
      obtain ⟨⟨_, g1, g2, g3, g4⟩, g5, g6, g7, g8⟩ := J.out.out.m
      have ff := J.out.out.free 6
      have K := Lib.hid (J.out.set 6 (.int .i64 (v10 : Int)) (⟨⟨1, strB v2, acc, strB v7, strB v8, strB v9, (v10 : Int), 0, false⟩, av, cv⟩) rfl ⟨rfl, rfl, rfl⟩)
      clear J
      obtain ⟨sa, sc, sl, ok, r1, r2, r3, r4⟩ := K.out.sn
      obtain ⟨⟨d0, d1⟩, _⟩ := cellsR2 r1
      have hscap := r2.cap
      clear r1 r2 r3
      cases ok with
      | false =>
        have HR4 := Lib.hid r4
        clear r4
        have HX := told_none HT.out (.inl (by rw [HR4.out]; simp))
        have s1 := st_cm K.out.res noCmR
        go_wp2_with fail
        (try simp only [Exit.inBlock, Exit.then])
        apply bodyPost_ret
        case hd => rfl
        case hr => exact results_cell_one rfl _ _ w.heap.size _ rfl (loadCm (setRow_heap _ _ _ _ _ _ K.out.res))
        case hR => exact ⟨noCmR, by rw [HX.2]; rfl, HX.1.symm, CmP.none _, Below.row K.out.low (Nat.le_refl _) _⟩
      | true =>
        by_cases hs : sl = []
        · subst hs
          have HR4 := Lib.hid (show (s10 : Sc) = some [] from by rw [r4]; rfl)
          clear r4
          have CR := Lib.hid (refCmRight_any _ _ (cmP_own K.out.own HFit.out))
          have la := ld_cm K.out.out
          go_wp2_with fail
          refine CR.out.mono ?_
          rintro e w9 ⟨rfl, b9⟩
          have K9 := Lib.hid (K.out.below b9)
          clear la d0 d1 b9
          cases hq : rightC (⟨1, strB v2, acc, strB v7, strB v8, strB v9, (v10 : Int), 0, false⟩ : Cm) with
          | false =>
            have HX := told_none HT.out (.inr hq)
            have s1 := st_cm K9.out.res noCmR
            go_wp2_with fail
            (try simp only [Exit.inBlock, Exit.then])
            apply bodyPost_ret
            case hd => rfl
            case hr => exact results_cell_one rfl _ _ w.heap.size _ rfl (loadCm (setRow_heap _ _ _ _ _ _ K9.out.res))
            case hR => exact ⟨noCmR, by rw [HX.2]; rfl, HX.1.symm, CmP.none _, Below.row K9.out.low (Nat.le_refl _) _⟩
          | true =>
            have HT2 := HT.out
            rw [HR4.out] at HT2
            have HX := told_some HT2 hq
            have la := ld_cm K9.out.out
            have s1 := st_cm K9.out.res (⟨⟨1, strB v2, acc, strB v7, strB v8, strB v9, (v10 : Int), 0, false⟩, av, cv⟩ : CmR)
            go_wp2_with fail
            (try simp only [Exit.inBlock, Exit.then])
            apply bodyPost_ret
            case hd => rfl
            case hr => exact results_cell_one rfl _ _ w.heap.size _ rfl (loadCm (setRow_heap _ _ _ _ _ _ K9.out.res))
            case hR => exact ⟨(⟨⟨1, strB v2, acc, strB v7, strB v8, strB v9, (v10 : Int), 0, false⟩, av, cv⟩ : CmR), by rw [HX.2]; rfl, HX.1.symm, cmP_own (K9.out.own.grown fun k h1 h2 => setRow_other _ _ k _ (by have := K9.out.hc; omega)) HFit.out, Below.row K9.out.low (Nat.le_refl _) _⟩
        · have hpos := List.length_pos_iff.2 hs
          have hpos2 : (0 : Int) < (sl.length : Int) := by omega
          have HNe : Hid ((s10 : Sc) ≠ some []) := Lib.hid (fun e => hs (by have q := r4.symm.trans e; simpa using q))
          clear hs r4
          have HX := told_none HT.out (.inl HNe.out)
          have s1 := st_cm K.out.res noCmR
          go_wp2_with fail
          (try simp only [Exit.inBlock, Exit.then])
          apply bodyPost_ret
          case hd => rfl
          case hr => exact results_cell_one rfl _ _ w.heap.size _ rfl (loadCm (setRow_heap _ _ _ _ _ _ K.out.res))
          case hR => exact ⟨noCmR, by rw [HX.2]; rfl, HX.1.symm, CmP.none _, Below.row K.out.low (Nat.le_refl _) _⟩


/-- The document's Told, of any bytes. -/
theorem refTold_any (a : Option Addr) (cap : Nat) (l : List Nat) (w : World) (h : BytesP w a cap l) : Calls Tryz.prog 19 #[.slice a l.length cap] w (ToldPost l w) := by
  have hk := numS_le 8 (some l) (fun b e => by cases e; exact h.byte)
  have hkk : (numS 8 (some l)).1 = 0 ∨ (numS 8 (some l)).1 = 1 ∨ (numS 8 (some l)).1 = 2 ∨ (numS 8 (some l)).1 = 3 ∨ (numS 8 (some l)).1 = 4 ∨ (numS 8 (some l)).1 = 5 ∨ (numS 8 (some l)).1 = 6 ∨ (numS 8 (some l)).1 = 7 ∨ (numS 8 (some l)).1 = 8 := by omega
  rcases hkk with hk | hk | hk | hk | hk | hk | hk | hk | hk
  · exact refTold0 a cap l w h hk
  · exact refTold1 a cap l w h hk
  · exact refTold2 a cap l w h hk
  · exact refTold3 a cap l w h hk
  · exact refTold4 a cap l w h hk
  · exact refTold5 a cap l w h hk
  · exact refTold6 a cap l w h hk
  · exact refTold7 a cap l w h hk
  · exact refTold8 a cap l w h hk
end

/- SnKinds: The table of what a command of each kind has, as the program's text lays it; partsOf, isKind, fits, isGroup and asNumber of package snap. -/
section
set_option maxRecDepth 100000
open Go.RowKit Go.ChangeShapes Go.WideShapes Go.ChangeAt

section
variable (ev : Operand → Value) (d : Option Tmp) (ty : TypeId) (pos : String) (af : Array Edge) (gd : Option (Nat × Bool)) (w : World)
end
attribute [local go_sem ↓] ldPt stPt alPt bdPt
attribute [local go_sem] al_pt st_ptnew bd_pt

theorem fits_any (a b c : Bool) (w : World) : Calls Tryz.prog 34 #[.bool a, .bool b, .bool c] w (BoolSame (if a then b else c) w) := by
  cases a
  all_goals
    go_enter Tryz.func34, Tryz.ntmps34
    go_wp2_with fail
    go_ret
    exact ⟨rfl, rfl⟩
set_option maxHeartbeats 2000000 in
theorem snIsGroup_any (a b c : ByteArray) (w : World) (ha : a.size ≤ maxLen) (hb : b.size ≤ maxLen) (hc : c.size ≤ maxLen) : Calls Tryz.prog 37 #[.agg #[.string a, .string b, .string c]] w (Tell (groupB a b c) w) := by
  have C1 : Hid (∀ w, Calls Tryz.prog 35 #[.string a] w (Tell (rightT a) w)) := Lib.hid (fun w => right_any a w ha)
  have C2 : Hid (∀ w, Calls Tryz.prog 35 #[.string b] w (Tell (rightT b) w)) := Lib.hid (fun w => right_any b w hb)
  have C3 : Hid (∀ w, Calls Tryz.prog 35 #[.string c] w (Tell (rightT c) w)) := Lib.hid (fun w => right_any c w hc)
  have D := Lib.hid (GrB.new w a b c)
  have B := Lib.hid ((Below.refl w.heap.size w).alloc (Nat.le_refl _) (Obj.cells #[Value.string a, Value.string b, Value.string c] 24))
  have HE := Lib.hid (show groupB a b c = (rightT a && (rightT b && rightT c)) from rfl)
  clear ha hb hc
  go_enter Tryz.func37, Tryz.ntmps37
  go_wp2_with fail
  refine (C1.out _).mono ?_
  rintro e w1 ⟨rfl, b1⟩
  generalize w.alloc (Obj.cells #[Value.string a, Value.string b, Value.string c] 24) = W at *
  have D1 := Lib.hid (D.out.below b1)
  have B1 := Lib.hid (B.out.trans (b1.mono B.out.size))
  obtain ⟨c0, c1, c2⟩ := D1.out.cells
  clear b1
  cases h1 : rightT a with
  | false =>
    go_wp2_with fail
    go_ret
    exact ⟨by rw [HE.out, h1]; rfl, B1.out⟩
  | true =>
    go_wp2_with fail
    refine (C2.out _).mono ?_
    rintro e w2 ⟨rfl, b2⟩
    have D2 := Lib.hid (D1.out.below b2)
    have B2 := Lib.hid (B1.out.trans (b2.mono B1.out.size))
    clear c0 c1 c2 b2
    obtain ⟨c0, c1, c2⟩ := D2.out.cells
    cases h2 : rightT b with
    | false =>
      go_wp2_with fail
      go_ret
      exact ⟨by rw [HE.out, h1, h2]; rfl, B2.out⟩
    | true =>
      go_wp2_with fail
      refine (C3.out _).mono ?_
      rintro e w3 ⟨rfl, b3⟩
      have B3 := Lib.hid (B2.out.trans (b3.mono B2.out.size))
      clear c0 c1 c2 b3
      go_wp2_with fail
      go_ret
      exact ⟨by rw [HE.out, h1, h2]; rfl, B3.out⟩
end

/- SnPt: A command can be: part by part, by what its kind has. -/
section
set_option maxRecDepth 100000

/-- Right, part by part. -/
def partB (has right zero : Bool) : Bool := if has then right else zero
def idB (p : Pt) (c : Cm) : Bool := partB p.id (rightT c.id) (c.id.toList == [])
def lnB (p : Pt) (c : Cm) : Bool := partB p.ln (rightLB c.ls) (((c.ls.length : Nat) : Int) == 0)
def grB (p : Pt) (c : Cm) : Bool := partB p.gr (groupB c.car c.zone c.serv) (sameG c.car c.zone c.serv ⟨#[]⟩ ⟨#[]⟩ ⟨#[]⟩)
def totB (p : Pt) (c : Cm) : Bool := partB p.tot (tallyB c.total) (c.total == 0)
def numB (p : Pt) (c : Cm) : Bool := partB (decide (0 < p.most)) (decide (1 ≤ c.number) && decide (c.number ≤ p.most)) (c.number == 0)
def yesB (p : Pt) (c : Cm) : Bool := p.yes || !c.yes
def rtB (p : Pt) (c : Cm) : Bool := cmdB c.kind && (idB p c && (lnB p c && (grB p c && (totB p c && (numB p c && yesB p c)))))
theorem str_empty (s : ByteArray) : (s.toList == []) = s.toList.isEmpty := by cases s.toList <;> rfl
theorem str_nil (s : ByteArray) : (s.toList == []) = true ↔ s = ⟨#[]⟩ := by
  have := toList_iff s ⟨#[]⟩
  rwa [show (⟨#[]⟩ : ByteArray).toList = [] from by decide +kernel] at this
theorem sameG_none (a b c : ByteArray) : sameG a b c ⟨#[]⟩ ⟨#[]⟩ ⟨#[]⟩ = true ↔ a = ⟨#[]⟩ ∧ b = ⟨#[]⟩ ∧ c = ⟨#[]⟩ := by
  simp only [sameG, Bool.and_eq_true, toList_iff]
theorem lenP (l : List Ln) : ((l.length : Nat) : Int) = 0 ↔ l = [] := by
  rw [← List.length_eq_zero_iff]
  omega
theorem strP (s : ByteArray) : s.toList = [] ↔ s = ⟨#[]⟩ := by rw [← str_nil, beq_iff_eq]
theorem right_parts (c : Cm) : rightC c = rtB (ptOf c.kind) c := by
  by_cases hk : 1 ≤ c.kind ∧ c.kind ≤ 8
  · rw [Bool.eq_iff_iff]
    unfold rightC
    rw [Bool.and_eq_true, sameCm_iff]
    obtain ⟨k, id, ls, car, zone, serv, tot, num, yes⟩ := c
    have hkk : k = 1 ∨ k = 2 ∨ k = 8 ∨ k = 3 ∨ k = 4 ∨ k = 5 ∨ k = 6 ∨ k = 7 := by
      have : 1 ≤ k ∧ k ≤ 8 := hk
      omega
    clear hk
    simp only [rtB, idB, lnB, grB, totB, numB, yesB, Bool.and_eq_true]
    rcases hkk with rfl | rfl | rfl | rfl | rfl | rfl | rfl | rfl
    all_goals simp only [bareC, fitsC, ptOf, partB, cmdB, Bool.and_eq_true, Cm.mk.injEq, sameG_none, beq_iff_eq, decide_eq_true_eq, aboveB_iff, Int.reduceEq, if_true, if_false, or_self, true_or, or_true, Int.reduceLT, Int.reduceLE, decide_true, decide_false, Bool.false_eq_true, Bool.true_or, Bool.false_or, Bool.not_eq_true', true_and, and_true, lenP, strP, and_assoc]
    all_goals constructor <;> intro h <;> simp_all only [and_self]
  · have h1 : rightC c = false := by
      cases h : rightC c with
      | false => rfl
      | true => exact absurd (rightC_kind h) hk
    have h2 : cmdB c.kind = false := by simpa [cmdB] using hk
    rw [h1, rtB, h2, Bool.false_and]
end

/- SnLine: What readLine and readGroup of package snap answer. -/
section
open Go.RowKit Go.ChangeShapes Go.WideShapes Go.ChangeAt

set_option maxRecDepth 100000 in
set_option maxHeartbeats 4000000 in
theorem snReadLine_any (w : World) (g : Nat) (s : Sc) (h : RdS w g s) : Calls Tryz.prog 91 #[.pointer (some ⟨g, 0, none⟩)] w (ReadS g (lineV (lineS s).1) (lineS s).2 w) := by
  have hg := h.lt
  have K0 := Lib.hid (Rin.begin h 72 #[.string ⟨#[]⟩, .int .i64 0, .int .i64 0])
  have y1 := h.bytes
  rcases h1 : textS 32 s with ⟨v1, s1⟩
  have z1 : BytesS s1 := by have := (textS_bytes y1 32).1; rwa [h1] at this
  have C1 := Lib.hid (fun W hW => show Calls Tryz.prog 90 #[.pointer (some ⟨g, 0, none⟩), .int .i64 32] W (ReadS g (.string (strB v1)) s1 W) by have := rd_text W g s 32 hW (by decide); rwa [h1] at this)
  have y2 := z1
  rcases h2 : numS 1000 s1 with ⟨v2, s2⟩
  have z2 : BytesS s2 := by have := numS_bytes y2 1000; rwa [h2] at this
  have n2 : v2 ≤ 1000 := by have := numS_le 1000 s1 y2; rwa [h2] at this
  have C2 := Lib.hid (fun W hW => show Calls Tryz.prog 89 #[.pointer (some ⟨g, 0, none⟩), .int .u64 1000] W (ReadS g (.int .u64 (v2 : Int)) s2 W) by have := rd_num W g s1 1000 hW (by decide); rwa [h2] at this)
  have e2 : IntKind.i64.wrap (v2 : Int) = (v2 : Int) := by rw [IntKind.wrap_i64]; omega
  have y3 := z2
  rcases h3 : numS 100000 s2 with ⟨v3, s3⟩
  have z3 : BytesS s3 := by have := numS_bytes y3 100000; rwa [h3] at this
  have n3 : v3 ≤ 100000 := by have := numS_le 100000 s2 y3; rwa [h3] at this
  have C3 := Lib.hid (fun W hW => show Calls Tryz.prog 89 #[.pointer (some ⟨g, 0, none⟩), .int .u64 100000] W (ReadS g (.int .u64 (v3 : Int)) s3 W) by have := rd_num W g s2 100000 hW (by decide); rwa [h3] at this)
  have e3 : IntKind.i64.wrap (v3 : Int) = (v3 : Int) := by rw [IntKind.wrap_i64]; omega
  have HP := Lib.hid (show lineS s = (⟨strB v1, (v2 : Int), (v3 : Int)⟩, s3) by simp only [lineS, h1, h2, h3])
  clear h h1 h2 h3 y1 y2 y3 z1 z2 z3
  clear n2 n3
  go_enter Tryz.func91, Tryz.ntmps91
  go_wp2_with fail
  generalize (w.alloc (Obj.cells #[Value.string ⟨#[]⟩, Value.int IntKind.i64 0, Value.int IntKind.i64 0] 72)).alloc (Obj.cells #[Value.string ⟨#[]⟩, Value.int IntKind.i64 0, Value.int IntKind.i64 0] 72) = W0 at *
  refine (C1.out _ K0.out.rd).mono ?_
  rintro e w1 ⟨rfl, r1, b1⟩
  have J1 := Lib.hid (K0.out.call hg r1 b1)
  obtain ⟨⟨c0, c1, c2⟩, f0, f1, f2⟩ := cellsR3 J1.out.var
  clear r1 b1
  have K1 := Lib.hid (J1.out.set hg 0 (.string (strB v1)))
  go_wp2_with fail
  clear c0 c1 c2 f0 f1 f2
  generalize w1.setCell ⟨w.heap.size + 1, 0, none⟩ (.string (strB v1)) = W1 at *
  refine (C2.out _ K1.out.rd).mono ?_
  rintro e w2 ⟨rfl, r2, b2⟩
  have J2 := Lib.hid (K1.out.call hg r2 b2)
  obtain ⟨⟨c0, c1, c2⟩, f0, f1, f2⟩ := cellsR3 J2.out.var
  clear r2 b2
  have K2 := Lib.hid (J2.out.set hg 1 (.int .i64 (v2 : Int)))
  go_wp2_with fail
  clear c0 c1 c2 f0 f1 f2
  generalize w2.setCell ⟨w.heap.size + 1, 1, none⟩ (.int .i64 (v2 : Int)) = W2 at *
  refine (C3.out _ K2.out.rd).mono ?_
  rintro e w3 ⟨rfl, r3, b3⟩
  have J3 := Lib.hid (K2.out.call hg r3 b3)
  obtain ⟨⟨c0, c1, c2⟩, f0, f1, f2⟩ := cellsR3 J3.out.var
  clear r3 b3
  have K3 := Lib.hid (J3.out.set hg 2 (.int .i64 (v3 : Int)))
  go_wp2_with (refine wpList_store_row rfl 72 _ _ rfl w.heap.size #[.string (strB v1), .int .i64 (v2 : Int), .int .i64 (v3 : Int)] rfl rfl 72 #[.string ⟨#[]⟩, .int .i64 0, .int .i64 0] K3.out.res (sizeL _ _ _) rfl (by simp [Value.oneCell']) ?_)
  (try simp only [Exit.inBlock, Exit.then])
  refine bodyPost_ret (v := .agg #[.string (strB v1), .int .i64 (v2 : Int), .int .i64 (v3 : Int)]) ?_ rfl ⟨by rw [HP.out]; rfl, by rw [HP.out]; exact (K3.out.fin hg _).1, (K3.out.fin hg _).2⟩
  exact results_cell_row rfl _ _ w.heap.size 72 _ (0, 0) _ rfl (setRow_heap _ _ _ _ _ _ K3.out.res) Tryz.underlying72 rfl (sizeL _ _ _)

set_option maxRecDepth 100000 in
set_option maxHeartbeats 4000000 in
theorem snReadGroup_any (w : World) (g : Nat) (s : Sc) (h : RdS w g s) : Calls Tryz.prog 92 #[.pointer (some ⟨g, 0, none⟩)] w (ReadS g (groupV (groupS s).1) (groupS s).2 w) := by
  have hg := h.lt
  have K0 := Lib.hid (Rin.begin h 24 #[.string ⟨#[]⟩, .string ⟨#[]⟩, .string ⟨#[]⟩])
  have y1 := h.bytes
  rcases h1 : textS 32 s with ⟨v1, s1⟩
  have z1 : BytesS s1 := by have := (textS_bytes y1 32).1; rwa [h1] at this
  have C1 := Lib.hid (fun W hW => show Calls Tryz.prog 90 #[.pointer (some ⟨g, 0, none⟩), .int .i64 32] W (ReadS g (.string (strB v1)) s1 W) by have := rd_text W g s 32 hW (by decide); rwa [h1] at this)
  have y2 := z1
  rcases h2 : textS 32 s1 with ⟨v2, s2⟩
  have z2 : BytesS s2 := by have := (textS_bytes y2 32).1; rwa [h2] at this
  have C2 := Lib.hid (fun W hW => show Calls Tryz.prog 90 #[.pointer (some ⟨g, 0, none⟩), .int .i64 32] W (ReadS g (.string (strB v2)) s2 W) by have := rd_text W g s1 32 hW (by decide); rwa [h2] at this)
  have y3 := z2
  rcases h3 : textS 32 s2 with ⟨v3, s3⟩
  have z3 : BytesS s3 := by have := (textS_bytes y3 32).1; rwa [h3] at this
  have C3 := Lib.hid (fun W hW => show Calls Tryz.prog 90 #[.pointer (some ⟨g, 0, none⟩), .int .i64 32] W (ReadS g (.string (strB v3)) s3 W) by have := rd_text W g s2 32 hW (by decide); rwa [h3] at this)
  have HP := Lib.hid (show groupS s = ((v1, v2, v3), s3) by simp only [groupS, h1, h2, h3])
  clear h h1 h2 h3 y1 y2 y3 z1 z2 z3
  go_enter Tryz.func92, Tryz.ntmps92
  go_wp2_with fail
  generalize (w.alloc (Obj.cells #[Value.string ⟨#[]⟩, Value.string ⟨#[]⟩, Value.string ⟨#[]⟩] 24)).alloc (Obj.cells #[Value.string ⟨#[]⟩, Value.string ⟨#[]⟩, Value.string ⟨#[]⟩] 24) = W0 at *
  refine (C1.out _ K0.out.rd).mono ?_
  rintro e w1 ⟨rfl, r1, b1⟩
  have J1 := Lib.hid (K0.out.call hg r1 b1)
  obtain ⟨⟨c0, c1, c2⟩, f0, f1, f2⟩ := cellsR3 J1.out.var
  clear r1 b1
  have K1 := Lib.hid (J1.out.set hg 0 (.string (strB v1)))
  go_wp2_with fail
  clear c0 c1 c2 f0 f1 f2
  generalize w1.setCell ⟨w.heap.size + 1, 0, none⟩ (.string (strB v1)) = W1 at *
  refine (C2.out _ K1.out.rd).mono ?_
  rintro e w2 ⟨rfl, r2, b2⟩
  have J2 := Lib.hid (K1.out.call hg r2 b2)
  obtain ⟨⟨c0, c1, c2⟩, f0, f1, f2⟩ := cellsR3 J2.out.var
  clear r2 b2
  have K2 := Lib.hid (J2.out.set hg 1 (.string (strB v2)))
  go_wp2_with fail
  clear c0 c1 c2 f0 f1 f2
  generalize w2.setCell ⟨w.heap.size + 1, 1, none⟩ (.string (strB v2)) = W2 at *
  refine (C3.out _ K2.out.rd).mono ?_
  rintro e w3 ⟨rfl, r3, b3⟩
  have J3 := Lib.hid (K2.out.call hg r3 b3)
  obtain ⟨⟨c0, c1, c2⟩, f0, f1, f2⟩ := cellsR3 J3.out.var
  clear r3 b3
  have K3 := Lib.hid (J3.out.set hg 2 (.string (strB v3)))
  go_wp2_with (refine wpList_store_row rfl 24 _ _ rfl w.heap.size #[.string (strB v1), .string (strB v2), .string (strB v3)] rfl rfl 24 #[.string ⟨#[]⟩, .string ⟨#[]⟩, .string ⟨#[]⟩] K3.out.res (sizeG _ _ _) rfl (by simp [Value.oneCell']) ?_)
  (try simp only [Exit.inBlock, Exit.then])
  refine bodyPost_ret (v := .agg #[.string (strB v1), .string (strB v2), .string (strB v3)]) ?_ rfl ⟨by rw [HP.out]; rfl, by rw [HP.out]; exact (K3.out.fin hg _).1, (K3.out.fin hg _).2⟩
  exact results_cell_row rfl _ _ w.heap.size 24 _ (0, 0) _ rfl (setRow_heap _ _ _ _ _ _ K3.out.res) Tryz.underlying24 rfl (sizeG _ _ _)
end

end Go.Proofs.YtfmpibmhhfmajaaGreatDoor
