/- BatchBack: the law returns true for any batch, any caps and any two acts: who joins and is evicted leaves the batch as it was; in whichever order two leave, it is the same. It has no conditions. -/
import Derived.Test.YtieoihmndpkdoaaBtAlive
import Derived.Test.YtieoihmndpkdoaaBtVo
import Derived.Test.YtieoihmndpkdoaaBtRight
import Derived.Test.YtieoihmndpkdoaaBtSame
import Derived.Test.YtieoihmndpkdoaaBtArgs
import Derived.Test.YtieoihmndpkdoaaBtEvict
import Derived.Test.YtieoihmndpkdoaaBtTake
namespace Go.Proofs.Ytieoihmndpkdoaa
open Go.ChangeShapes Go.WideShapes Go.ChangeAt Go.RowKit

set_option maxRecDepth 100000
attribute [local go_sem ↓] ldBt stBt alBt bxBt ldCp bxCp
attribute [local go_sem] al_bt bx_bt bx_cp alloc_setRow

theorem dropT_app (l m : List ByteArray) (x : ByteArray) : dropT (l ++ m) x = dropT l x ++ dropT m x := by simp [dropT]
theorem dropT_none {l : List ByteArray} {x : ByteArray} (h : x ∉ l) : dropT l x = l :=
  List.filter_eq_self.2 fun y hy => by rw [str_ne (fun e : y = x => h (e ▸ hy))]; rfl
theorem dropT_one (x : ByteArray) : dropT [x] x = [] := by simp [dropT]
theorem lessV_back {p q : Int} (h0 : 0 ≤ p) (h1 : 0 ≤ q) (h : p + q ≤ 1000000000000) : lessV (p + q) q = p := by
  unfold lessV
  rw [(tallyB_iff _).2 ⟨by omega, by omega⟩, (tallyB_iff _).2 ⟨by omega, by omega⟩, decide_eq_true (by omega)]
  simp
theorem evictE_in {b : Bt} {id : ByteArray} (hp : b.phase = 1) (h : id ∈ b.mem) : evictE b id = 0 := by
  unfold evictE
  rw [if_neg (by simp [hp]), if_pos ((hasT_iff _ _).2 h)]
theorem evictV_in {b : Bt} {id : ByteArray} (w : Int) (hp : b.phase = 1) (h : id ∈ b.mem) : evictV b id w = evictD b id w := by
  unfold evictV
  rw [if_pos (evictE_in hp h)]
/-- Who joins and is evicted leaves the batch as it was. -/
theorem evict_join {b : Bt} {c : Cp} {id : ByteArray} {u : Int} (h : joinE b c id u = 0) : evictE (joinD b id u) id = 0 ∧ evictV (joinD b id u) id u = b := by
  obtain ⟨h1, h2, h3, h4, h5⟩ := joinE_ok h
  obtain ⟨e1, e2, e3, e4⟩ := addE_ok h4
  have hm : id ∈ (joinD b id u).mem := by simp [joinD]
  refine ⟨evictE_in h1 hm, ?_⟩
  rw [evictV_in (b := joinD b id u) u h1 hm]
  cases b
  simp only [evictD, joinD] at *
  rw [e1, lessV_back e2 e3 e4, dropT_app, dropT_none h3, dropT_one, List.append_nil]
/-- In whichever order two leave, it is the same. -/
theorem evict_two {b : Bt} {c : Cp} {i j : ByteArray} {u v : Int} (h : joinE b c i u = 0) (k : joinE (joinD b i u) c j v = 0) :
    evictV (evictV (joinD (joinD b i u) j v) i u) j v = b ∧ evictV (evictV (joinD (joinD b i u) j v) j v) i u = b := by
  have k2 := evict_join k
  refine ⟨?_, by rw [k2.2]; exact (evict_join h).2⟩
  obtain ⟨h1, h2, h3, h4, h5⟩ := joinE_ok h
  obtain ⟨e1, e2, e3, e4⟩ := addE_ok h4
  obtain ⟨k1, _, k3, k4, k5⟩ := joinE_ok k
  obtain ⟨f1, f2, f3, f4⟩ := addE_ok k4
  have hij : ¬ i = j := fun e => k3 (by simp [joinD, e])
  have hj : j ∉ b.mem := fun e => k3 (by simp [joinD, e])
  have hm : i ∈ (joinD (joinD b i u) j v).mem := by simp [joinD]
  rw [evictV_in (b := joinD (joinD b i u) j v) u h1 hm]
  have hw : (joinD (joinD b i u) j v).wt = (b.wt + v) + u := by
    show addV (joinD b i u).wt v = _
    rw [f1]
    show addV b.wt u + v = _
    rw [e1]; omega
  have hf : (b.wt + v) + u ≤ 1000000000000 := by
    have : (joinD b i u).wt = b.wt + u := e1
    omega
  have e : evictD (joinD (joinD b i u) j v) i u = ⟨b.id, b.wt + v, b.born, b.kind, b.phase, b.car, b.zone, b.serv, b.mem ++ [j]⟩ := by
    unfold evictD
    rw [hw, lessV_back (by omega) e3 hf]
    simp only [joinD]
    rw [dropT_app, dropT_app, dropT_none h3, dropT_one, dropT_none (show i ∉ [j] by simp [hij])]
    simp
  rw [e, evictV_in (b := ⟨b.id, b.wt + v, b.born, b.kind, b.phase, b.car, b.zone, b.serv, b.mem ++ [j]⟩) v h1 (by simp)]
  unfold evictD
  rw [lessV_back e2 f3 (by omega), dropT_app, dropT_none hj, dropT_one, List.append_nil]

/-- What came in: a batch, caps, two acts, each in a variable. -/
structure BackI (w : World) (a : Option Addr) (ca : Nat) (b : Bt) (c : Cp) (x y : Ac) (W : World) : Prop where
  row : Row W w.heap.size 28 (btC a ca b)
  caps : CapsI w (w.heap.size + 1) c W
  two : Row W (w.heap.size + 2) 62 #[.int .i64 x.kind, .string x.id, .int .i64 x.wt, .int .i64 y.kind, .string y.id, .int .i64 y.wt]
theorem BackI.below {w W W' : World} {a : Option Addr} {ca : Nat} {b : Bt} {c : Cp} {x y : Ac} (h : BackI w a ca b c x y W) (k : Below W.heap.size W W') : BackI w a ca b c x y W' := ⟨h.row.below k, h.caps.below k, h.two.below k⟩
theorem BackI.next {w W W' : World} {a : Option Addr} {ca : Nat} {b : Bt} {c : Cp} {x y : Ac} (h : BackI w a ca b c x y W) (k : Below W.heap.size W W') (o : Obj) : BackI w a ca b c x y (W'.alloc o) := (h.below k).below ((Below.refl _ _).alloc (Nat.le_refl _) _)
theorem BackI.setRow {w W : World} {a : Option Addr} {ca : Nat} {b : Bt} {c : Cp} {x y : Ac} (h : BackI w a ca b c x y W) {k : Nat} (hk : w.heap.size + 2 < k) (cs : Array Value) : BackI w a ca b c x y (W.setRow k cs) :=
  ⟨(setRow_other _ _ _ _ (by omega)).trans h.row, h.caps.setRow (by omega) (by omega) cs, (setRow_other _ _ _ _ (by omega)).trans h.two⟩
theorem BackI.new {w : World} {a : Option Addr} {ca : Nat} {b : Bt} {c : Cp} {x y : Ac} : BackI w a ca b c x y (((w.alloc (.cells (btC a ca b) 28)).alloc (.cells #[.int .i64 c.count, .int .i64 c.wt] 23)).alloc (.cells #[.int .i64 x.kind, .string x.id, .int .i64 x.wt, .int .i64 y.kind, .string y.id, .int .i64 y.wt] 62)) := by
  have b1 : Below w.heap.size w (w.alloc (.cells (btC a ca b) 28)) := (Below.refl _ _).alloc (Nat.le_refl _) _
  have e1 : (w.alloc (.cells (btC a ca b) 28)).heap.size = w.heap.size + 1 := by simp
  have v1 : Row (w.alloc (.cells (btC a ca b) 28)) w.heap.size 28 (btC a ca b) := heap_alloc_new _ _
  have v2 := CapsI.new (w.alloc (.cells (btC a ca b) 28)) c
  generalize w.alloc (.cells (btC a ca b) 28) = W1 at *
  have b2 : Below W1.heap.size W1 (W1.alloc (.cells #[.int .i64 c.count, .int .i64 c.wt] 23)) := (Below.refl _ _).alloc (Nat.le_refl _) _
  have e2 : (W1.alloc (.cells #[.int .i64 c.count, .int .i64 c.wt] 23)).heap.size = w.heap.size + 2 := by simp; omega
  generalize W1.alloc (.cells #[.int .i64 c.count, .int .i64 c.wt] 23) = W2 at *
  have b3 : Below W2.heap.size W2 (W2.alloc (.cells #[.int .i64 x.kind, .string x.id, .int .i64 x.wt, .int .i64 y.kind, .string y.id, .int .i64 y.wt] 62)) := (Below.refl _ _).alloc (Nat.le_refl _) _
  have v3 : Row (W2.alloc (.cells #[.int .i64 x.kind, .string x.id, .int .i64 x.wt, .int .i64 y.kind, .string y.id, .int .i64 y.wt] 62)) W2.heap.size 62 _ := heap_alloc_new _ _
  have r2 := v2.row
  rw [e1] at r2
  rw [e2] at v3
  exact ⟨(v1.below b2).below b3, ⟨Row.below r2 b3, (b1.trans (b2.mono b1.size)).trans (b3.mono (Nat.le_trans b1.size b2.size))⟩, v3⟩

set_option maxHeartbeats 16000000 in
theorem back_walk (a : Option Addr) (ca : Nat) (b : Bt) (c : Cp) (x y : Ac) (w : World) (h1 : BtP w a ca b) (hx : x.id.size ≤ maxLen) (hy : y.id.size ≤ maxLen) : Calls Try.prog 8 #[btV a ca b, cpV c, twoV x y] w (Tell true w) := by
  have K0 := Lib.hid (BackI.new (w := w) (a := a) (ca := ca) (b := b) (c := c) (x := x) (y := y))
  have HB := Lib.hid h1
  have HX := Lib.hid hx
  have HY := Lib.hid hy
  clear h1 hx hy
  have sa : ∀ W : World, Slot (W.alloc (.cells zB 28)) W.heap.size := fun W => Slot.new W
  have st : ∀ (W : World) g a cap x, Slot W g → StX 28 (.pointer (some ⟨g, 0, none⟩)) (btV a cap x) W = .ok .skip (W.setRow g (btC a cap x)) := fun W g a cap x h => h.store a cap x
  unfold twoV
  go_enter Try.func8, Try.ntmps8
  go_wp2_with fail
  generalize ((w.alloc (.cells (btC a ca b) 28)).alloc (.cells #[.int .i64 c.count, .int .i64 c.wt] 23)).alloc (.cells #[.int .i64 x.kind, .string x.id, .int .i64 x.wt, .int .i64 y.kind, .string y.id, .int .i64 y.wt] 62) = W0 at *
  refine (alive_any _).mono ?_
  rintro e W1 ⟨rfl, b1⟩
  have K1 := Lib.hid (K0.out.below b1)
  clear b1 K0
  have l1 := ld_bt K1.out.row
  have CR := Lib.hid (btRight_any a ca b W1 (HB.out.below K1.out.caps.low))
  go_wp2_with fail
  refine CR.out.mono ?_
  rintro e W2 ⟨rfl, b2⟩
  have K2 := Lib.hid (K1.out.below b2)
  clear b2 K1 l1 CR
  cases hr : rightBt b with
  | false =>
    go_wp2_with fail
    go_ret
    exact ⟨rfl, K2.out.caps.low⟩
  | true =>
    have l2 := ld_cp K2.out.caps.row
    go_wp2_with fail
    refine (caps_any c W2).mono ?_
    rintro e W3 ⟨rfl, b3⟩
    have K3 := Lib.hid (K2.out.below b3)
    clear b3 K2 l2
    cases hc : capsB c with
    | false =>
      go_wp2_with fail
      go_ret
      exact ⟨rfl, K3.out.caps.low⟩
    | true =>
      have q2 : W3.cell? ⟨w.heap.size + 2, 2, none⟩ = some (.int .i64 x.wt) := K3.out.two.cell 2
      have q5 : W3.cell? ⟨w.heap.size + 2, 5, none⟩ = some (.int .i64 y.wt) := K3.out.two.cell 5
      by_cases u0 : x.wt < 0
      · go_wp2_with fail
        go_ret
        exact ⟨rfl, K3.out.caps.low⟩
      by_cases u1 : y.wt < 0
      · go_wp2_with fail
        go_ret
        exact ⟨rfl, K3.out.caps.low⟩
      by_cases u2 : 1000000 < x.wt
      · go_wp2_with fail
        go_ret
        exact ⟨rfl, K3.out.caps.low⟩
      by_cases u3 : 1000000 < y.wt
      · go_wp2_with fail
        go_ret
        exact ⟨rfl, K3.out.caps.low⟩
      have r0 := rightBt_of hr
      have HM := Lib.hid (HB.out.below K3.out.caps.low).mem
      have FR := Lib.hid (fits_right hr)
      have C1 := Lib.hid (btJoin_any a ca b c x.id x.wt W3 HM.out (by omega) HX.out)
      have l1 := ld_bt K3.out.row
      have l2 := ld_cp K3.out.caps.row
      have q1 : W3.cell? ⟨w.heap.size + 2, 1, none⟩ = some (.string x.id) := K3.out.two.cell 1
      rcases joinV_cases b c x.id x.wt with ⟨he, hv⟩ | ⟨he, hv⟩
      rotate_left
      · rw [hv] at C1
        have hne : (joinE b c x.id x.wt != 0) = true := by simpa using he
        generalize joinE b c x.id x.wt = ee at *
        go_wp2_with fail
        refine C1.out.mono ?_
        rintro e w4 ⟨a4, c4, rfl, o4, b4⟩
        have N4 := Lib.hid (Vo.new o4)
        have K4 := Lib.hid (K3.out.next b4 (.cells (btC a4 c4 b) 28))
        clear C1 o4 b4 l1 l2 q1 q2 q5 K3 HM
        have la := ld_bt N4.out.row
        have lb := ld_bt K4.out.row
        have CS := Lib.hid (btSame_any a4 a c4 ca b b _ (btP_of N4.out.mem FR.out) (HB.out.below K4.out.caps.low))
        rw [sameBt_self] at CS
        go_wp2_with fail
        refine CS.out.mono ?_
        rintro e w5 ⟨rfl, b5⟩
        have L5 := Lib.hid (K4.out.caps.low.trans (b5.mono K4.out.caps.low.size))
        clear b5
        go_wp2_with fail
        go_ret
        exact ⟨rfl, L5.out⟩
      · rw [he, hv] at C1
        have hr1 : rightBt (joinD b x.id x.wt) = true := by rw [← hv]; exact join_right hr hc
        have F1 := Lib.hid (fits_right hr1)
        have r1 := rightBt_of hr1
        have EJ := evict_join he
        have CE1 := Lib.hid (fun a' c' W h => btEvict_any a' c' (joinD b x.id x.wt) x.id x.wt W h (by omega) r1.2.2.2.2.2.2.2.2)
        rw [EJ.1, EJ.2] at CE1
        have CJ2 := Lib.hid (fun a' c' W h => btJoin_any a' c' (joinD b x.id x.wt) c y.id y.wt W h (by omega) HY.out)
        have J2 := joinV_cases (joinD b x.id x.wt) c y.id y.wt
        have T2 := Lib.hid (fun k => evict_two (j := y.id) (v := y.wt) he k)
        have R2 := Lib.hid (fun (hv2 : joinV (joinD b x.id x.wt) c y.id y.wt = joinD (joinD b x.id x.wt) y.id y.wt) => show rightBt (joinD (joinD b x.id x.wt) y.id y.wt) = true by rw [← hv2]; exact join_right hr1 hc)
        generalize joinD b x.id x.wt = x1 at *
        clear EJ he hv r0
        go_wp2_with fail
        refine C1.out.mono ?_
        rintro e w4 ⟨a4, c4, rfl, o4, b4⟩
        have N4 := Lib.hid (Vo.new o4)
        have K4 := Lib.hid (K3.out.next b4 (.cells (btC a4 c4 x1) 28))
        clear C1 o4 b4 l1 l2 q1 q2 q5 K3 HM
        have la := ld_bt N4.out.row
        have q1 : (w4.alloc (.cells (btC a4 c4 x1) 28)).cell? ⟨w.heap.size + 2, 1, none⟩ = some (.string x.id) := K4.out.two.cell 1
        have q2 : (w4.alloc (.cells (btC a4 c4 x1) 28)).cell? ⟨w.heap.size + 2, 2, none⟩ = some (.int .i64 x.wt) := K4.out.two.cell 2
        go_wp2_with fail
        refine (CE1.out _ _ _ N4.out.mem).mono ?_
        rintro e w5 ⟨a5, c5, rfl, o5, b5⟩
        have N5 := Lib.hid (Vo.new o5)
        have M5 := Lib.hid (N4.out.next b5 (.cells (btC a5 c5 b) 28))
        have K5 := Lib.hid (K4.out.next b5 (.cells (btC a5 c5 b) 28))
        clear CE1 o5 b5 la q1 q2 K4 N4
        have la := ld_bt N5.out.row
        have lb := ld_bt K5.out.row
        have CS := Lib.hid (btSame_any a5 a c5 ca b b _ (btP_of N5.out.mem FR.out) (HB.out.below K5.out.caps.low))
        rw [sameBt_self] at CS
        go_wp2_with fail
        refine CS.out.mono ?_
        rintro e w6 ⟨rfl, b6⟩
        have M6 := Lib.hid (M5.out.below b6)
        have K6 := Lib.hid (K5.out.below b6)
        clear b6 CS la lb N5 M5 K5
        have la := ld_bt M6.out.row
        have lc := ld_cp K6.out.caps.row
        have q4 : w6.cell? ⟨w.heap.size + 2, 4, none⟩ = some (.string y.id) := K6.out.two.cell 4
        have q5 : w6.cell? ⟨w.heap.size + 2, 5, none⟩ = some (.int .i64 y.wt) := K6.out.two.cell 5
        have C2 := Lib.hid (CJ2.out a4 c4 w6 M6.out.mem)
        clear CJ2
        rcases J2 with ⟨he, hv⟩ | ⟨he, hv⟩
        rotate_left
        · rw [hv] at C2
          have hne : (joinE x1 c y.id y.wt != 0) = true := by simpa using he
          generalize joinE x1 c y.id y.wt = ee at *
          go_wp2_with fail
          refine C2.out.mono ?_
          rintro e w7 ⟨a7, c7, rfl, o7, b7⟩
          have N7 := Lib.hid (Vo.new o7)
          have M7 := Lib.hid (M6.out.next b7 (.cells (btC a7 c7 x1) 28))
          have K7 := Lib.hid (K6.out.next b7 (.cells (btC a7 c7 x1) 28))
          clear C2 o7 b7 la lc q4 q5 K6 M6
          have la := ld_bt N7.out.row
          have lb := ld_bt M7.out.row
          have CS := Lib.hid (btSame_any a7 a4 c7 c4 x1 x1 _ (btP_of N7.out.mem F1.out) (btP_of M7.out.mem F1.out))
          rw [sameBt_self] at CS
          go_wp2_with fail
          refine CS.out.mono ?_
          rintro e w8 ⟨rfl, b8⟩
          have L8 := Lib.hid (K7.out.caps.low.trans (b8.mono K7.out.caps.low.size))
          clear b8
          go_wp2_with fail
          go_ret
          exact ⟨rfl, L8.out⟩
        · rw [he, hv] at C2
          have hr2 := R2.out hv
          have r2 := rightBt_of hr2
          have T3 := T2.out he
          have hri : rightBt (evictV (joinD x1 y.id y.wt) x.id x.wt) = true := evict_right hr2
          have ri := rightBt_of hri
          have hrj : rightBt (evictV (joinD x1 y.id y.wt) y.id y.wt) = true := evict_right hr2
          have rj := rightBt_of hrj
          have CP1 := Lib.hid (fun a' c' W h => btEvict_any a' c' (joinD x1 y.id y.wt) x.id x.wt W h (by omega) r2.2.2.2.2.2.2.2.2)
          have CQ1 := Lib.hid (fun a' c' W h => btEvict_any a' c' (joinD x1 y.id y.wt) y.id y.wt W h (by omega) r2.2.2.2.2.2.2.2.2)
          have CP2 := Lib.hid (fun a' c' W h => btEvict_any a' c' (evictV (joinD x1 y.id y.wt) x.id x.wt) y.id y.wt W h (by omega) ri.2.2.2.2.2.2.2.2)
          have CQ2 := Lib.hid (fun a' c' W h => btEvict_any a' c' (evictV (joinD x1 y.id y.wt) y.id y.wt) x.id x.wt W h (by omega) rj.2.2.2.2.2.2.2.2)
          rw [T3.1] at CP2
          rw [T3.2] at CQ2
          clear T3 T2 R2 he hv r1 r2 ri rj hr1 hr2 hri hrj F1
          generalize evictE (evictV (joinD x1 y.id y.wt) x.id x.wt) y.id = e3 at *
          generalize evictE (evictV (joinD x1 y.id y.wt) y.id y.wt) x.id = e4 at *
          generalize evictV (joinD x1 y.id y.wt) x.id x.wt = zi at *
          generalize evictV (joinD x1 y.id y.wt) y.id y.wt = zj at *
          generalize evictE (joinD x1 y.id y.wt) x.id = e1 at *
          generalize evictE (joinD x1 y.id y.wt) y.id = e2 at *
          generalize joinD x1 y.id y.wt = z at *
          go_wp2_with fail
          refine C2.out.mono ?_
          rintro e w7 ⟨a7, c7, rfl, o7, b7⟩
          have N7 := Lib.hid (Vo.new o7)
          have K7 := Lib.hid (K6.out.next b7 (.cells (btC a7 c7 z) 28))
          clear C2 o7 b7 la lc q4 q5 K6 M6
          have la := ld_bt N7.out.row
          have q1 : (w7.alloc (.cells (btC a7 c7 z) 28)).cell? ⟨w.heap.size + 2, 1, none⟩ = some (.string x.id) := K7.out.two.cell 1
          have q2 : (w7.alloc (.cells (btC a7 c7 z) 28)).cell? ⟨w.heap.size + 2, 2, none⟩ = some (.int .i64 x.wt) := K7.out.two.cell 2
          go_wp2_with fail
          refine (CP1.out _ _ _ N7.out.mem).mono ?_
          rintro e w8 ⟨a8, c8, rfl, o8, b8⟩
          have N8 := Lib.hid (Vo.new o8)
          have M8 := Lib.hid (N7.out.next b8 (.cells (btC a8 c8 zi) 28))
          have K8 := Lib.hid (K7.out.next b8 (.cells (btC a8 c8 zi) 28))
          have hg8 : w.heap.size + 2 < w8.heap.size := (K7.out.below b8).two.lt
          have hs8 : w8.heap.size < (w8.alloc (.cells (btC a8 c8 zi) 28)).heap.size := by simp
          clear CP1 o8 b8 la q1 q2 K7 N7
          have la := ld_bt M8.out.row
          have q4 : (w8.alloc (.cells (btC a8 c8 zi) 28)).cell? ⟨w.heap.size + 2, 4, none⟩ = some (.string y.id) := K8.out.two.cell 4
          have q5 : (w8.alloc (.cells (btC a8 c8 zi) 28)).cell? ⟨w.heap.size + 2, 5, none⟩ = some (.int .i64 y.wt) := K8.out.two.cell 5
          go_wp2_with fail
          refine (CQ1.out _ _ _ M8.out.mem).mono ?_
          rintro e w9 ⟨a9, c9, rfl, o9, b9⟩
          have N9 := Lib.hid (Vo.new o9)
          have P9 := Lib.hid (N8.out.next b9 (.cells (btC a9 c9 zj) 28))
          have K9 := Lib.hid (K8.out.next b9 (.cells (btC a9 c9 zj) 28))
          have hg9 : w8.heap.size < w9.heap.size := Nat.lt_of_lt_of_le hs8 b9.size
          have hs9 : w9.heap.size < (w9.alloc (.cells (btC a9 c9 zj) 28)).heap.size := by simp
          clear CQ1 o9 b9 la q4 q5 K8 M8 N8
          have la := ld_bt P9.out.row
          have q4 : (w9.alloc (.cells (btC a9 c9 zj) 28)).cell? ⟨w.heap.size + 2, 4, none⟩ = some (.string y.id) := K9.out.two.cell 4
          have q5 : (w9.alloc (.cells (btC a9 c9 zj) 28)).cell? ⟨w.heap.size + 2, 5, none⟩ = some (.int .i64 y.wt) := K9.out.two.cell 5
          go_wp2_with fail
          refine (CP2.out _ _ _ P9.out.mem).mono ?_
          rintro e w10 ⟨a10, c10, rfl, o10, b10⟩
          have R10 := Lib.hid (P9.out.below b10).row
          have P10 := Lib.hid (Vo.put R10.out o10 (show w8.heap.size < _ by omega))
          have N10 := Lib.hid ((N9.out.below b10).setRow (k := w8.heap.size) (by omega) hs8 (btC a10 c10 b))
          have K10 := Lib.hid ((K9.out.below b10).setRow hg8 (btC a10 c10 b))
          have s10 := st_bt R10.out rfl a10 c10 b
          clear CP2 o10 b10 la q4 q5 K9 P9 N9 R10
          have la := ld_bt N10.out.row
          have q1 : (w10.setRow w8.heap.size (btC a10 c10 b)).cell? ⟨w.heap.size + 2, 1, none⟩ = some (.string x.id) := K10.out.two.cell 1
          have q2 : (w10.setRow w8.heap.size (btC a10 c10 b)).cell? ⟨w.heap.size + 2, 2, none⟩ = some (.int .i64 x.wt) := K10.out.two.cell 2
          go_wp2_with fail
          generalize hW : w10.setRow w8.heap.size (btC a10 c10 b) = W10 at *
          have hg10 : w9.heap.size < W10.heap.size := N10.out.row.lt
          refine (CQ2.out _ _ _ N10.out.mem).mono ?_
          rintro e w11 ⟨a11, c11, rfl, o11, b11⟩
          have R11 := Lib.hid (N10.out.below b11).row
          have N11 := Lib.hid (Vo.put R11.out o11 hg10)
          have P11 := Lib.hid ((P10.out.below b11).setRow (k := w9.heap.size) (by omega) hs9 (btC a11 c11 b))
          have K11 := Lib.hid ((K10.out.below b11).setRow (k := w9.heap.size) (by omega) (btC a11 c11 b))
          have s11 := st_bt R11.out rfl a11 c11 b
          clear CQ2 o11 b11 la q1 q2 K10 P10 N10 R11 s10 hW
          have la := ld_bt N11.out.row
          have lb := ld_bt P11.out.row
          have CS := Lib.hid (btSame_any a10 a11 c10 c11 b b _ (btP_of P11.out.mem FR.out) (btP_of N11.out.mem FR.out))
          rw [sameBt_self] at CS
          go_wp2_with fail
          refine CS.out.mono ?_
          rintro e w12 ⟨rfl, b12⟩
          have P12 := Lib.hid (P11.out.below b12)
          have K12 := Lib.hid (K11.out.below b12)
          clear b12 CS la lb N11 P11 K11 s11
          have la := ld_bt P12.out.row
          have lb := ld_bt K12.out.row
          have CS := Lib.hid (btSame_any a10 a c10 ca b b _ (btP_of P12.out.mem FR.out) (HB.out.below K12.out.caps.low))
          rw [sameBt_self] at CS
          go_wp2_with fail
          refine CS.out.mono ?_
          rintro e w13 ⟨rfl, b13⟩
          have L13 := Lib.hid (K12.out.caps.low.trans (b13.mono K12.out.caps.low.size))
          clear b13
          go_wp2_with fail
          go_ret
          exact ⟨rfl, L13.out⟩


set_option maxRecDepth 100000 in
theorem batchBack_lifted (os : Os) (started : os.Started) (H : Type) (enc : TypeId × Value → H) :
    ReturnsInHanded {} Try.checked os 8 .any (Rows.batchBackSpec.pre6 enc Try.prog Try.f8 Rows.batchBackRow.domain false) (Rows.batchBackSpec.post enc Try.prog Try.f8 false true false false) := by
  refine returnsInHanded_of_change (C := Try.checked) own started (by kernel_rfl) Try.func8
    (ChangeSpec.witness6 (enc := enc) (C := Try.checked) false ⟨#[], #[.agg #[.int .i64 0, .int .i64 0, .int .i64 0, .int .i64 0, .int .i64 0, .string ⟨#[]⟩, .string ⟨#[]⟩, .string ⟨#[]⟩, .slice none 0 0], .agg #[.int .i64 0, .int .i64 0], .agg #[.int .i64 0, .string ⟨#[]⟩, .int .i64 0, .int .i64 0, .string ⟨#[]⟩, .int .i64 0]], []⟩ 8 (by kernel_rfl) (by kernel_rfl) (by kernel_rfl) (by kernel_rfl)) ?_
  intro W base args ds gs before hval0 hW _ _
  have hval : ∀ (j : Nat) t v, Try.f8.params[j]? = some t → args[j]? = some v → Value.okWide Try.prog W .any base t v := hval0
  have hW' := hW
  obtain ⟨p, q, hA0, hV, rfl, _, _⟩ := hW
  have hA : DataW.TrodAll enc Try.prog W 0 (fun _ => true) true Try.f8.params.toList args.toList ds p := hA0
  rw [Try.params8] at hA hval
  obtain ⟨v0, vs0, d0, ds0, p0, q_0, hargs, rfl, rfl, h0, r0⟩ := trodAll_cons hA
  obtain ⟨v1, vs1, d1, ds1, p1, q_1, rfl, rfl, rfl, h1, r1⟩ := trodAll_cons r0
  obtain ⟨v2, vs2, d2, ds2, p2, q_2, rfl, rfl, rfl, h2, r2⟩ := trodAll_cons r1
  obtain ⟨rfl, rfl, rfl⟩ := trodAll_nil r2
  obtain rfl : args = #[v0, v1, v2] := by cases args; simp_all
  obtain ⟨rfl, rfl⟩ := trodVars_none hV
  clear hA0 hval0
  simp only [List.append_nil] at hW'
  obtain ⟨q0, cap0, o0, rfl, hS0⟩ := batch_of_trod (hval 0 28 v0 rfl rfl) h0
  have hlt0 : ∀ x ∈ p0, x.block < W.heap.size := fun x hx => by simpa using hW'.lt x (by simpa using (by simp [hx]))
  obtain ⟨c1, rfl⟩ := caps_of_trod (hval 1 23 v1 rfl rfl) h1
  have hlt1 : ∀ x ∈ p1, x.block < W.heap.size := fun x hx => by simpa using hW'.lt x (by simpa using (by simp [hx]))
  obtain ⟨x2, y2, rfl, hx2, hy2⟩ := twoActs_of_trod (hval 2 62 v2 rfl rfl) h2
  have hlt2 : ∀ x ∈ p2, x.block < W.heap.size := fun x hx => by simpa using hW'.lt x (by simpa using (by simp [hx]))
  refine (back_walk q0 cap0 o0 c1 x2 y2 W hS0 hx2 hy2).mono fun e W' ⟨he, hb⟩ => ?_
  subst he
  have hT : DataW.TrodAll enc Try.prog W' 0 (fun b => decide (b < W.heap.size)) true _ _ _ _ := (trodAll_cons_mk (Below.trod laidOut (by kernel_rfl) (of_decide_eq_true (by kernel_rfl)) h0 hb hlt0) (trodAll_cons_mk (Below.trod laidOut (by kernel_rfl) (of_decide_eq_true (by kernel_rfl)) h1 hb hlt1) (trodAll_cons_mk (Below.trod laidOut (by kernel_rfl) (of_decide_eq_true (by kernel_rfl)) h2 hb hlt2) trodAll_mk0)))
  simp only [List.append_nil] at hT
  exact ⟨_, rfl, _, _, _, [], p0 ++ (p1 ++ (p2)), [], hW', trodAll_mk1 (shut_bool Try.underlying4 _), hT, rfl, hb.frame _, fun h => by cases h⟩

theorem batchBack_holds : Rows.BatchBackSaid :=
  OpenClaim.holds_of_wide 8 Try.f8 rfl rfl rfl rfl rfl rfl rfl ⟨rfl, rfl, rfl, rfl, rfl⟩ rfl rfl rfl rfl rfl (by kernel_rfl) Try.func8 (by kernel_rfl)
    (of_decide_eq_true (by kernel_rfl)) (by unfold Func.isWrapper; first | (rw [if_pos (by decide +kernel)]; kernel_rfl) | (rw [if_neg (by decide +kernel)]; exact ⟨rfl, rfl⟩))
    (fun os started H enc _ => batchBack_lifted os started H enc)
#print axioms batchBack_holds


end Go.Proofs.Ytieoihmndpkdoaa
