/- What SnapReads wants besides: ScScan, OrRTake, BtRTake, ObRTake, SnPlain2, SnRef5, SnCon, SnRead0, SnReadD. -/
import Derived.Test.YtfmpibmhhfmajaaGreatDoorPSc
import Derived.Test.YtfmpibmhhfmajaaGreatDoorPOr
import Derived.Test.YtfmpibmhhfmajaaGreatDoorMgOrders
import Derived.Test.YtfmpibmhhfmajaaGreatDoorPBt
import Derived.Test.YtfmpibmhhfmajaaGreatDoorMgBatches
import Derived.Test.YtfmpibmhhfmajaaGreatDoorPOb
import Derived.Test.YtfmpibmhhfmajaaGreatDoorMgEffects
import Derived.Test.YtfmpibmhhfmajaaGreatDoorSnPlain
import Derived.Test.YtfmpibmhhfmajaaGreatDoorSnRef3
import Derived.Test.YtfmpibmhhfmajaaGreatDoorSnRef4
import Derived.Test.YtfmpibmhhfmajaaGreatDoorSnKinds
import Derived.Test.YtfmpibmhhfmajaaGreatDoorSnPlain2
import Derived.Test.YtfmpibmhhfmajaaGreatDoorMgCopy
import Derived.Test.YtfmpibmhhfmajaaGreatDoorSnOwn
import Derived.Test.YtfmpibmhhfmajaaGreatDoorSnRow
import Derived.Test.YtfmpibmhhfmajaaGreatDoorSnRead0
import Derived.Test.YtfmpibmhhfmajaaGreatDoorMgBase
import Derived.Test.YtfmpibmhhfmajaaGreatDoorPLb
import Derived.Test.YtfmpibmhhfmajaaGreatDoorLbShelf
import Derived.Test.YtfmpibmhhfmajaaGreatDoorPSl
import Derived.Test.YtfmpibmhhfmajaaGreatDoorMgLines
import Derived.Test.YtfmpibmhhfmajaaGreatDoorPDy
import Derived.Test.YtfmpibmhhfmajaaGreatDoorDyShelf
import Derived.Test.YtfmpibmhhfmajaaGreatDoorMgState
import Derived.Test.YtfmpibmhhfmajaaGreatDoorMgStates
import Derived.Test.YtfmpibmhhfmajaaGreatDoorMgRight
import Derived.Test.YtfmpibmhhfmajaaGreatDoorMgProg
import Derived.Test.YtfmpibmhhfmajaaGreatDoorSnLay
import Derived.Test.YtfmpibmhhfmajaaGreatDoorSnLines
import Derived.Test.YtfmpibmhhfmajaaGreatDoorSnTold
import Derived.Test.YtfmpibmhhfmajaaGreatDoorSnRight
import Derived.Test.YtfmpibmhhfmajaaGreatDoorSnCon
import Derived.Test.YtfmpibmhhfmajaaGreatDoorSnReadP
import Derived.Test.YtfmpibmhhfmajaaGreatDoorSnReadP2
import Derived.Test.YtfmpibmhhfmajaaGreatDoorSnReadP3
import Derived.Test.YtfmpibmhhfmajaaGreatDoorSnReadD
import Derived.Test.YtfmpibmhhfmajaaGreatDoorSnCmd
import Derived.Test.YtfmpibmhhfmajaaGreatDoorSnState
import Derived.Test.YtfmpibmhhfmajaaGreatDoorSnAlive
import Derived.Test.YtfmpibmhhfmajaaGreatDoorRSnapReadsA
import Derived.Test.YtfmpibmhhfmajaaGreatDoorRSnapReadsB
namespace Go.Proofs.YtfmpibmhhfmajaaGreatDoor

/- ScScan: What Number and Text of the document's Scan answer, as one state that is read on. -/
section
set_option maxRecDepth 100000
open Go.RowKit Go.ChangeShapes Go.WideShapes Go.ChangeAt

theorem BytesP.aside {w w' : World} {a : Option Addr} {cap : Nat} {l : List Nat} {g : Nat} (h : BytesP w a cap l) (hg : l ≠ [] → ∀ b o, a = some ⟨b, o, none⟩ → b < g) (hb : But g w w') : BytesP w' a cap l := by
  refine ⟨h.cap, h.len, h.byte, fun hne => ?_⟩
  obtain ⟨b, o, e, hlt, hc⟩ := h.cell hne
  exact ⟨b, o, e, Nat.lt_of_lt_of_le hlt hb.size, fun j x hx => (World.cell?_of_block (a := ⟨b, o + j, none⟩) (hb.block b hlt (Nat.ne_of_lt (hg hne b o e)))).trans (hc j x hx)⟩

/-- A Scan at block g of which this is left. -/
def SnS (w : World) (g : Nat) (s : Sc) : Prop := ∃ a cap l ok, Row w g 84 #[.slice a (List.length l) cap, .bool ok] ∧ BytesP w a cap l ∧ (l ≠ [] → ∀ b o, a = some ⟨b, o, none⟩ → b < g) ∧ s = if ok then some l else none
/-- This is answered, and the Scan is further on. -/
def ScanS (g : Nat) (v : Value) (s : Sc) (w : World) (e : Ending) (w' : World) : Prop := e = .returned v ∧ SnS w' g s ∧ But g w w'

theorem SnS.lt {w : World} {g : Nat} {s : Sc} (h : SnS w g s) : g < w.heap.size := by
  obtain ⟨_, _, _, _, h, _⟩ := h
  exact h.lt
theorem SnS.below {w w' : World} {g : Nat} {s : Sc} (h : SnS w g s) (hb : Below w.heap.size w w') : SnS w' g s := by
  obtain ⟨a, c, l, ok, h1, h2, h3, h4⟩ := h
  exact ⟨a, c, l, ok, h1.below hb, h2.below hb, h3, h4⟩
theorem SnS.other {w w' : World} {g k : Nat} {s : Sc} (h : SnS w g s) (hk : g < k) (hb : But k w w') : SnS w' g s := by
  obtain ⟨a, c, l, ok, h1, h2, h3, h4⟩ := h
  exact ⟨a, c, l, ok, h1.but hb (by omega), h2.aside (fun hn b o e => Nat.lt_trans (h3 hn b o e) hk) hb, h3, h4⟩
theorem SnS.bytes {w : World} {g : Nat} {s : Sc} (h : SnS w g s) : BytesS s := by
  obtain ⟨a, c, l, ok, h1, h2, h3, rfl⟩ := h
  intro b e
  cases ok with
  | false => cases e
  | true => cases e; exact h2.byte

theorem cellsR2 {w : World} {g : Nat} {T : TypeId} {p q : Value} (h : Row w g T #[p, q]) : (w.cell? ⟨g, 0, none⟩ = some p ∧ w.cell? ⟨g, 1, none⟩ = some q) ∧ w.frozen? ⟨g, 0, none⟩ = false ∧ w.frozen? ⟨g, 1, none⟩ = false :=
  ⟨⟨h.cell 0, h.cell 1⟩, h.free 0, h.free 1⟩

/-- Once it is not Ok, nothing is read. -/
theorem scan_bad {w w' : World} {g : Nat} {a : Option Addr} {cap : Nat} {l : List Nat} {ok : Bool} (h1 : Row w g 84 #[.slice a l.length cap, .bool ok]) (h2 : BytesP w a cap l) (h3 : l ≠ [] → ∀ b o, a = some ⟨b, o, none⟩ → b < g) (e : w' = w.setCell ⟨g, 1, none⟩ (.bool false)) : SnS w' g none ∧ But g w w' := by
  subst e
  have b := (But.refl g w).set 1 (.bool false)
  exact ⟨⟨a, cap, l, false, h1.set 1 _, h2.aside h3 b, h3, rfl⟩, b⟩
theorem scan_on {w w' : World} {g : Nat} {a a' : Option Addr} {cap cap' : Nat} {l l' : List Nat} (h1 : Row w g 84 #[.slice a l.length cap, .bool true]) (h2 : BytesP w a' cap' l') (h3 : l' ≠ [] → ∀ b o, a' = some ⟨b, o, none⟩ → b < g) (e : w' = w.setCell ⟨g, 0, none⟩ (.slice a' l'.length cap')) : SnS w' g (some l') ∧ But g w w' := by
  subst e
  have b := (But.refl g w).set 0 (.slice a' l'.length cap')
  exact ⟨⟨a', cap', l', true, h1.set 0 _, h2.aside h3 b, h3, rfl⟩, b⟩

/-- s[i:] of bytes lies in their block. -/
theorem from_block {a : Option Addr} {cap : Nat} {l : List Nat} (hc : l.length ≤ cap) (k : Nat) (hk : k ≤ l.length) :
    ∃ a' c', (∀ W, (Instr.slice 40 (.slice a l.length cap) (some (.int .i64 (k : Int))) none none).run Tryz.prog W = .ok (.slice a' (l.drop k).length c') W) ∧ (∀ W, BytesP W a cap l → BytesP W a' c' (l.drop k)) ∧ ∀ W g, BytesP W a cap l → (l ≠ [] → ∀ b o, a = some ⟨b, o, none⟩ → b < g) → l.drop k ≠ [] → ∀ b o, a' = some ⟨b, o, none⟩ → b < g := by
  obtain ⟨i0, hi0, hz0, hzs, hzb⟩ := info_parts Tryz.info5
  refine ⟨if cap = k then a else a.map (·.add k), cap - k, fun W => ?_, fun W h => ⟨by rw [List.length_drop]; omega, by have := h.len; rw [List.length_drop]; omega, fun b hb => h.byte b (List.mem_of_mem_drop hb), fun hne => ?_⟩, fun W g h hg hne b o e => ?_⟩
  · have hz : (Go.sizeOf 5).run Tryz.prog W = .ok 1 W := by simp [Go.sizeOf, typeInfo, hi0, hzs]
    have h0 : ¬ ((k : Int) < 0) := by omega
    simp [Instr.slice, run_underlying Tryz.underlying40, Instr.sliceBounds, run_sliceBound, hk]
  · have hlt : k < l.length := by
      rcases Nat.lt_or_ge k l.length with h | h
      · exact h
      · exact absurd (List.drop_eq_nil_of_le h) hne
    obtain ⟨b, o, rfl, hb, hcl⟩ := h.cell (by intro e; subst e; simp at hlt)
    refine ⟨b, o + k, by rw [if_neg (by omega), Option.map_some, Addr.add_lit], hb, fun j x hj => ?_⟩
    rw [Nat.add_assoc]
    exact hcl _ _ (by rw [← List.getElem?_drop]; exact hj)
  · have hlt : k < l.length := by
      rcases Nat.lt_or_ge k l.length with h | h
      · exact h
      · exact absurd (List.drop_eq_nil_of_le h) hne
    have hl : l ≠ [] := by intro e; subst e; simp at hlt
    obtain ⟨b', o', rfl, _, _⟩ := h.cell hl
    rw [if_neg (by omega), Option.map_some, Addr.add_lit] at e
    injection e with e
    injection e with e1 _
    exact e1 ▸ hg hl b' o' rfl

set_option maxRecDepth 100000 in
set_option maxHeartbeats 4000000 in
theorem scan_num (w : World) (g : Nat) (s : Sc) (most : Nat) (h : SnS w g s) (hm : most ≤ 9000000000000000000) :
    Calls Tryz.prog 53 #[.pointer (some ⟨g, 0, none⟩), .int .u64 (most : Int)] w (ScanS g (.int .i64 ((numS most s).1 : Int)) (numS most s).2 w) := by
  obtain ⟨a, cap, l, ok, h1, h2, h3, rfl⟩ := h
  have C := Lib.hid (refTake_any a cap l most w h2 (by omega))
  obtain ⟨⟨c0, c1⟩, f0, f1⟩ := cellsR2 h1
  have H1 := Lib.hid h1
  have H2 := Lib.hid h2
  have H3 := Lib.hid h3
  clear h1 h2 h3
  cases ok with
  | false =>
    have HE := Lib.hid (show numS most (if false = true then some l else none) = (0, none) from rfl)
    generalize numAt most 0 0 l = r at *
    rw [HE.out]
    clear HE
    go_enter Tryz.func53, Tryz.ntmps53
    go_wp2_with fail
    refine C.out.mono ?_
    rintro e w' ⟨rfl, rfl⟩
    go_wp2_with fail
    go_ret
    obtain ⟨q1, q2⟩ := scan_bad H1.out H2.out H3.out rfl
    exact ⟨rfl, q1, q2⟩
  | true =>
    show Calls Tryz.prog _ _ w (ScanS g (.int .i64 ((numS most (some l)).1 : Int)) (numS most (some l)).2 w)
    rcases numAt_errs most l 0 0 with hN | hN | ⟨v, k, hN, hk0, hkl⟩
    · have hq : numS most (some l) = (0, none) := by simp [numS, hN]
      rw [hN] at C
      rw [hq]
      clear hq hN
      have C : Hid (Calls Tryz.prog 110 #[.slice a l.length cap, .int .u64 (most : Int)] w fun e w' => e = .returned (.tuple #[.int .u64 0, .int .i64 (0)]) ∧ w = w') := C
      go_enter Tryz.func53, Tryz.ntmps53
      go_wp2_with fail
      refine C.out.mono ?_
      rintro e w' ⟨rfl, rfl⟩
      go_wp2_with fail
      go_ret
      obtain ⟨q1, q2⟩ := scan_bad H1.out H2.out H3.out rfl
      exact ⟨rfl, q1, q2⟩
    · have hq : numS most (some l) = (0, none) := by simp [numS, hN]
      rw [hN] at C
      rw [hq]
      clear hq hN
      have C : Hid (Calls Tryz.prog 110 #[.slice a l.length cap, .int .u64 (most : Int)] w fun e w' => e = .returned (.tuple #[.int .u64 0, .int .i64 (-1)]) ∧ w = w') := C
      go_enter Tryz.func53, Tryz.ntmps53
      go_wp2_with fail
      refine C.out.mono ?_
      rintro e w' ⟨rfl, rfl⟩
      go_wp2_with fail
      go_ret
      obtain ⟨q1, q2⟩ := scan_bad H1.out H2.out H3.out rfl
      exact ⟨rfl, q1, q2⟩
    · have hq : numS most (some l) = (v, some (l.drop k)) := by simp [numS, hN]
      have hv : v ≤ most := by
        obtain ⟨_, _, _, _, _, h, _⟩ := numAt_alone most l 0 0 v k H2.out.byte (Nat.zero_le _) hN
        exact h
      rw [hN] at C
      rw [hq]
      clear hq hN
      obtain ⟨a', c', k1, k2, k3⟩ := from_block (a := a) H2.out.cap k (by omega)
      have K2 := Lib.hid (k2 w H2.out)
      have K3 := Lib.hid (k3 w g H2.out H3.out)
      clear k2 k3
      have ev : IntKind.i64.wrap (v : Int) = (v : Int) := by rw [IntKind.wrap_i64]; omega
      have C : Hid (Calls Tryz.prog 110 #[.slice a l.length cap, .int .u64 (most : Int)] w fun e w' => e = .returned (.tuple #[.int .u64 (v : Int), .int .i64 (k : Int)]) ∧ w = w') := C
      have hk : ¬ k = 0 := by omega
      have hk2 : decide ((k : Int) ≤ 0) = false := by simp; omega
      generalize l.drop k = d at *
      go_enter Tryz.func53, Tryz.ntmps53
      go_wp2_with fail
      refine C.out.mono ?_
      rintro e w' ⟨rfl, rfl⟩
      go_wp2_with fail
      go_ret
      obtain ⟨q1, q2⟩ := scan_on H1.out K2.out K3.out rfl
      exact ⟨rfl, q1, q2⟩

set_option maxRecDepth 100000 in
set_option maxHeartbeats 4000000 in
theorem scan_text (w : World) (g : Nat) (s : Sc) (most : Nat) (h : SnS w g s) (hm : most ≤ 9000000000000000000) :
    Calls Tryz.prog 54 #[.pointer (some ⟨g, 0, none⟩), .int .u64 (most : Int)] w (ScanS g (.string (strB (textS most s).1)) (textS most s).2 w) := by
  have C := Lib.hid (scan_num w g s most h hm)
  have HT := Lib.hid (textS_eq most s)
  have hn := numS_le most s h.bytes
  generalize textS most s = t at *
  rcases hq : numS most s with ⟨n, s1⟩
  rw [hq] at C HT hn
  dsimp only at hn
  clear hq h
  go_enter Tryz.func54, Tryz.ntmps54
  go_wp2_with fail
  refine C.out.mono ?_
  rintro e w1 ⟨rfl, q1, b1⟩
  obtain ⟨a, cap, l, ok, h1, h2, h3, e1⟩ := q1
  obtain ⟨⟨c0, c1⟩, f0, f1⟩ := cellsR2 h1
  have H1 := Lib.hid h1
  have H2 := Lib.hid h2
  have H3 := Lib.hid h3
  have B1 := Lib.hid b1
  have hll := h2.len
  clear h1 h2 h3 b1 C
  cases ok with
  | false =>
    have HE := Lib.hid (show t = ([], none) by rw [HT.out, e1]; rfl)
    clear e1
    go_wp2_with fail
    go_ret
    obtain ⟨q1, q2⟩ := scan_bad H1.out H2.out H3.out rfl
    exact ⟨by rw [HE.out]; rfl, by rw [HE.out]; exact q1, B1.out.trans q2⟩
  | true =>
    by_cases hf : l.length < n
    · have HE := Lib.hid (show t = ([], none) by rw [HT.out, e1]; simp only [if_true]; rw [if_pos hf])
      clear e1
      go_wp2_with fail
      go_ret
      obtain ⟨q1, q2⟩ := scan_bad H1.out H2.out H3.out rfl
      exact ⟨by rw [HE.out]; rfl, by rw [HE.out]; exact q1, B1.out.trans q2⟩
    · have HE := Lib.hid (show t = (l.take n, some (l.drop n)) by rw [HT.out, e1]; simp only [if_true]; rw [if_neg hf])
      have hnl : n ≤ l.length := by omega
      clear e1
      obtain ⟨a2, p2, t1, t2⟩ := slice_to (a := a) H2.out.cap n (n : Int) rfl hnl
      have ht := run_text (t2 w1 H2.out)
      obtain ⟨a', c', k1, k2, k3⟩ := from_block (a := a) H2.out.cap n hnl
      have K2 := Lib.hid (k2 w1 H2.out)
      have K3 := Lib.hid (k3 w1 g H2.out H3.out)
      clear t2 k2 k3
      generalize l.drop n = d at *
      generalize l.take n = y at *
      go_wp2_with fail
      go_ret
      obtain ⟨q1, q2⟩ := scan_on H1.out K2.out K3.out rfl
      exact ⟨by rw [HE.out]; rfl, by rw [HE.out]; exact q1, B1.out.trans q2⟩
end

/- OrRTake: What the document's Take of a Scan answers. -/
section
open Go.RowKit Go.ChangeShapes Go.WideShapes Go.ChangeAt

/-- A call that reads an order by a Scan: its result's block, then the order's at m. -/
structure Sin (w : World) (g m : Nat) (cs : Array Value) (s : Sc) (w' : World) : Prop where
  rd : SnS w' g s
  but : But g w w'
  res : Row w' w.heap.size 93 zO
  var : Row w' m 93 cs
  hm : w.heap.size < m

theorem Sin.call {w w1 w2 : World} {g m : Nat} {cs : Array Value} {s t : Sc} (h : Sin w g m cs s w1) (hg : g < w.heap.size) (r : SnS w2 g t) (b : But g w1 w2) : Sin w g m cs t w2 :=
  ⟨r, h.but.trans b, h.res.but b (by omega), h.var.but b (by have := h.hm; omega), h.hm⟩
theorem Sin.set {w w1 : World} {g m : Nat} {cs : Array Value} {s : Sc} (h : Sin w g m cs s w1) (hg : g < w.heap.size) (o : Nat) (v : Value) : Sin w g m (cs.setIfInBounds o v) s (w1.setCell ⟨m, o, none⟩ v) :=
  ⟨h.rd.other (k := m) (by have := h.hm; omega) ((But.refl _ _).set o v), h.but.new (k := m) (by have := h.hm; omega) ((But.refl _ _).set o v), h.res.but (g := m) ((But.refl _ _).set o v) (by have := h.hm; omega), h.var.set o v, h.hm⟩
theorem Sin.far {w w1 w2 : World} {g m k : Nat} {cs : Array Value} {s : Sc} (h : Sin w g m cs s w1) (hg : g < w.heap.size) (hk : m < k) (b : But k w1 w2) : Sin w g m cs s w2 := by
  have := h.hm
  exact ⟨h.rd.other (by omega) b, h.but.new (by omega) b, h.res.but b (by omega), h.var.but b (by omega), h.hm⟩

/-- While a line is read: all that the call has made ahead of it stays. -/
structure LnI (w W : World) (g : Nat) (cs : Array Value) (s : Sc) (w' : World) : Prop where
  rd : SnS w' g s
  but : But g w w'
  old : ∀ k, w.heap.size ≤ k → k < W.heap.size → w'.heap[k]? = W.heap[k]?
  line : Row w' W.heap.size 72 cs

theorem LnI.call {w W w1 w2 : World} {g : Nat} {cs : Array Value} {s t : Sc} (h : LnI w W g cs s w1) (hg : g < w.heap.size) (hW : w.heap.size ≤ W.heap.size) (r : SnS w2 g t) (b : But g w1 w2) : LnI w W g cs t w2 :=
  ⟨r, h.but.trans b, fun k h1 h2 => (b.block k (by have := h.line.lt; omega) (by omega)).trans (h.old k h1 h2), h.line.but b (by omega)⟩
theorem LnI.set {w W w1 : World} {g : Nat} {cs : Array Value} {s : Sc} (h : LnI w W g cs s w1) (hg : g < w.heap.size) (hW : w.heap.size ≤ W.heap.size) (o : Nat) (v : Value) : LnI w W g (cs.setIfInBounds o v) s (w1.setCell ⟨W.heap.size, o, none⟩ v) :=
  ⟨h.rd.other (k := W.heap.size) (by omega) ((But.refl _ _).set o v), h.but.new hW ((But.refl _ _).set o v), fun k h1 h2 => (((But.refl W.heap.size w1).set o v).block k (by have := h.line.lt; omega) (by omega)).trans (h.old k h1 h2), h.line.set o v⟩
/-- Behind it. -/
theorem LnI.sin {w W w1 : World} {g m : Nat} {cs ds : Array Value} {s t : Sc} (h : LnI w W g cs s w1) (k : Sin w g m ds t W) : Sin w g m ds s w1 :=
  ⟨h.rd, h.but, (h.old _ (Nat.le_refl _) k.res.lt).trans k.res, (h.old _ (Nat.le_of_lt k.hm) k.var.lt).trans k.var, k.hm⟩
theorem LnI.own {w W w1 : World} {g base : Nat} {cs : Array Value} {s : Sc} {v : Value} {ls : List Ln} (h : LnI w W g cs s w1) (k : OwnL W base v ls) (hb : w.heap.size ≤ base) : OwnL w1 base v ls :=
  k.grown fun i h1 h2 => h.old i (by omega) h2

/-- Behind the store of the result. -/
theorem scan_end {w w1 : World} {g : Nat} {t : Sc} {base : Nat} {v : Value} {l : List Ln} (hg : g < w.heap.size) (hS : SnS w1 g t) (hG : But g w w1) (hO : OwnL w1 base v l) (hb : w.heap.size < base) (cs : Array Value) :
    OwnL (w1.setRow w.heap.size cs) w.heap.size v l ∧ SnS (w1.setRow w.heap.size cs) g t ∧ But g w (w1.setRow w.heap.size cs) :=
  ⟨(hO.grown fun k h1 h2 => setRow_other _ _ k _ (by omega)).base (by omega), hS.other hg ((But.refl _ _).setRow cs), hG.new (Nat.le_refl _) ((But.refl _ _).setRow cs)⟩

set_option maxRecDepth 100000 in
set_option maxHeartbeats 16000000 in
theorem refTakeO_any (w : World) (g : Nat) (s : Sc) (h : SnS w g s) : Calls Tryz.prog 75 #[.pointer (some ⟨g, 0, none⟩)] w (fun e w' =>
    ∃ a cap, e = .returned (.tuple #[odV a cap (takeO s), .int .i64 (takeE s)]) ∧ OwnL w' w.heap.size (.slice a (takeO s).ls.length cap) (takeO s).ls ∧ SnS w' g (takeS s).2 ∧ But g w w') := by
  have hg := h.lt
  have y0 := h.bytes
  have F := Lib.hid (takeS_fits y0)
  have OK := Lib.hid (takeO_ok (s := s))
  have NO := Lib.hid (takeO_no (s := s))
  rcases h1 : textS 32 s with ⟨v1, s1⟩
  have C1 := Lib.hid (fun W hW => show Calls Tryz.prog 54 #[.pointer (some ⟨g, 0, none⟩), .int .u64 32] W (ScanS g (.string (strB v1)) s1 W) by have := scan_text W g s 32 hW (by decide); rwa [h1] at this)
  have y1 : BytesS s1 := by have := (textS_bytes y0 32).1; rwa [h1] at this
  rcases h2 : numS 8 s1 with ⟨v2, s2⟩
  have C2 := Lib.hid (fun W hW => show Calls Tryz.prog 53 #[.pointer (some ⟨g, 0, none⟩), .int .u64 8] W (ScanS g (.int .i64 (v2 : Int)) s2 W) by have := scan_num W g s1 8 hW (by decide); rwa [h2] at this)
  have y2 : BytesS s2 := by have := numS_bytes y1 8; rwa [h2] at this
  have n2 : v2 ≤ 8 := by have := numS_le 8 s1 y1; rwa [h2] at this
  have H1 := Lib.hid h1
  have H2 := Lib.hid h2
  have Y2 := Lib.hid y2
  have B0 : Below w.heap.size w (w.alloc (.cells zO 93)) := (Below.refl _ _).alloc (Nat.le_refl _) _
  have S0 := Lib.hid (h.below B0)
  have R0 : Hid (Row (w.alloc (.cells zO 93)) w.heap.size 93 zO) := Lib.hid (heap_alloc_new _ _)
  have G0 := Lib.hid (But.of (g := g) B0)
  clear h y0 y1 y2 h1 h2 B0
  unfold zO at S0 R0 G0
  go_enter Tryz.func75, Tryz.ntmps75
  go_wp2_with fail
  generalize w.alloc (Obj.cells #[Value.string ⟨#[]⟩, Value.slice none 0 0, Value.string ⟨#[]⟩, Value.string ⟨#[]⟩, Value.string ⟨#[]⟩, Value.int .i64 0, Value.int .i64 0, Value.bool false, Value.int .i64 0, Value.int .i64 0] 93) = W0 at *
  refine (C1.out _ S0.out).mono ?_
  rintro e w1 ⟨rfl, r1, b1⟩
  have hm : w.heap.size < w1.heap.size := Nat.lt_of_lt_of_le R0.out.lt b1.size
  have K1 : Hid (Sin w g w1.heap.size (vO v1 (.slice none 0 0)) s1 (w1.alloc (.cells (vO v1 (.slice none 0 0)) 93))) := Lib.hid (by
    have b := (Below.refl w1.heap.size w1).alloc (Nat.le_refl _) (.cells (vO v1 (.slice none 0 0)) 93)
    exact ⟨r1.below b, (G0.out.trans b1).trans (.of b), (R0.out.but b1 (by omega)).below b, heap_alloc_new _ _, hm⟩)
  clear r1 b1 S0 R0 G0 C1
  unfold vO at K1
  go_wp2_with fail
  generalize w1.alloc (Obj.cells #[Value.string (strB v1), Value.slice none 0 0, Value.string ⟨#[]⟩, Value.string ⟨#[]⟩, Value.string ⟨#[]⟩, Value.int .i64 0, Value.int .i64 0, Value.bool false, Value.int .i64 0, Value.int .i64 0] 93) = W1 at *
  generalize w1.heap.size = m at *
  refine (C2.out _ K1.out.rd).mono ?_
  rintro e w2 ⟨rfl, r2, b2⟩
  have K2 : Hid (Sin w g m (vO v1 (.slice none 0 0)) s2 w2) := Lib.hid (K1.out.call hg r2 b2)
  clear r2 b2 K1 C2
  go_wp2_with fail
  go_loopw [6] (fun i wr => ∃ (k : Nat) (acc : List Ln) (vl : Value) (sk : Sc), k ≤ v2 ∧ i = .int .i64 k ∧ Hid (Sin w g m (vO v1 vl) sk wr) ∧ Hid (OwnL wr (m + 1) vl acc) ∧ acc.length = k ∧ Hid (BytesS sk) ∧ Hid (linesS v2 s2 = (acc ++ (linesS (v2 - k) sk).1, (linesS (v2 - k) sk).2))) (fun i _ => v2 - (intOf i).toNat)
  case atStart => exact ⟨0, [], _, s2, Nat.zero_le _, rfl, K2, Lib.hid (OwnL.nil _ _), rfl, Y2, Lib.hid (by simp)⟩
  case round =>
    obtain ⟨k, acc, vl, sk, hk, rfl, HR, HO, hac, HB, HL⟩ := hrel
    by_cases hlt : k < v2
    · have yk := HB.out
      rcases h3 : textS 32 sk with ⟨v3, s3⟩
      have C3 := Lib.hid (fun W hW => show Calls Tryz.prog 54 #[.pointer (some ⟨g, 0, none⟩), .int .u64 32] W (ScanS g (.string (strB v3)) s3 W) by have := scan_text W g sk 32 hW (by decide); rwa [h3] at this)
      have y3 : BytesS s3 := by have := (textS_bytes yk 32).1; rwa [h3] at this
      rcases h4 : numS 1000 s3 with ⟨v4, s4⟩
      have C4 := Lib.hid (fun W hW => show Calls Tryz.prog 53 #[.pointer (some ⟨g, 0, none⟩), .int .u64 1000] W (ScanS g (.int .i64 (v4 : Int)) s4 W) by have := scan_num W g s3 1000 hW (by decide); rwa [h4] at this)
      have y4 : BytesS s4 := by have := numS_bytes y3 1000; rwa [h4] at this
      rcases h5 : numS 100000 s4 with ⟨v5, s5⟩
      have C5 := Lib.hid (fun W hW => show Calls Tryz.prog 53 #[.pointer (some ⟨g, 0, none⟩), .int .u64 100000] W (ScanS g (.int .i64 (v5 : Int)) s5 W) by have := scan_num W g s4 100000 hW (by decide); rwa [h5] at this)
      have y5 : BytesS s5 := by have := numS_bytes y4 100000; rwa [h5] at this
      have hsz : (strB v3).size ≤ 32 := by have := textS_le 32 yk; rw [h3] at this; rw [strB_size]; exact this
      have HX := Lib.hid y5
      have hx : lineS sk = (⟨strB v3, (v4 : Int), (v5 : Int)⟩, s5) := by simp only [lineS, h3, h4, h5]
      have HN := Lib.hid (show linesS v2 s2 = ((acc ++ [⟨strB v3, (v4 : Int), (v5 : Int)⟩]) ++ (linesS (v2 - (k + 1)) s5).1, (linesS (v2 - (k + 1)) s5).2) by
        rw [HL.out, show v2 - k = (v2 - (k + 1)) + 1 by omega, linesS, hx]; simp)
      have HK1 := Lib.hid (show (acc ++ [(⟨strB v3, (v4 : Int), (v5 : Int)⟩ : Ln)]).length = k + 1 by rw [List.length_append, hac]; rfl)
      have HZ := Lib.hid (show (strB v3).size ≤ maxLen by unfold maxLen; omega)
      clear yk h3 h4 h5 y3 y4 y5 hx hsz
      go_wp2_with fail
      refine (C3.out _ HR.out.rd).mono ?_
      rintro e w3 ⟨rfl, r3, b3⟩
      have K3 := Lib.hid (HR.out.call hg r3 b3)
      have hmw := K3.out.hm
      have hmz := K3.out.var.lt
      have O3 := Lib.hid (HO.out.grown (w' := w3) fun k h1 h2 => b3.block k h2 (by omega))
      have J3 : Hid (LnI w w3 g #[.string (strB v3), .int .i64 0, .int .i64 0] s3 (w3.alloc (.cells #[.string (strB v3), .int .i64 0, .int .i64 0] 72))) := Lib.hid (by
        have b := (Below.refl w3.heap.size w3).alloc (Nat.le_refl _) (.cells #[.string (strB v3), .int .i64 0, .int .i64 0] 72)
        exact ⟨r3.below b, K3.out.but.trans (.of b), fun k _ h2 => b.block k h2, heap_alloc_new _ _⟩)
      clear r3 b3
      go_wp2_with fail
      generalize w3.alloc (Obj.cells #[Value.string (strB v3), Value.int .i64 0, Value.int .i64 0] 72) = W3 at *
      refine (C4.out _ J3.out.rd).mono ?_
      rintro e w4 ⟨rfl, r4, b4⟩
      have J4 := Lib.hid (J3.out.call hg (by omega) r4 b4)
      obtain ⟨⟨c0, c1, c2⟩, f0, f1, f2⟩ := cellsR3 J4.out.line
      have L4 := Lib.hid (J4.out.set hg (by omega) 1 (.int .i64 (v4 : Int)))
      clear r4 b4 J3
      go_wp2_with fail
      clear c0 c1 c2 f0 f1 f2
      generalize w4.setCell ⟨w3.heap.size, 1, none⟩ (.int .i64 (v4 : Int)) = W4 at *
      refine (C5.out _ L4.out.rd).mono ?_
      rintro e w5 ⟨rfl, r5, b5⟩
      have J5 := Lib.hid (L4.out.call hg (by omega) r5 b5)
      obtain ⟨⟨c0, c1, c2⟩, f0, f1, f2⟩ := cellsR3 J5.out.line
      have L5 := Lib.hid (J5.out.set hg (by omega) 2 (.int .i64 (v5 : Int)))
      clear r5 b5 J4 L4
      have S5 := Lib.hid (L5.out.sin K3.out)
      have O5 := Lib.hid (L5.out.own O3.out (by omega))
      obtain ⟨⟨d0, d1, d2⟩, _⟩ := cellsR3 L5.out.line
      have dv : (w5.setCell ⟨w3.heap.size, 2, none⟩ (.int .i64 (v5 : Int))).cell? ⟨m, 1, none⟩ = some vl := S5.out.var.cell 1
      have T6 : Hid (LnsP ((w5.setCell ⟨w3.heap.size, 2, none⟩ (.int .i64 (v5 : Int))).alloc (.cells #[.string (strB v3), .int .i64 (v4 : Int), .int .i64 (v5 : Int)] 72)) (some ⟨w5.heap.size, 0, none⟩) 1 [(⟨strB v3, (v4 : Int), (v5 : Int)⟩ : Ln)]) := Lib.hid (by
        have := one_line (w5.setCell ⟨w3.heap.size, 2, none⟩ (.int .i64 (v5 : Int))) ⟨strB v3, (v4 : Int), (v5 : Int)⟩ HZ.out
        rwa [show (w5.setCell ⟨w3.heap.size, 2, none⟩ (.int .i64 (v5 : Int))).heap.size = w5.heap.size by simp [World.setCell]] at this)
      have O6 := Lib.hid (O5.out.below ((Below.refl _ _).alloc (Nat.le_refl _) (.cells #[.string (strB v3), .int .i64 (v4 : Int), .int .i64 (v5 : Int)] 72)))
      have S6 := Lib.hid (S5.out.far hg (Nat.lt_succ_self m) (But.alloc _ _ (.cells #[.string (strB v3), .int .i64 (v4 : Int), .int .i64 (v5 : Int)] 72)))
      have hz6 : m + 1 ≤ ((w5.setCell ⟨w3.heap.size, 2, none⟩ (.int .i64 (v5 : Int))).alloc (.cells #[.string (strB v3), .int .i64 (v4 : Int), .int .i64 (v5 : Int)] 72)).heap.size := S6.out.var.lt
      have hl6 : acc.length + 1 ≤ 1000000 := by omega
      clear O5 S5 L5 J5 O3 K3
      go_wp2_with (at_builtin; go_must (refine wpList_append_lines rfl _ _ rfl (m + 1) vl acc [(⟨strB v3, (v4 : Int), (v5 : Int)⟩ : Ln)] rfl O6.out (some ⟨w5.heap.size, 0, none⟩) 1 rfl T6.out hl6 hz6 ?_))
      rintro v6 w6 o6 g6
      obtain ⟨a6, p6, e6⟩ := o6.shape
      rw [HK1.out] at e6
      subst e6
      obtain ⟨q, hq, bq⟩ := But.grown g6 O6.out.row
      have S7 := Lib.hid (S6.out.far hg (by omega) bq)
      have O7 := Lib.hid o6
      have z1 : w6.cell? ⟨m, 1, none⟩ = some vl := S7.out.var.cell 1
      have zf : w6.frozen? ⟨m, 1, none⟩ = false := S7.out.var.free 1
      clear o6 g6 bq O6 S6 T6 hz6 c0 c1 c2 f0 f1 f2 d0 d1 d2 dv
      have S8 := Lib.hid (S7.out.set hg 1 (.slice a6 (k + 1) p6))
      have O8 := Lib.hid (O7.out.cell (k := m) (by omega) 1 (.slice a6 (k + 1) p6))
      go_wp2_with fail
      go_roundw
      case rel => exact ⟨k + 1, acc ++ [(⟨strB v3, (v4 : Int), (v5 : Int)⟩ : Ln)], _, s5, by omega, by go_num, S8, O8, HK1.out, HX, HN⟩
      case measure => simp [intOf]; omega
    · have HE := Lib.hid (show linesS v2 s2 = (acc, sk) by rw [HL.out, show v2 - k = 0 by omega, linesS]; simp)
      obtain ⟨av, cv, ev⟩ := HO.out.shape
      subst ev
      subst hac
      have y12 := HB.out
      rcases h13 : textS 32 sk with ⟨v13, s13⟩
      have C13 := Lib.hid (fun W hW => show Calls Tryz.prog 54 #[.pointer (some ⟨g, 0, none⟩), .int .u64 32] W (ScanS g (.string (strB v13)) s13 W) by have := scan_text W g sk 32 hW (by decide); rwa [h13] at this)
      have y13 : BytesS s13 := by have := (textS_bytes y12 32).1; rwa [h13] at this
      rcases h14 : textS 32 s13 with ⟨v14, s14⟩
      have C14 := Lib.hid (fun W hW => show Calls Tryz.prog 54 #[.pointer (some ⟨g, 0, none⟩), .int .u64 32] W (ScanS g (.string (strB v14)) s14 W) by have := scan_text W g s13 32 hW (by decide); rwa [h14] at this)
      have y14 : BytesS s14 := by have := (textS_bytes y13 32).1; rwa [h14] at this
      rcases h15 : textS 32 s14 with ⟨v15, s15⟩
      have C15 := Lib.hid (fun W hW => show Calls Tryz.prog 54 #[.pointer (some ⟨g, 0, none⟩), .int .u64 32] W (ScanS g (.string (strB v15)) s15 W) by have := scan_text W g s14 32 hW (by decide); rwa [h15] at this)
      have y15 : BytesS s15 := by have := (textS_bytes y14 32).1; rwa [h15] at this
      rcases h16 : numS 1000000000000 s15 with ⟨v16, s16⟩
      have C16 := Lib.hid (fun W hW => show Calls Tryz.prog 53 #[.pointer (some ⟨g, 0, none⟩), .int .u64 1000000000000] W (ScanS g (.int .i64 (v16 : Int)) s16 W) by have := scan_num W g s15 1000000000000 hW (by decide); rwa [h16] at this)
      have y16 : BytesS s16 := by have := numS_bytes y15 1000000000000; rwa [h16] at this
      rcases h17 : numS 12 s16 with ⟨v17, s17⟩
      have C17 := Lib.hid (fun W hW => show Calls Tryz.prog 53 #[.pointer (some ⟨g, 0, none⟩), .int .u64 12] W (ScanS g (.int .i64 (v17 : Int)) s17 W) by have := scan_num W g s16 12 hW (by decide); rwa [h17] at this)
      have y17 : BytesS s17 := by have := numS_bytes y16 12; rwa [h17] at this
      rcases h18 : numS 1 s17 with ⟨v18, s18⟩
      have C18 := Lib.hid (fun W hW => show Calls Tryz.prog 53 #[.pointer (some ⟨g, 0, none⟩), .int .u64 1] W (ScanS g (.int .i64 (v18 : Int)) s18 W) by have := scan_num W g s17 1 hW (by decide); rwa [h18] at this)
      have y18 : BytesS s18 := by have := numS_bytes y17 1; rwa [h18] at this
      have e18 : ((v18 : Int) == 1) = decide (v18 = 1) := by rw [Bool.eq_iff_iff]; simp; omega
      rcases h19 : numS 1000000 s18 with ⟨v19, s19⟩
      have C19 := Lib.hid (fun W hW => show Calls Tryz.prog 53 #[.pointer (some ⟨g, 0, none⟩), .int .u64 1000000] W (ScanS g (.int .i64 (v19 : Int)) s19 W) by have := scan_num W g s18 1000000 hW (by decide); rwa [h19] at this)
      have y19 : BytesS s19 := by have := numS_bytes y18 1000000; rwa [h19] at this
      rcases h20 : numS 1000000000000 s19 with ⟨v20, s20⟩
      have C20 := Lib.hid (fun W hW => show Calls Tryz.prog 53 #[.pointer (some ⟨g, 0, none⟩), .int .u64 1000000000000] W (ScanS g (.int .i64 (v20 : Int)) s20 W) by have := scan_num W g s19 1000000000000 hW (by decide); rwa [h20] at this)
      have y20 : BytesS s20 := by have := numS_bytes y19 1000000000000; rwa [h20] at this
      have HP := Lib.hid (takeS_of H1.out H2.out HE.out (show groupS sk = ((v13, v14, v15), s15) by simp only [groupS, h13, h14, h15]) h16 (show sagaS s16 = ((v17, v18, v19), s19) by simp only [sagaS, h17, h18, h19]) h20)
      clear h13 h14 h15 h16 h17 h18 h19 h20 y12 y13 y14 y15 y16 y17 y18 y19 y20 HL HE
      unfold vO at HR
      go_wp2_with fail
      refine (C13.out _ HR.out.rd).mono ?_
      rintro e w13 ⟨rfl, r13, b13⟩
      have J13 := Lib.hid (HR.out.call hg r13 b13)
      have mm13 := J13.out.hm
      have P13 := Lib.hid (HO.out.grown (w' := w13) fun k h1 h2 => b13.block k h2 (by omega))
      obtain ⟨⟨⟨c0, c1, c2, c3, c4⟩, c5, c6, c7, c8, c9⟩, f⟩ := cellsR10 J13.out.var
      clear r13 b13 mm13 HR HO
      have K13 := Lib.hid (J13.out.set hg 2 (.string (strB v13)))
      have Q13 := Lib.hid (P13.out.cell (k := m) (by omega) 2 (.string (strB v13)))
      clear J13 P13
      go_wp2_with fail
      clear c0 c1 c2 c3 c4 c5 c6 c7 c8 c9 f
      generalize w13.setCell ⟨m, 2, none⟩ (.string (strB v13)) = W13 at *
      refine (C14.out _ K13.out.rd).mono ?_
      rintro e w14 ⟨rfl, r14, b14⟩
      have J14 := Lib.hid (K13.out.call hg r14 b14)
      have mm14 := J14.out.hm
      have P14 := Lib.hid (Q13.out.grown (w' := w14) fun k h1 h2 => b14.block k h2 (by omega))
      obtain ⟨⟨⟨c0, c1, c2, c3, c4⟩, c5, c6, c7, c8, c9⟩, f⟩ := cellsR10 J14.out.var
      clear r14 b14 mm14 K13 Q13
      have K14 := Lib.hid (J14.out.set hg 3 (.string (strB v14)))
      have Q14 := Lib.hid (P14.out.cell (k := m) (by omega) 3 (.string (strB v14)))
      clear J14 P14
      go_wp2_with fail
      clear c0 c1 c2 c3 c4 c5 c6 c7 c8 c9 f
      generalize w14.setCell ⟨m, 3, none⟩ (.string (strB v14)) = W14 at *
      refine (C15.out _ K14.out.rd).mono ?_
      rintro e w15 ⟨rfl, r15, b15⟩
      have J15 := Lib.hid (K14.out.call hg r15 b15)
      have mm15 := J15.out.hm
      have P15 := Lib.hid (Q14.out.grown (w' := w15) fun k h1 h2 => b15.block k h2 (by omega))
      obtain ⟨⟨⟨c0, c1, c2, c3, c4⟩, c5, c6, c7, c8, c9⟩, f⟩ := cellsR10 J15.out.var
      clear r15 b15 mm15 K14 Q14
      have K15 := Lib.hid (J15.out.set hg 4 (.string (strB v15)))
      have Q15 := Lib.hid (P15.out.cell (k := m) (by omega) 4 (.string (strB v15)))
      clear J15 P15
      go_wp2_with fail
      clear c0 c1 c2 c3 c4 c5 c6 c7 c8 c9 f
      generalize w15.setCell ⟨m, 4, none⟩ (.string (strB v15)) = W15 at *
      refine (C16.out _ K15.out.rd).mono ?_
      rintro e w16 ⟨rfl, r16, b16⟩
      have J16 := Lib.hid (K15.out.call hg r16 b16)
      have mm16 := J16.out.hm
      have P16 := Lib.hid (Q15.out.grown (w' := w16) fun k h1 h2 => b16.block k h2 (by omega))
      obtain ⟨⟨⟨c0, c1, c2, c3, c4⟩, c5, c6, c7, c8, c9⟩, f⟩ := cellsR10 J16.out.var
      clear r16 b16 mm16 K15 Q15
      have K16 := Lib.hid (J16.out.set hg 5 (.int .i64 (v16 : Int)))
      have Q16 := Lib.hid (P16.out.cell (k := m) (by omega) 5 (.int .i64 (v16 : Int)))
      clear J16 P16
      go_wp2_with fail
      clear c0 c1 c2 c3 c4 c5 c6 c7 c8 c9 f
      generalize w16.setCell ⟨m, 5, none⟩ (.int .i64 (v16 : Int)) = W16 at *
      refine (C17.out _ K16.out.rd).mono ?_
      rintro e w17 ⟨rfl, r17, b17⟩
      have J17 := Lib.hid (K16.out.call hg r17 b17)
      have mm17 := J17.out.hm
      have P17 := Lib.hid (Q16.out.grown (w' := w17) fun k h1 h2 => b17.block k h2 (by omega))
      obtain ⟨⟨⟨c0, c1, c2, c3, c4⟩, c5, c6, c7, c8, c9⟩, f⟩ := cellsR10 J17.out.var
      clear r17 b17 mm17 K16 Q16
      have K17 := Lib.hid (J17.out.set hg 6 (.int .i64 (v17 : Int)))
      have Q17 := Lib.hid (P17.out.cell (k := m) (by omega) 6 (.int .i64 (v17 : Int)))
      clear J17 P17
      go_wp2_with fail
      clear c0 c1 c2 c3 c4 c5 c6 c7 c8 c9 f
      generalize w17.setCell ⟨m, 6, none⟩ (.int .i64 (v17 : Int)) = W17 at *
      refine (C18.out _ K17.out.rd).mono ?_
      rintro e w18 ⟨rfl, r18, b18⟩
      have J18 := Lib.hid (K17.out.call hg r18 b18)
      have mm18 := J18.out.hm
      have P18 := Lib.hid (Q17.out.grown (w' := w18) fun k h1 h2 => b18.block k h2 (by omega))
      obtain ⟨⟨⟨c0, c1, c2, c3, c4⟩, c5, c6, c7, c8, c9⟩, f⟩ := cellsR10 J18.out.var
      clear r18 b18 mm18 K17 Q17
      have K18 := Lib.hid (J18.out.set hg 7 (.bool (decide (v18 = 1))))
      have Q18 := Lib.hid (P18.out.cell (k := m) (by omega) 7 (.bool (decide (v18 = 1))))
      clear J18 P18
      go_wp2_with fail
      clear c0 c1 c2 c3 c4 c5 c6 c7 c8 c9 f
      generalize w18.setCell ⟨m, 7, none⟩ (.bool (decide (v18 = 1))) = W18 at *
      refine (C19.out _ K18.out.rd).mono ?_
      rintro e w19 ⟨rfl, r19, b19⟩
      have J19 := Lib.hid (K18.out.call hg r19 b19)
      have mm19 := J19.out.hm
      have P19 := Lib.hid (Q18.out.grown (w' := w19) fun k h1 h2 => b19.block k h2 (by omega))
      obtain ⟨⟨⟨c0, c1, c2, c3, c4⟩, c5, c6, c7, c8, c9⟩, f⟩ := cellsR10 J19.out.var
      clear r19 b19 mm19 K18 Q18
      have K19 := Lib.hid (J19.out.set hg 8 (.int .i64 (v19 : Int)))
      have Q19 := Lib.hid (P19.out.cell (k := m) (by omega) 8 (.int .i64 (v19 : Int)))
      clear J19 P19
      go_wp2_with fail
      clear c0 c1 c2 c3 c4 c5 c6 c7 c8 c9 f
      generalize w19.setCell ⟨m, 8, none⟩ (.int .i64 (v19 : Int)) = W19 at *
      refine (C20.out _ K19.out.rd).mono ?_
      rintro e w20 ⟨rfl, r20, b20⟩
      have J20 := Lib.hid (K19.out.call hg r20 b20)
      have mm20 := J20.out.hm
      have P20 := Lib.hid (Q19.out.grown (w' := w20) fun k h1 h2 => b20.block k h2 (by omega))
      obtain ⟨⟨⟨c0, c1, c2, c3, c4⟩, c5, c6, c7, c8, c9⟩, f⟩ := cellsR10 J20.out.var
      clear r20 b20 mm20 K19 Q19
      have K20 := Lib.hid (J20.out.set hg 9 (.int .i64 (v20 : Int)))
      have Q20 := Lib.hid (P20.out.cell (k := m) (by omega) 9 (.int .i64 (v20 : Int)))
      clear J20 P20
      have mm20 := K20.out.hm
      have HT := Lib.hid (show (takeS s).2 = s20 by rw [HP.out])
      rw [HP.out] at F
      have PO := Lib.hid (odP_own (o := ⟨strB v1, acc, strB v13, strB v14, strB v15, (v16 : Int), (v17 : Int), decide (v18 = 1), (v19 : Int), (v20 : Int)⟩) Q20.out F.out)
      obtain ⟨sa, sc, sl, ok, r1, r2, r3, r4⟩ := K20.out.rd
      obtain ⟨⟨_, d1⟩, _⟩ := cellsR2 r1
      clear r1 r2 r3
      cases ok with
      | false =>
        have HX := Lib.hid (NO.out (.inl (by rw [HP.out, r4]; rfl)))
        go_wp2_with (refine wpList_store_order rfl _ _ rfl w.heap.size ⟨#[]⟩ ⟨#[]⟩ ⟨#[]⟩ ⟨#[]⟩ none 0 0 0 0 0 0 false rfl rfl K20.out.res ?_)
        (try simp only [Exit.inBlock, Exit.then])
        apply bodyPost_ret
        case hd => rfl
        case hr => exact results_cell_one rfl _ _ w.heap.size _ rfl (loadO10 (setRow_heap _ _ _ _ _ _ K20.out.res))
        case hR =>
          obtain ⟨e1, e2, e3⟩ := scan_end hg K20.out.rd K20.out.but (OwnL.nil _ (w.heap.size + 1)) (by omega) #[.string ⟨#[]⟩, .slice none 0 0, .string ⟨#[]⟩, .string ⟨#[]⟩, .string ⟨#[]⟩, .int .i64 0, .int .i64 0, .bool false, .int .i64 0, .int .i64 0]
          exact ⟨none, 0, by rw [HX.out.1, HX.out.2]; rfl, by rw [HX.out.1]; exact e1, by rw [HT.out]; exact e2, e3⟩
      | true =>
        have h4 := Lib.hid (show (takeS s).2.isNone = false by rw [HP.out, r4]; rfl)
        clear r4
        obtain ⟨⟨⟨x0, x1, x2, x3, x4⟩, x5, x6, x7, x8, x9⟩, _⟩ := cellsR10 K20.out.var
        have CR := Lib.hid (refORight_any av cv ⟨strB v1, acc, strB v13, strB v14, strB v15, (v16 : Int), (v17 : Int), decide (v18 = 1), (v19 : Int), (v20 : Int)⟩ (w20.setCell ⟨m, 9, none⟩ (.int .i64 (v20 : Int))) PO.out)
        unfold odV at CR
        dsimp only at CR
        go_wp2_with fail
        clear c0 c1 c2 c3 c4 c5 c6 c7 c8 c9 f d1 x0 x1 x2 x3 x4 x5 x6 x7 x8 x9 PO
        generalize w20.setCell ⟨m, 9, none⟩ (.int .i64 (v20 : Int)) = W20 at *
        refine CR.out.mono ?_
        rintro e w21 ⟨rfl, b21⟩
        have V21 := Lib.hid (K20.out.var.below b21)
        have R21 := Lib.hid (K20.out.res.below b21)
        have O21 := Lib.hid (Q20.out.below b21)
        have S21 := Lib.hid (K20.out.rd.below b21)
        have G21 := Lib.hid (K20.out.but.trans (But.of b21))
        clear b21 K20 Q20 CR
        cases hr : rightO ⟨strB v1, acc, strB v13, strB v14, strB v15, (v16 : Int), (v17 : Int), decide (v18 = 1), (v19 : Int), (v20 : Int)⟩ with
        | false =>
          have HX := Lib.hid (NO.out (.inr (by rw [HP.out]; exact hr)))
          go_wp2_with (refine wpList_store_order rfl _ _ rfl w.heap.size ⟨#[]⟩ ⟨#[]⟩ ⟨#[]⟩ ⟨#[]⟩ none 0 0 0 0 0 0 false rfl rfl R21.out ?_)
          (try simp only [Exit.inBlock, Exit.then])
          apply bodyPost_ret
          case hd => rfl
          case hr => exact results_cell_one rfl _ _ w.heap.size _ rfl (loadO10 (setRow_heap _ _ _ _ _ _ R21.out))
          case hR =>
            obtain ⟨e1, e2, e3⟩ := scan_end hg S21.out G21.out (OwnL.nil _ (w.heap.size + 1)) (by omega) #[.string ⟨#[]⟩, .slice none 0 0, .string ⟨#[]⟩, .string ⟨#[]⟩, .string ⟨#[]⟩, .int .i64 0, .int .i64 0, .bool false, .int .i64 0, .int .i64 0]
            exact ⟨none, 0, by rw [HX.out.1, HX.out.2]; rfl, by rw [HX.out.1]; exact e1, by rw [HT.out]; exact e2, e3⟩
        | true =>
          have HX := Lib.hid (OK.out h4.out (by rw [HP.out]; exact hr))
          obtain ⟨⟨⟨x0, x1, x2, x3, x4⟩, x5, x6, x7, x8, x9⟩, _⟩ := cellsR10 V21.out
          go_wp2_with (refine wpList_store_order rfl _ _ rfl w.heap.size (strB v1) (strB v13) (strB v14) (strB v15) av acc.length cv (v16 : Int) (v17 : Int) (v19 : Int) (v20 : Int) (decide (v18 = 1)) rfl rfl R21.out ?_)
          (try simp only [Exit.inBlock, Exit.then])
          apply bodyPost_ret
          case hd => rfl
          case hr => exact results_cell_one rfl _ _ w.heap.size _ rfl (loadO10 (setRow_heap _ _ _ _ _ _ R21.out))
          case hR =>
            obtain ⟨e1, e2, e3⟩ := scan_end hg S21.out G21.out O21.out (by omega) #[.string (strB v1), .slice av acc.length cv, .string (strB v13), .string (strB v14), .string (strB v15), .int .i64 (v16 : Int), .int .i64 (v17 : Int), .bool (decide (v18 = 1)), .int .i64 (v19 : Int), .int .i64 (v20 : Int)]
            exact ⟨av, cv, by rw [HX.out.1, HX.out.2, HP.out]; rfl, by rw [HX.out.1, HP.out]; exact e1, by rw [HT.out]; exact e2, e3⟩
end

/- BtRTake: What the document's Take of a batch answers. -/
section
set_option maxRecDepth 100000
open Go.RowKit Go.ChangeShapes Go.WideShapes Go.ChangeAt

/-- A call that reads a batch by a Scan: its result's block, then the batch's. -/
structure Sbn (w : World) (g : Nat) (cs : Array Value) (s : Sc) (w' : World) : Prop where
  rd : SnS w' g s
  but : But g w w'
  res : Row w' w.heap.size 98 zB
  var : Row w' (w.heap.size + 1) 98 cs

theorem Sbn.call {w w1 w2 : World} {g : Nat} {cs : Array Value} {s t : Sc} (h : Sbn w g cs s w1) (hg : g < w.heap.size) (r : SnS w2 g t) (b : But g w1 w2) : Sbn w g cs t w2 :=
  ⟨r, h.but.trans b, h.res.but b (by omega), h.var.but b (by omega)⟩
theorem Sbn.set {w w1 : World} {g : Nat} {cs : Array Value} {s : Sc} (h : Sbn w g cs s w1) (hg : g < w.heap.size) (o : Nat) (v : Value) : Sbn w g (cs.setIfInBounds o v) s (w1.setCell ⟨w.heap.size + 1, o, none⟩ v) :=
  ⟨h.rd.other (k := w.heap.size + 1) (by omega) ((But.refl _ _).set o v), h.but.new (k := w.heap.size + 1) (by omega) ((But.refl _ _).set o v), h.res.but (g := w.heap.size + 1) ((But.refl _ _).set o v) (by omega), h.var.set o v⟩
theorem Sbn.far {w w1 w2 : World} {g k : Nat} {cs : Array Value} {s : Sc} (h : Sbn w g cs s w1) (hg : g < w.heap.size) (hk : w.heap.size + 2 ≤ k) (b : But k w1 w2) : Sbn w g cs s w2 :=
  ⟨h.rd.other (by omega) b, h.but.new (by omega) b, h.res.but b (by omega), h.var.but b (by omega)⟩
theorem Sbn.begin {w : World} {g : Nat} {s : Sc} (h : SnS w g s) : Sbn w g zB s ((w.alloc (.cells zB 98)).alloc (.cells zB 98)) := by
  have b : Below w.heap.size w ((w.alloc (.cells zB 98)).alloc (.cells zB 98)) := ((Below.refl _ _).alloc (Nat.le_refl _) _).alloc (by simp) _
  refine ⟨h.below b, .of b, ?_, heap_alloc2_new _ _ _⟩
  show _ = _
  rw [heap_alloc_old _ _ (by simp)]
  exact heap_alloc_new _ _
theorem scanB_end {w w1 : World} {g : Nat} {t : Sc} {base : Nat} {v : Value} {l : List ByteArray} (hg : g < w.heap.size) (hS : SnS w1 g t) (hG : But g w w1) (hO : OwnT w1 base v l) (hb : w.heap.size < base) (cs : Array Value) :
    OwnT (w1.setRow w.heap.size cs) w.heap.size v l ∧ SnS (w1.setRow w.heap.size cs) g t ∧ But g w (w1.setRow w.heap.size cs) :=
  ⟨(hO.grown fun k h1 h2 => setRow_other _ _ k _ (by omega)).base (by omega), hS.other hg ((But.refl _ _).setRow cs), hG.new (Nat.le_refl _) ((But.refl _ _).setRow cs)⟩

/-- The batch that stands next, or none, and whether there is one, are answered; the Scan is further on. -/
def ScanBt (g : Nat) (s : Sc) (w : World) (e : Ending) (w' : World) : Prop :=
  ∃ a cap, e = .returned (.tuple #[btV a cap (takeBO s), .bool (takeBV s).isSome]) ∧ OwnT w' w.heap.size (.slice a (takeBO s).mem.length cap) (takeBO s).mem ∧ SnS w' g (takeB s).2 ∧ But g w w'

set_option maxHeartbeats 8000000 in
theorem refBtTake_any (w : World) (g : Nat) (s : Sc) (h : SnS w g s) : Calls Tryz.prog 76 #[.pointer (some ⟨g, 0, none⟩)] w (ScanBt g s w) := by
  have hg := h.lt
  have K0 := Lib.hid (Sbn.begin h)
  have y1 := h.bytes
  have F := Lib.hid (takeB_fits y1)
  have OK := Lib.hid (takeBO_ok (s := s))
  have NO := Lib.hid (takeBO_no (s := s))
  rcases h1 : numS 1000000000000 s with ⟨v1, s1⟩
  have C1 := Lib.hid (fun W hW => show Calls Tryz.prog 53 #[.pointer (some ⟨g, 0, none⟩), .int .u64 1000000000000] W (ScanS g (.int .i64 (v1 : Int)) s1 W) by have := scan_num W g s 1000000000000 hW (by decide); rwa [h1] at this)
  have y2 : BytesS s1 := by have := numS_bytes y1 1000000000000; rwa [h1] at this
  rcases h2 : numS 2 s1 with ⟨v2, s2⟩
  have C2 := Lib.hid (fun W hW => show Calls Tryz.prog 53 #[.pointer (some ⟨g, 0, none⟩), .int .u64 2] W (ScanS g (.int .i64 (v2 : Int)) s2 W) by have := scan_num W g s1 2 hW (by decide); rwa [h2] at this)
  have y3 : BytesS s2 := by have := numS_bytes y2 2; rwa [h2] at this
  rcases h3 : numS 3 s2 with ⟨v3, s3⟩
  have C3 := Lib.hid (fun W hW => show Calls Tryz.prog 53 #[.pointer (some ⟨g, 0, none⟩), .int .u64 3] W (ScanS g (.int .i64 (v3 : Int)) s3 W) by have := scan_num W g s2 3 hW (by decide); rwa [h3] at this)
  have y4 : BytesS s3 := by have := numS_bytes y3 3; rwa [h3] at this
  rcases h4 : numS 1000000000000 s3 with ⟨v4, s4⟩
  have C4 := Lib.hid (fun W hW => show Calls Tryz.prog 53 #[.pointer (some ⟨g, 0, none⟩), .int .u64 1000000000000] W (ScanS g (.int .i64 (v4 : Int)) s4 W) by have := scan_num W g s3 1000000000000 hW (by decide); rwa [h4] at this)
  have y5 : BytesS s4 := by have := numS_bytes y4 1000000000000; rwa [h4] at this
  rcases h5 : numS 1099511627776 s4 with ⟨v5, s5⟩
  have C5 := Lib.hid (fun W hW => show Calls Tryz.prog 53 #[.pointer (some ⟨g, 0, none⟩), .int .u64 1099511627776] W (ScanS g (.int .i64 (v5 : Int)) s5 W) by have := scan_num W g s4 1099511627776 hW (by decide); rwa [h5] at this)
  have y6 : BytesS s5 := by have := numS_bytes y5 1099511627776; rwa [h5] at this
  rcases h6 : textS 32 s5 with ⟨v6, s6⟩
  have C6 := Lib.hid (fun W hW => show Calls Tryz.prog 54 #[.pointer (some ⟨g, 0, none⟩), .int .u64 32] W (ScanS g (.string (strB v6)) s6 W) by have := scan_text W g s5 32 hW (by decide); rwa [h6] at this)
  have y7 : BytesS s6 := by have := (textS_bytes y6 32).1; rwa [h6] at this
  rcases h7 : textS 32 s6 with ⟨v7, s7⟩
  have C7 := Lib.hid (fun W hW => show Calls Tryz.prog 54 #[.pointer (some ⟨g, 0, none⟩), .int .u64 32] W (ScanS g (.string (strB v7)) s7 W) by have := scan_text W g s6 32 hW (by decide); rwa [h7] at this)
  have y8 : BytesS s7 := by have := (textS_bytes y7 32).1; rwa [h7] at this
  rcases h8 : textS 32 s7 with ⟨v8, s8⟩
  have C8 := Lib.hid (fun W hW => show Calls Tryz.prog 54 #[.pointer (some ⟨g, 0, none⟩), .int .u64 32] W (ScanS g (.string (strB v8)) s8 W) by have := scan_text W g s7 32 hW (by decide); rwa [h8] at this)
  have y9 : BytesS s8 := by have := (textS_bytes y8 32).1; rwa [h8] at this
  rcases h9 : numS 64 s8 with ⟨v9, s9⟩
  have C9 := Lib.hid (fun W hW => show Calls Tryz.prog 53 #[.pointer (some ⟨g, 0, none⟩), .int .u64 64] W (ScanS g (.int .i64 (v9 : Int)) s9 W) by have := scan_num W g s8 64 hW (by decide); rwa [h9] at this)
  have y10 : BytesS s9 := by have := numS_bytes y9 64; rwa [h9] at this
  have n9 : v9 ≤ 64 := by have := numS_le 64 s8 y9; rwa [h9] at this
  have HH := Lib.hid (And.intro h1 (And.intro h2 (And.intro h3 (And.intro h4 (And.intro h5 (And.intro (show groupS s5 = ((v6, v7, v8), s8) by simp only [groupS, h6, h7, h8]) h9))))))
  have Y10 := Lib.hid y10
  clear h h1 h2 h3 h4 h5 h6 h7 h8 h9 y1 y2 y3 y4 y5 y6 y7 y8 y9 y10
  unfold zB at K0
  go_enter Tryz.func76, Tryz.ntmps76
  go_wp2_with fail
  generalize (w.alloc (Obj.cells #[Value.int .i64 0, Value.int .i64 0, Value.int .i64 0, Value.int .i64 0, Value.int .i64 0, Value.string ⟨#[]⟩, Value.string ⟨#[]⟩, Value.string ⟨#[]⟩, Value.slice none 0 0] 98)).alloc (Obj.cells #[Value.int .i64 0, Value.int .i64 0, Value.int .i64 0, Value.int .i64 0, Value.int .i64 0, Value.string ⟨#[]⟩, Value.string ⟨#[]⟩, Value.string ⟨#[]⟩, Value.slice none 0 0] 98) = W0 at *
  refine (C1.out _ K0.out.rd).mono ?_
  rintro e w1 ⟨rfl, r1, b1⟩
  have J1 := Lib.hid (K0.out.call hg r1 b1)
  obtain ⟨⟨⟨c0, c1, c2, c3, c4⟩, c5, c6, c7, c8⟩, f⟩ := cellsR9 J1.out.var
  clear r1 b1 K0
  have K1 := Lib.hid (J1.out.set hg 0 (.int .i64 (v1 : Int)))
  clear J1
  go_wp2_with fail
  clear c0 c1 c2 c3 c4 c5 c6 c7 c8 f
  generalize w1.setCell ⟨w.heap.size + 1, 0, none⟩ (.int .i64 (v1 : Int)) = W1 at *
  refine (C2.out _ K1.out.rd).mono ?_
  rintro e w2 ⟨rfl, r2, b2⟩
  have J2 := Lib.hid (K1.out.call hg r2 b2)
  obtain ⟨⟨⟨c0, c1, c2, c3, c4⟩, c5, c6, c7, c8⟩, f⟩ := cellsR9 J2.out.var
  clear r2 b2 K1
  have K2 := Lib.hid (J2.out.set hg 3 (.int .i64 (v2 : Int)))
  clear J2
  go_wp2_with fail
  clear c0 c1 c2 c3 c4 c5 c6 c7 c8 f
  generalize w2.setCell ⟨w.heap.size + 1, 3, none⟩ (.int .i64 (v2 : Int)) = W2 at *
  refine (C3.out _ K2.out.rd).mono ?_
  rintro e w3 ⟨rfl, r3, b3⟩
  have J3 := Lib.hid (K2.out.call hg r3 b3)
  obtain ⟨⟨⟨c0, c1, c2, c3, c4⟩, c5, c6, c7, c8⟩, f⟩ := cellsR9 J3.out.var
  clear r3 b3 K2
  have K3 := Lib.hid (J3.out.set hg 4 (.int .i64 (v3 : Int)))
  clear J3
  go_wp2_with fail
  clear c0 c1 c2 c3 c4 c5 c6 c7 c8 f
  generalize w3.setCell ⟨w.heap.size + 1, 4, none⟩ (.int .i64 (v3 : Int)) = W3 at *
  refine (C4.out _ K3.out.rd).mono ?_
  rintro e w4 ⟨rfl, r4, b4⟩
  have J4 := Lib.hid (K3.out.call hg r4 b4)
  obtain ⟨⟨⟨c0, c1, c2, c3, c4⟩, c5, c6, c7, c8⟩, f⟩ := cellsR9 J4.out.var
  clear r4 b4 K3
  have K4 := Lib.hid (J4.out.set hg 1 (.int .i64 (v4 : Int)))
  clear J4
  go_wp2_with fail
  clear c0 c1 c2 c3 c4 c5 c6 c7 c8 f
  generalize w4.setCell ⟨w.heap.size + 1, 1, none⟩ (.int .i64 (v4 : Int)) = W4 at *
  refine (C5.out _ K4.out.rd).mono ?_
  rintro e w5 ⟨rfl, r5, b5⟩
  have J5 := Lib.hid (K4.out.call hg r5 b5)
  obtain ⟨⟨⟨c0, c1, c2, c3, c4⟩, c5, c6, c7, c8⟩, f⟩ := cellsR9 J5.out.var
  clear r5 b5 K4
  have K5 := Lib.hid (J5.out.set hg 2 (.int .i64 (v5 : Int)))
  clear J5
  go_wp2_with fail
  clear c0 c1 c2 c3 c4 c5 c6 c7 c8 f
  generalize w5.setCell ⟨w.heap.size + 1, 2, none⟩ (.int .i64 (v5 : Int)) = W5 at *
  refine (C6.out _ K5.out.rd).mono ?_
  rintro e w6 ⟨rfl, r6, b6⟩
  have J6 := Lib.hid (K5.out.call hg r6 b6)
  obtain ⟨⟨⟨c0, c1, c2, c3, c4⟩, c5, c6, c7, c8⟩, f⟩ := cellsR9 J6.out.var
  clear r6 b6 K5
  have K6 := Lib.hid (J6.out.set hg 5 (.string (strB v6)))
  clear J6
  go_wp2_with fail
  clear c0 c1 c2 c3 c4 c5 c6 c7 c8 f
  generalize w6.setCell ⟨w.heap.size + 1, 5, none⟩ (.string (strB v6)) = W6 at *
  refine (C7.out _ K6.out.rd).mono ?_
  rintro e w7 ⟨rfl, r7, b7⟩
  have J7 := Lib.hid (K6.out.call hg r7 b7)
  obtain ⟨⟨⟨c0, c1, c2, c3, c4⟩, c5, c6, c7, c8⟩, f⟩ := cellsR9 J7.out.var
  clear r7 b7 K6
  have K7 := Lib.hid (J7.out.set hg 6 (.string (strB v7)))
  clear J7
  go_wp2_with fail
  clear c0 c1 c2 c3 c4 c5 c6 c7 c8 f
  generalize w7.setCell ⟨w.heap.size + 1, 6, none⟩ (.string (strB v7)) = W7 at *
  refine (C8.out _ K7.out.rd).mono ?_
  rintro e w8 ⟨rfl, r8, b8⟩
  have J8 := Lib.hid (K7.out.call hg r8 b8)
  obtain ⟨⟨⟨c0, c1, c2, c3, c4⟩, c5, c6, c7, c8⟩, f⟩ := cellsR9 J8.out.var
  clear r8 b8 K7
  have K8 := Lib.hid (J8.out.set hg 7 (.string (strB v8)))
  clear J8
  go_wp2_with fail
  clear c0 c1 c2 c3 c4 c5 c6 c7 c8 f
  generalize w8.setCell ⟨w.heap.size + 1, 7, none⟩ (.string (strB v8)) = W8 at *
  refine (C9.out _ K8.out.rd).mono ?_
  rintro e w9 ⟨rfl, r9, b9⟩
  have K9 : Hid (Sbn w g (vB v1 v2 v3 v4 v5 v6 v7 v8 (.slice none 0 0)) s9 w9) := Lib.hid (K8.out.call hg r9 b9)
  clear r9 b9 K8 C1 C2 C3 C4 C5 C6 C7 C8 C9
  go_wp2_with fail
  go_loopw [6] (fun i wr => ∃ (k : Nat) (acc : List ByteArray) (vl : Value) (sk : Sc), k ≤ v9 ∧ i = .int .i64 k ∧ Hid (Sbn w g (vB v1 v2 v3 v4 v5 v6 v7 v8 vl) sk wr) ∧ Hid (OwnT wr (w.heap.size + 2) vl acc) ∧ acc.length = k ∧ Hid (BytesS sk) ∧ Hid (textsS v9 s9 = (acc ++ (textsS (v9 - k) sk).1, (textsS (v9 - k) sk).2))) (fun i _ => v9 - (intOf i).toNat)
  case atStart => exact ⟨0, [], _, s9, Nat.zero_le _, rfl, K9, Lib.hid (OwnT.nil _ _), rfl, Y10, Lib.hid (by simp)⟩
  case round =>
    obtain ⟨k, acc, vl, sk, hk, rfl, HR, HO, hac, HB, HL⟩ := hrel
    by_cases hlt : k < v9
    · rcases hx : textS 32 sk with ⟨x, sx⟩
      have hsx : BytesS sx := by have := (textS_bytes HB.out 32).1; rwa [hx] at this
      have HN := Lib.hid (show textsS v9 s9 = ((acc ++ [strB x]) ++ (textsS (v9 - (k + 1)) sx).1, (textsS (v9 - (k + 1)) sx).2) by
        rw [HL.out, show v9 - k = (v9 - (k + 1)) + 1 by omega, textsS, hx]; simp)
      have HX := Lib.hid hsx
      have HK1 := Lib.hid (show (acc ++ [strB x]).length = k + 1 by rw [List.length_append, hac]; rfl)
      have C := Lib.hid (fun W hW => show Calls Tryz.prog 54 #[.pointer (some ⟨g, 0, none⟩), .int .u64 32] W (ScanS g (.string (strB x)) sx W) by have := scan_text W g sk 32 hW (by decide); rwa [hx] at this)
      clear hx hsx
      generalize strB x = xb at *
      obtain ⟨⟨⟨c0, c1, c2, c3, c4⟩, c5, c6, c7, c8⟩, f⟩ := cellsR9 HR.out.var
      have RW := Lib.hid (HR.out.far hg (Nat.le_refl _) (But.drew _ _))
      have OW := Lib.hid (HO.out.grown (w' := wr.drew) fun _ _ _ => rfl)
      go_wp2_with fail
      go_region_law (first
        | (go_simp; go_at_call 54; refine (C.out _ RW.out.rd).mono ?_; rintro e w3 ⟨rfl, r3, b3⟩; have R3 := Lib.hid (RW.out.call hg r3 b3); have O3 := Lib.hid (OW.out.grown (w' := w3) fun k h1 h2 => b3.block k h2 (by omega)); have y1 : w3.cell? ⟨w.heap.size + 1, 8, none⟩ = some vl := R3.out.var.cell 8; have yz := R3.out.var.lt; clear r3 b3)
        | (refine step_append_texts rfl (.tmp 43) (.tmp 46) rfl (w.heap.size + 2) vl acc [xb] (by simp [Act.eval]) (O3.out.below ((Below.refl _ _).alloc (Nat.le_refl _) _)) (some ⟨w3.heap.size, 0, none⟩) 1 (by simp [Act.eval]) (strs_block1 w3 xb) (by simp; omega) (by have := R3.out.var.lt; simp; omega) ?_; intro v4 w4 o4 g4; obtain ⟨a4, p4, e4⟩ := o4.shape; rw [HK1.out] at e4; subst e4; obtain ⟨q, hq, bq⟩ := But.grown g4 O3.out.row; have R4 := Lib.hid ((R3.out.far hg (Nat.le_refl _) (But.alloc _ _ _)).far hg hq bq); have O4 := Lib.hid o4; have z1 : w4.cell? ⟨w.heap.size + 1, 8, none⟩ = some vl := R4.out.var.cell 8; have zf : w4.frozen? ⟨w.heap.size + 1, 8, none⟩ = false := R4.out.var.free 8; clear o4 g4 bq))
      all_goals
        have R5 := Lib.hid (R4.out.set hg 8 (.slice a4 (k + 1) p4))
        have O5 := Lib.hid (O4.out.cell (k := w.heap.size + 1) (by omega) 8 (.slice a4 (k + 1) p4))
        go_wp2_with fail
        go_roundw
        case rel => exact ⟨k + 1, acc ++ [xb], _, sx, by omega, by go_num, R5, O5, HK1.out, HX, HN⟩
        case measure => simp [intOf]; omega
    · have HE := Lib.hid (show textsS v9 s9 = (acc, sk) by rw [HL.out, show v9 - k = 0 by omega, textsS]; simp)
      obtain ⟨av, cv, ev⟩ := HO.out.shape
      subst ev
      subst hac
      have HP := Lib.hid (takeB_of HH.out.1 HH.out.2.1 HH.out.2.2.1 HH.out.2.2.2.1 HH.out.2.2.2.2.1 HH.out.2.2.2.2.2.1 HH.out.2.2.2.2.2.2 HE.out)
      have HT := Lib.hid (show (takeB s).2 = sk by rw [HP.out])
      rw [HP.out] at F
      have PO := Lib.hid (btP_of (b := (⟨(v1 : Int), (v4 : Int), (v5 : Int), (v2 : Int), (v3 : Int), strB v6, strB v7, strB v8, acc⟩ : Bt)) HO.out.reads.2 F.out)
      clear HL HE HH
      unfold vB at HR
      obtain ⟨sa, sc, sl, ok, r1, r2, r3, r4⟩ := HR.out.rd
      obtain ⟨⟨_, d1⟩, _⟩ := cellsR2 r1
      clear r1 r2 r3
      cases ok with
      | false =>
        have HX := Lib.hid (NO.out (.inl (by rw [HP.out, r4]; rfl)))
        go_wp2_with (refine wpList_store_batch rfl _ _ rfl w.heap.size none 0 noBt _ (by rfl) rfl rfl HR.out.res ?_)
        (try simp only [Exit.inBlock, Exit.then])
        apply bodyPost_ret
        case hd => rfl
        case hr => exact results_cell_one rfl _ _ w.heap.size _ rfl (load9 (b := noBt) (setRow_heap _ _ _ _ _ _ HR.out.res))
        case hR =>
          obtain ⟨e1, e2, e3⟩ := scanB_end hg HR.out.rd HR.out.but (OwnT.nil _ (w.heap.size + 1)) (by omega) (btC none 0 noBt)
          exact ⟨none, 0, by rw [HX.out.1, HX.out.2]; rfl, by rw [HX.out.1]; exact e1, by rw [HT.out]; exact e2, e3⟩
      | true =>
        have h4 := Lib.hid (show (takeB s).2.isNone = false by rw [HP.out, r4]; rfl)
        clear r4
        obtain ⟨⟨⟨c0, c1, c2, c3, c4⟩, c5, c6, c7, c8⟩, f⟩ := cellsR9 HR.out.var
        have CR := Lib.hid (refBtRight_any av cv (⟨(v1 : Int), (v4 : Int), (v5 : Int), (v2 : Int), (v3 : Int), strB v6, strB v7, strB v8, acc⟩ : Bt) wr PO.out)
        unfold btV at CR
        dsimp only at CR
        go_wp2_with fail
        clear c0 c1 c2 c3 c4 c5 c6 c7 c8 f
        refine CR.out.mono ?_
        rintro e w21 ⟨rfl, b21⟩
        have V21 := Lib.hid (HR.out.var.below b21)
        have R21 := Lib.hid (HR.out.res.below b21)
        have O21 := Lib.hid (HO.out.below b21)
        have S21 := Lib.hid (HR.out.rd.below b21)
        have G21 := Lib.hid (HR.out.but.trans (But.of b21))
        clear b21 HR HO CR d1 PO
        cases hr : rightBt (⟨(v1 : Int), (v4 : Int), (v5 : Int), (v2 : Int), (v3 : Int), strB v6, strB v7, strB v8, acc⟩ : Bt) with
        | false =>
          have HX := Lib.hid (NO.out (.inr (by rw [HP.out]; exact hr)))
          go_wp2_with (refine wpList_store_batch rfl _ _ rfl w.heap.size none 0 noBt _ (by rfl) rfl rfl R21.out ?_)
          (try simp only [Exit.inBlock, Exit.then])
          apply bodyPost_ret
          case hd => rfl
          case hr => exact results_cell_one rfl _ _ w.heap.size _ rfl (load9 (b := noBt) (setRow_heap _ _ _ _ _ _ R21.out))
          case hR =>
            obtain ⟨e1, e2, e3⟩ := scanB_end hg S21.out G21.out (OwnT.nil _ (w.heap.size + 1)) (by omega) (btC none 0 noBt)
            exact ⟨none, 0, by rw [HX.out.1, HX.out.2]; rfl, by rw [HX.out.1]; exact e1, by rw [HT.out]; exact e2, e3⟩
        | true =>
          have HX := Lib.hid (OK.out h4.out (by rw [HP.out]; exact hr))
          obtain ⟨⟨⟨c0, c1, c2, c3, c4⟩, c5, c6, c7, c8⟩, f⟩ := cellsR9 V21.out
          go_wp2_with (refine wpList_store_batch rfl _ _ rfl w.heap.size av cv (⟨(v1 : Int), (v4 : Int), (v5 : Int), (v2 : Int), (v3 : Int), strB v6, strB v7, strB v8, acc⟩ : Bt) _ (by rfl) rfl rfl R21.out ?_)
          (try simp only [Exit.inBlock, Exit.then])
          apply bodyPost_ret
          case hd => rfl
          case hr => exact results_cell_one rfl _ _ w.heap.size _ rfl (load9 (b := (⟨(v1 : Int), (v4 : Int), (v5 : Int), (v2 : Int), (v3 : Int), strB v6, strB v7, strB v8, acc⟩ : Bt)) (setRow_heap _ _ _ _ _ _ R21.out))
          case hR =>
            obtain ⟨e1, e2, e3⟩ := scanB_end hg S21.out G21.out O21.out (by omega) (btC av cv (⟨(v1 : Int), (v4 : Int), (v5 : Int), (v2 : Int), (v3 : Int), strB v6, strB v7, strB v8, acc⟩ : Bt))
            exact ⟨av, cv, by rw [HX.out.1, HX.out.2, HP.out]; rfl, by rw [HX.out.1, HP.out]; exact e1, by rw [HT.out]; exact e2, e3⟩
end

/- ObRTake: What the document's Take of an outbox answers. -/
section
set_option maxRecDepth 100000
open Go.RowKit Go.ChangeShapes Go.WideShapes Go.ChangeAt
attribute [local go_sem ↓] ldEf stEf alEf bxEf eqEf bdEf bsEf
attribute [local go_sem] al_ef bx_ef st_new bd_ef bs_ef bs_ef0

/-- An effect is read by a Scan, into a variable that came later. -/
structure Rv (wr : World) (g : Nat) (cs : Array Value) (s : Sc) (W : World) : Prop where
  rd : SnS W g s
  var : Row W wr.heap.size 138 cs
  but : But g wr W
theorem Rv.begin {wr : World} {g : Nat} {s : Sc} (h : SnS wr g s) (cs : Array Value) : Rv wr g cs s (wr.alloc (.cells cs 138)) :=
  ⟨h.below ((Below.refl _ _).alloc (Nat.le_refl _) _), Row.new _ _ _, But.alloc g wr _⟩
theorem Rv.call {wr w1 w2 : World} {g : Nat} {cs : Array Value} {s t : Sc} (h : Rv wr g cs s w1) (hg : g < wr.heap.size) (r : SnS w2 g t) (b : But g w1 w2) : Rv wr g cs t w2 :=
  ⟨r, h.var.but b (by omega), h.but.trans b⟩
theorem Rv.set {wr w1 : World} {g : Nat} {cs : Array Value} {s : Sc} (h : Rv wr g cs s w1) (hg : g < wr.heap.size) (o : Nat) (v : Value) : Rv wr g (cs.setIfInBounds o v) s (w1.setCell ⟨wr.heap.size, o, none⟩ v) :=
  ⟨h.rd.other (k := wr.heap.size) hg ((But.refl _ _).set o v), h.var.set o v, h.but.new (k := wr.heap.size) (Nat.le_refl _) ((But.refl _ _).set o v)⟩

/-- The same, and where the Scan then stands. -/
def TakeDM (g : Nat) (s : Sc) (w : World) (e : Ending) (w' : World) : Prop :=
  ∃ v, e = .returned (.tuple #[v, .bool (boxO s).isSome]) ∧ OwnS LE w' w.heap.size v (boxV s) ∧ ((boxO s).isSome = true → SnS w' g (boxS s).2) ∧ But g w w'
theorem effsS_stop {k n : Nat} (h : k ≤ n) {s : Sc} (e : (effsS k s).2 = none) : (effsS n s).2 = none := by
  obtain ⟨j, rfl⟩ : ∃ j, n = k + j := ⟨n - k, by omega⟩
  rw [effsS_add]
  simp only [e]
  exact effsS_none j

set_option maxHeartbeats 2000000 in
theorem refTake_more13 (w : World) (g : Nat) (s : Sc) (h : SnS w g s) : Calls Tryz.prog 77 #[.pointer (some ⟨g, 0, none⟩)] w (TakeDM g s w) := by
  have hg := h.lt
  have hb := h.bytes
  have B0 := Lib.hid ((Below.refl w.heap.size w).alloc (Nat.le_refl _) (.cells #[] 138))
  have O0 := Lib.hid (OwnS.fresh (L := LE) w w.heap.size (Nat.le_refl _))
  have O0 : Hid (OwnS LE (w.alloc (.cells #[] 138)) w.heap.size (.slice (some ⟨w.heap.size, 0, none⟩) 0 0) []) := O0
  have C0 := Lib.hid (scan_num (w.alloc (.cells #[] 138)) g s 1048576 (h.below B0.out) (by decide))
  have hb1 := numS_bytes hb 1048576
  have hn := numS_le 1048576 s hb
  have HB := Lib.hid (show boxS s = effsS (numS 1048576 s).1 (numS 1048576 s).2 from rfl)
  have HO := Lib.hid (fun k => effsS_order k hb1)
  clear h hb
  generalize (numS 1048576 s).1 = n at *
  generalize (numS 1048576 s).2 = S at *
  go_enter Tryz.func77, Tryz.ntmps77
  go_wp2_with fail
  generalize w.alloc (.cells #[] 138) = W0 at *
  refine C0.out.mono ?_
  rintro e w1 ⟨rfl, r1, b1⟩
  have R1 := Lib.hid r1
  have B1 := Lib.hid ((But.of (g := g) B0.out).trans b1)
  have O1 := Lib.hid (O0.out.but b1 hg)
  clear C0 r1 b1 O0 B0
  go_wp2_with fail
  go_loopw [4, 6] (fun s4 i wr => ∃ (k : Nat) (acc : List Ef) (sc : Sc), k ≤ n ∧ i = .int .i64 k ∧ Hid (OwnS LE wr w.heap.size s4 acc) ∧ Hid (effsS k S = (acc, sc)) ∧ acc.length ≤ k ∧ Hid (SnS wr g sc) ∧ Hid (But g w wr)) (fun _ i _ => n - (intOf i).toNat)
  case atStart => exact ⟨0, [], S, Nat.zero_le _, rfl, O1, Lib.hid rfl, by simp, R1, B1⟩
  case round =>
    clear R1 B1 O1
    obtain ⟨k, acc, sc, hk, rfl, HW, HE, hal, R, B⟩ := hrel
    have hgr := R.out.lt
    have HSB := Lib.hid R.out.bytes
    have RR := Lib.hid R.out
    obtain ⟨sa, sq, sl, ok, r1, r2, r3, r4⟩ := R.out
    obtain ⟨⟨_, d1⟩, _⟩ := cellsR2 r1
    have R4 := Lib.hid r4
    clear r1 r2 r3 r4 R
    cases ok with
    | false =>
      have hsc : sc = none := R4.out
      have HX := Lib.hid (box_no (box_none (s := s) (.inl (by rw [HB.out]; exact effsS_stop hk (by rw [HE.out]; exact hsc)))))
      clear R4 hsc
      by_cases hlt : k < n
      all_goals
        go_wp2_with fail
        go_ret2
        exact ⟨_, by rw [HX.out.2]; rfl, by rw [HX.out.1]; exact OwnS.nil _ _, (fun hq => by rw [HX.out.2] at hq; cases hq), B.out⟩
    | true =>
      have hsc : sc.isNone = false := by rw [R4.out]; rfl
      clear R4
      by_cases hlt : k < n
      · have HS := Lib.hid (effsS_snoc k S)
        rw [HE.out] at HS
        have K0 := Lib.hid (Rv.begin RR.out (efC noEf))
        have y1 := HSB.out
        rcases h1 : numS 1000000000000 sc with ⟨v1, s1⟩
        have C1 := Lib.hid (fun W hW => show Calls Tryz.prog 53 #[.pointer (some ⟨g, 0, none⟩), .int .u64 1000000000000] W (ScanS g (.int .i64 (v1 : Int)) s1 W) by have := scan_num W g sc 1000000000000 hW (by decide); rwa [h1] at this)
        have y2 : BytesS s1 := by have := numS_bytes y1 1000000000000; rwa [h1] at this
        rcases h2 : numS 7 s1 with ⟨v2, s2⟩
        have C2 := Lib.hid (fun W hW => show Calls Tryz.prog 53 #[.pointer (some ⟨g, 0, none⟩), .int .u64 7] W (ScanS g (.int .i64 (v2 : Int)) s2 W) by have := scan_num W g s1 7 hW (by decide); rwa [h2] at this)
        have y3 : BytesS s2 := by have := numS_bytes y2 7; rwa [h2] at this
        rcases h3 : numS 1000000 s2 with ⟨v3, s3⟩
        have C3 := Lib.hid (fun W hW => show Calls Tryz.prog 53 #[.pointer (some ⟨g, 0, none⟩), .int .u64 1000000] W (ScanS g (.int .i64 (v3 : Int)) s3 W) by have := scan_num W g s2 1000000 hW (by decide); rwa [h3] at this)
        have y4 : BytesS s3 := by have := numS_bytes y3 1000000; rwa [h3] at this
        rcases h4 : numS 1099511627776 s3 with ⟨v4, s4⟩
        have C4 := Lib.hid (fun W hW => show Calls Tryz.prog 53 #[.pointer (some ⟨g, 0, none⟩), .int .u64 1099511627776] W (ScanS g (.int .i64 (v4 : Int)) s4 W) by have := scan_num W g s3 1099511627776 hW (by decide); rwa [h4] at this)
        have y5 : BytesS s4 := by have := numS_bytes y4 1099511627776; rwa [h4] at this
        rcases h5 : numS 1000000000000 s4 with ⟨v5, s5⟩
        have C5 := Lib.hid (fun W hW => show Calls Tryz.prog 53 #[.pointer (some ⟨g, 0, none⟩), .int .u64 1000000000000] W (ScanS g (.int .i64 (v5 : Int)) s5 W) by have := scan_num W g s4 1000000000000 hW (by decide); rwa [h5] at this)
        have y6 : BytesS s5 := by have := numS_bytes y5 1000000000000; rwa [h5] at this
        rcases h6 : textS 32 s5 with ⟨v6, s6⟩
        have C6 := Lib.hid (fun W hW => show Calls Tryz.prog 54 #[.pointer (some ⟨g, 0, none⟩), .int .u64 32] W (ScanS g (.string (strB v6)) s6 W) by have := scan_text W g s5 32 hW (by decide); rwa [h6] at this)
        have HP := Lib.hid (show (effS sc).1 = ⟨(v1 : Int), (v5 : Int), (v4 : Int), (v2 : Int), (v3 : Int), strB v6⟩ ∧ (effS sc).2 = s6 by simp only [effS, h1, h2, h3, h4, h5, h6]; exact ⟨trivial, trivial⟩)
        rw [HP.out.1, HP.out.2] at HS
        clear h1 h2 h3 h4 h5 h6 y1 y2 y3 y4 y5 y6 HP HE
        go_wp2_with fail
        generalize wr.alloc (.cells (efC noEf) 138) = V0 at *
        refine (C1.out _ K0.out.rd).mono ?_
        rintro e w1 ⟨rfl, r1, b1⟩
        have J1 := Lib.hid (K0.out.call hgr r1 b1)
        obtain ⟨c0, c1, c2, c3, c4, c5⟩ := Row.c (e := noEf) J1.out.var
        obtain ⟨f0, f1, f2, f3, f4, f5⟩ := Row.f (e := noEf) J1.out.var
        clear r1 b1
        have K1 : Hid (Rv wr g (efC ⟨(v1 : Int), 0, 0, 0, 0, ⟨#[]⟩⟩) s1 (w1.setCell ⟨wr.heap.size, 0, none⟩ (.int .i64 (v1 : Int)))) := Lib.hid (J1.out.set hgr 0 (.int .i64 (v1 : Int)))
        go_wp2_with fail
        clear c0 c1 c2 c3 c4 c5 f0 f1 f2 f3 f4 f5
        generalize w1.setCell ⟨wr.heap.size, 0, none⟩ (.int .i64 (v1 : Int)) = W1 at *
        refine (C2.out _ K1.out.rd).mono ?_
        rintro e w2 ⟨rfl, r2, b2⟩
        have J2 := Lib.hid (K1.out.call hgr r2 b2)
        obtain ⟨c0, c1, c2, c3, c4, c5⟩ := Row.c (e := ⟨(v1 : Int), 0, 0, 0, 0, ⟨#[]⟩⟩) J2.out.var
        obtain ⟨f0, f1, f2, f3, f4, f5⟩ := Row.f (e := ⟨(v1 : Int), 0, 0, 0, 0, ⟨#[]⟩⟩) J2.out.var
        clear r2 b2
        have K2 : Hid (Rv wr g (efC ⟨(v1 : Int), 0, 0, (v2 : Int), 0, ⟨#[]⟩⟩) s2 (w2.setCell ⟨wr.heap.size, 3, none⟩ (.int .i64 (v2 : Int)))) := Lib.hid (J2.out.set hgr 3 (.int .i64 (v2 : Int)))
        go_wp2_with fail
        clear c0 c1 c2 c3 c4 c5 f0 f1 f2 f3 f4 f5
        generalize w2.setCell ⟨wr.heap.size, 3, none⟩ (.int .i64 (v2 : Int)) = W2 at *
        refine (C3.out _ K2.out.rd).mono ?_
        rintro e w3 ⟨rfl, r3, b3⟩
        have J3 := Lib.hid (K2.out.call hgr r3 b3)
        obtain ⟨c0, c1, c2, c3, c4, c5⟩ := Row.c (e := ⟨(v1 : Int), 0, 0, (v2 : Int), 0, ⟨#[]⟩⟩) J3.out.var
        obtain ⟨f0, f1, f2, f3, f4, f5⟩ := Row.f (e := ⟨(v1 : Int), 0, 0, (v2 : Int), 0, ⟨#[]⟩⟩) J3.out.var
        clear r3 b3
        have K3 : Hid (Rv wr g (efC ⟨(v1 : Int), 0, 0, (v2 : Int), (v3 : Int), ⟨#[]⟩⟩) s3 (w3.setCell ⟨wr.heap.size, 4, none⟩ (.int .i64 (v3 : Int)))) := Lib.hid (J3.out.set hgr 4 (.int .i64 (v3 : Int)))
        go_wp2_with fail
        clear c0 c1 c2 c3 c4 c5 f0 f1 f2 f3 f4 f5
        generalize w3.setCell ⟨wr.heap.size, 4, none⟩ (.int .i64 (v3 : Int)) = W3 at *
        refine (C4.out _ K3.out.rd).mono ?_
        rintro e w4 ⟨rfl, r4, b4⟩
        have J4 := Lib.hid (K3.out.call hgr r4 b4)
        obtain ⟨c0, c1, c2, c3, c4, c5⟩ := Row.c (e := ⟨(v1 : Int), 0, 0, (v2 : Int), (v3 : Int), ⟨#[]⟩⟩) J4.out.var
        obtain ⟨f0, f1, f2, f3, f4, f5⟩ := Row.f (e := ⟨(v1 : Int), 0, 0, (v2 : Int), (v3 : Int), ⟨#[]⟩⟩) J4.out.var
        clear r4 b4
        have K4 : Hid (Rv wr g (efC ⟨(v1 : Int), 0, (v4 : Int), (v2 : Int), (v3 : Int), ⟨#[]⟩⟩) s4 (w4.setCell ⟨wr.heap.size, 2, none⟩ (.int .i64 (v4 : Int)))) := Lib.hid (J4.out.set hgr 2 (.int .i64 (v4 : Int)))
        go_wp2_with fail
        clear c0 c1 c2 c3 c4 c5 f0 f1 f2 f3 f4 f5
        generalize w4.setCell ⟨wr.heap.size, 2, none⟩ (.int .i64 (v4 : Int)) = W4 at *
        refine (C5.out _ K4.out.rd).mono ?_
        rintro e w5 ⟨rfl, r5, b5⟩
        have J5 := Lib.hid (K4.out.call hgr r5 b5)
        obtain ⟨c0, c1, c2, c3, c4, c5⟩ := Row.c (e := ⟨(v1 : Int), 0, (v4 : Int), (v2 : Int), (v3 : Int), ⟨#[]⟩⟩) J5.out.var
        obtain ⟨f0, f1, f2, f3, f4, f5⟩ := Row.f (e := ⟨(v1 : Int), 0, (v4 : Int), (v2 : Int), (v3 : Int), ⟨#[]⟩⟩) J5.out.var
        clear r5 b5
        have K5 : Hid (Rv wr g (efC ⟨(v1 : Int), (v5 : Int), (v4 : Int), (v2 : Int), (v3 : Int), ⟨#[]⟩⟩) s5 (w5.setCell ⟨wr.heap.size, 1, none⟩ (.int .i64 (v5 : Int)))) := Lib.hid (J5.out.set hgr 1 (.int .i64 (v5 : Int)))
        go_wp2_with fail
        clear c0 c1 c2 c3 c4 c5 f0 f1 f2 f3 f4 f5
        generalize w5.setCell ⟨wr.heap.size, 1, none⟩ (.int .i64 (v5 : Int)) = W5 at *
        refine (C6.out _ K5.out.rd).mono ?_
        rintro e w6 ⟨rfl, r6, b6⟩
        have J6 := Lib.hid (K5.out.call hgr r6 b6)
        obtain ⟨c0, c1, c2, c3, c4, c5⟩ := Row.c (e := ⟨(v1 : Int), (v5 : Int), (v4 : Int), (v2 : Int), (v3 : Int), ⟨#[]⟩⟩) J6.out.var
        obtain ⟨f0, f1, f2, f3, f4, f5⟩ := Row.f (e := ⟨(v1 : Int), (v5 : Int), (v4 : Int), (v2 : Int), (v3 : Int), ⟨#[]⟩⟩) J6.out.var
        clear r6 b6
        have K6 : Hid (Rv wr g (efC ⟨(v1 : Int), (v5 : Int), (v4 : Int), (v2 : Int), (v3 : Int), strB v6⟩) s6 (w6.setCell ⟨wr.heap.size, 5, none⟩ (.string (strB v6)))) := Lib.hid (J6.out.set hgr 5 (.string (strB v6)))
        have ld := ld_row (e := ⟨(v1 : Int), (v5 : Int), (v4 : Int), (v2 : Int), (v3 : Int), strB v6⟩) K6.out.var
        generalize (⟨(v1 : Int), (v5 : Int), (v4 : Int), (v2 : Int), (v3 : Int), strB v6⟩ : Ef) = z at *
        have hlen : acc.length + [z].length ≤ 10000000 := by simp; omega
        have O6 := Lib.hid (HW.out.but K6.out.but (by omega))
        have B6 := Lib.hid (B.out.trans K6.out.but)
        have hw6 := B6.out.size
        go_wp2_with (at_builtin; go_must (refine wpList_append_sl LE_ok rfl _ _ rfl w.heap.size _ acc [z] rfl (O6.out.alloc _) _ 1 rfl (ef_one _ _ (by simp) z) hlen (Nat.le_trans hw6 (by simp)) ?_))
        rintro v7 w7 o7 g7
        obtain ⟨q, hq1, hq2⟩ := But.grown g7 (B := w.heap.size) O6.out.row
        have R7 := Lib.hid ((K6.out.rd.below ((Below.refl _ _).alloc (Nat.le_refl _) (.cells (efC z) 138))).other (by omega) hq2)
        have B7 := Lib.hid ((B6.out.trans (But.alloc g _ (.cells (efC z) 138))).new hq1 hq2)
        have O7 := Lib.hid o7
        clear o7 g7 hq2 B6 O6 K6 J6 c0 c1 c2 c3 c4 c5 f0 f1 f2 f3 f4 f5 ld
        go_wp2_with fail
        go_roundw
        case rel => exact ⟨k + 1, acc ++ [z], s6, hlt, by go_num, O7, HS, by simp; omega, R7, B7⟩
        case measure => simp [intOf]; omega
      · obtain rfl : k = n := by omega
        have hbox : boxS s = (acc, sc) := by rw [HB.out]; exact HE.out
        obtain ⟨a7, c7, rfl, s7⟩ := HW.out.sl
        have CR := Lib.hid (refObRight_any a7 c7 acc wr s7 (fun y hy => by
          have := HO.out k y (by rw [HE.out]; exact hy)
          unfold maxLen; omega))
        clear s7
        cases hr : rightE acc with
        | false =>
          have HX := Lib.hid (box_no (box_none (s := s) (.inr (by rw [hbox]; exact hr))))
          rw [hr] at CR
          clear hbox hr
          go_wp2_with fail
          refine CR.out.mono ?_
          rintro x w8 ⟨rfl, b8⟩
          go_wp2_with fail
          go_ret2
          exact ⟨_, by rw [HX.out.2]; rfl, by rw [HX.out.1]; exact OwnS.nil _ _, (fun hq => by rw [HX.out.2] at hq; cases hq), B.out.trans (But.of b8)⟩
        | true =>
          have HX := Lib.hid (box_yes (s := s) (by rw [hbox]; cases sc with | none => cases hsc | some _ => rfl) (by rw [hbox]; exact hr))
          have HV := Lib.hid (show boxV s = acc by rw [HX.out.1, hbox])
          have HB2 := Lib.hid (show (boxS s).2 = sc by rw [hbox])
          rw [hr] at CR
          clear hbox hr
          go_wp2_with fail
          refine CR.out.mono ?_
          rintro x w8 ⟨rfl, b8⟩
          go_wp2_with fail
          go_ret2
          exact ⟨_, by rw [HX.out.2]; rfl, by rw [HV.out]; exact HW.out.below b8, (fun _ => by rw [HB2.out]; exact RR.out.below b8), B.out.trans (But.of b8)⟩
end

/- SnPlain2: Plain facts on states as bytes. -/
section
set_option maxRecDepth 100000

theorem readO_back {l : List Nat} (hb : Bytes l) {st : St} (h : readO l = some st) : l = stateL st ∧ rightS st = true := readM_back hb h
end

/- SnRef5: The document's Told: the command of bytes. -/
section
set_option maxRecDepth 100000
open Go.RowKit Go.ChangeShapes Go.WideShapes Go.ChangeAt
attribute [local go_sem ↓] ldCm stCm alCm bxCm bdCm
attribute [local go_sem] al_cm bx_cm st_cmnew bd_cm bd_cmKind

/-- A Scan of bytes in its variable. -/
theorem sn_new {w : World} {a : Option Addr} {cap : Nat} {l : List Nat} (h : BytesP w a cap l) (o : Obj) : SnS ((w.alloc o).alloc (.cells #[.slice a l.length cap, .bool true] 84)) (w.heap.size + 1) (some l) := by
  have b : Below w.heap.size w ((w.alloc o).alloc (.cells #[.slice a l.length cap, .bool true] 84)) := ((Below.refl _ _).alloc (Nat.le_refl _) _).alloc (by simp) _
  have R := Row.new (w.alloc o) #[.slice a l.length cap, .bool true] 84
  rw [show (w.alloc o).heap.size = w.heap.size + 1 by simp] at R
  refine ⟨a, cap, l, true, R, h.below b, fun hne b' o' e => ?_, rfl⟩
  obtain ⟨b2, o2, e2, h2, _⟩ := h.cell hne
  rw [e] at e2
  injection e2 with e2
  injection e2 with e2
  omega
end

/- SnCon: What package snap's calls answer, as the laws want it; the laws' example. -/
section
set_option maxRecDepth 100000
open Go.RowKit Go.ChangeShapes Go.WideShapes Go.ChangeAt
attribute [local go_sem ↓] ldCm stCm alCm bxCm bdCm ldSt stSt alSt bxSt bdSt ldCa bxCa eqCa
attribute [local go_sem] al_cm bx_cm st_cmnew bd_cm bd_cmKind al_sta bx_sta st_stnew bd_sta

/-- What the document's Read answers. -/
def RefReadC : Prop := ∀ (a : Option Addr) (cap : Nat) (l : List Nat) (w : World), BytesP w a cap l → l.length ≤ 1000000 → Calls Tryz.prog 24 #[.slice a l.length cap] w (ReadPost l w)
end

/- SnRead0: What both Reads of states stand on: what is read, step by step; a state in its variable while it is read. -/
section
set_option maxRecDepth 100000
open Go.RowKit Go.ChangeShapes Go.WideShapes Go.ChangeAt

section
variable (ev : Operand → Value) (d : Option Tmp) (ty : TypeId) (pos : String) (af : Array Edge) (gd : Option (Nat × Bool)) (w : World)
end
/-- The result's variable, what is read from, a state in its variable. -/
structure RtK (w : World) (g c : Nat) (o : StR) (s : Sc) (W : World) : Prop where
  res : Row W w.heap.size 37 (stC noStR)
  rd : SnS W g s
  but : But g w W
  out : Row W c 37 (stC o)
  hg : g ≠ w.heap.size
  hgc : g < c
  hc : w.heap.size < c
structure RtI (w : World) (g c : Nat) (o : StR) (s : Sc) (W : World) : Prop where
  k : RtK w g c o s W
  own : OwnSt W (c + 1) o
theorem RtK.call {w W W' : World} {g c : Nat} {o : StR} {s s' : Sc} (i : RtK w g c o s W) (r : SnS W' g s') (b : But g W W') : RtK w g c o s' W' := by
  have h1 := i.hg; have h2 := i.hgc; have h3 := i.hc
  exact ⟨i.res.but b (by omega), r, i.but.trans b, i.out.but b (by omega), h1, h2, h3⟩
theorem RtI.call {w W W' : World} {g c : Nat} {o : StR} {s s' : Sc} (i : RtI w g c o s W) (r : SnS W' g s') (b : But g W W') : RtI w g c o s' W' := by
  have h2 := i.k.hgc
  exact ⟨i.k.call r b, i.own.keep fun k k1 k2 => b.block k k2 (by omega)⟩
theorem RtK.far {w W W' : World} {g c k : Nat} {o : StR} {s : Sc} (i : RtK w g c o s W) (hk : c < k) (b : But k W W') : RtK w g c o s W' := by
  have h1 := i.hg; have h2 := i.hgc; have h3 := i.hc
  exact ⟨i.res.but b (by omega), i.rd.other (by omega) b, i.but.new (k := k) (by omega) b, i.out.but b (by omega), h1, h2, h3⟩
theorem RtI.below {w W W' : World} {g c : Nat} {o : StR} {s : Sc} (i : RtI w g c o s W) (b : Below W.heap.size W W') : RtI w g c o s W' := by
  have h1 := i.k.hg; have h2 := i.k.hgc; have h3 := i.k.hc
  exact ⟨⟨i.k.res.below b, i.k.rd.below b, i.k.but.trans (.of b), i.k.out.below b, h1, h2, h3⟩, i.own.keep fun k _ k2 => b.block k k2⟩
theorem RtK.below {w W W' : World} {g c : Nat} {o : StR} {s : Sc} (i : RtK w g c o s W) (b : Below W.heap.size W W') : RtK w g c o s W' := by
  have h1 := i.hg; have h2 := i.hgc; have h3 := i.hc
  exact ⟨i.res.below b, i.rd.below b, i.but.trans (.of b), i.out.below b, h1, h2, h3⟩
theorem RtK.put {w W : World} {g c : Nat} {o o' : StR} {s : Sc} (i : RtK w g c o s W) (j : Nat) (v : Value) (e : (stC o).setIfInBounds j v = stC o') (own : OwnSt W (c + 1) o') : RtI w g c o' s (W.setCell ⟨c, j, none⟩ v) := by
  have h1 := i.hg; have h2 := i.hgc; have h3 := i.hc
  have b : But c W (W.setCell ⟨c, j, none⟩ v) := (But.refl _ _).set j v
  exact ⟨⟨i.res.but b (by omega), i.rd.other (k := c) (by omega) b, i.but.new (k := c) (by omega) b, e ▸ i.out.set j v, h1, h2, h3⟩, own.keep fun k k1 k2 => b.block k k2 (by omega)⟩
theorem RtI.set {w W : World} {g c : Nat} {o o' : StR} {s : Sc} (i : RtI w g c o s W) (j : Nat) (v : Value) (e : (stC o).setIfInBounds j v = stC o') (hl : OwnSt W (c + 1) o → OwnSt W (c + 1) o') : RtI w g c o' s (W.setCell ⟨c, j, none⟩ v) := i.k.put j v e (hl i.own)
theorem RtI.fin {w W : World} {g c : Nat} {o : StR} {s : Sc} (i : RtI w g c o s W) (ds : Array Value) (_hgl : g < w.heap.size ∨ w.heap.size < g) :
    OwnSt (W.setRow w.heap.size ds) w.heap.size o ∧ But g w (W.setRow w.heap.size ds) ∧ (g < w.heap.size → SnS (W.setRow w.heap.size ds) g s) := by
  have h1 := i.k.hg; have h2 := i.k.hgc; have h3 := i.k.hc
  refine ⟨(i.own.keep fun k k1 k2 => setRow_other _ _ k _ (by omega)).base (by omega), i.k.but.new (Nat.le_refl _) ((But.refl _ _).setRow ds), fun hg => i.k.rd.other hg ((But.refl _ _).setRow ds)⟩
end

/- SnReadD: What the document's Read answers, of any bytes. -/
section
set_option maxRecDepth 100000
open Go.RowKit Go.ChangeShapes Go.WideShapes Go.ChangeAt
attribute [local go_sem ↓] ldOr stOr alOr bxOr bdOr ldBa stBa alBa bxBa bdBa ldSt stSt alSt bxSt bdSt bsOr3 bsBa3
attribute [local go_sem] al_or bx_or st_ornew bd_or al_ba bx_ba st_banew bd_ba al_sta bx_sta st_stnew bd_sta bs_or3 bs_ba3

/-- An order is taken, or none. -/
structure TakeOrD (W : World) (g : Nat) (s : Sc) : Prop where
  no : takeV s = none → Calls Tryz.prog 75 #[.pointer (some ⟨g, 0, none⟩)] W (fun e w' => ∃ x : OdR, e = .returned (.tuple #[orV x, .int .i64 101]) ∧ SnS w' g (takeS s).2 ∧ But g W w')
  yes : ∀ {o : Od}, takeV s = some o → Calls Tryz.prog 75 #[.pointer (some ⟨g, 0, none⟩)] W (fun e w' => ∃ x : OdR, e = .returned (.tuple #[orV x, .int .i64 0]) ∧ x.o = o ∧ OwnL w' W.heap.size (.slice x.a x.o.ls.length x.c) x.o.ls ∧ SnS w' g (takeS s).2 ∧ But g W w')
theorem takeOrD (W : World) (g : Nat) (s : Sc) (h : SnS W g s) : TakeOrD W g s := by
  have C := refTakeO_any W g s h
  refine ⟨fun ht => C.mono ?_, fun ht => C.mono ?_⟩
  · rintro e w' ⟨a, c, rfl, _, r, b⟩
    exact ⟨⟨takeO s, a, c⟩, by rw [takeV_no ht]; rfl, r, b⟩
  · rintro e w' ⟨a, c, rfl, ow, r, b⟩
    obtain ⟨h1, h2, _⟩ := takeV_yes ht
    exact ⟨⟨takeO s, a, c⟩, by rw [h2]; rfl, h1, ow, r, b⟩
structure TakeBaD (W : World) (g : Nat) (s : Sc) : Prop where
  no : takeBV s = none → Calls Tryz.prog 76 #[.pointer (some ⟨g, 0, none⟩)] W (fun e w' => ∃ x : BtR, e = .returned (.tuple #[baV x, .bool false]) ∧ SnS w' g (takeB s).2 ∧ But g W w')
  yes : ∀ {o : Bt}, takeBV s = some o → Calls Tryz.prog 76 #[.pointer (some ⟨g, 0, none⟩)] W (fun e w' => ∃ x : BtR, e = .returned (.tuple #[baV x, .bool true]) ∧ x.b = o ∧ OwnT w' W.heap.size (.slice x.a x.b.mem.length x.c) x.b.mem ∧ SnS w' g (takeB s).2 ∧ But g W w')
theorem takeBaD (W : World) (g : Nat) (s : Sc) (h : SnS W g s) : TakeBaD W g s := by
  have C := refBtTake_any W g s h
  refine ⟨fun ht => C.mono ?_, fun ht => C.mono ?_⟩
  · rintro e w' ⟨a, c, rfl, _, r, b⟩
    exact ⟨⟨takeBO s, a, c⟩, by rw [ht]; rfl, r, b⟩
  · rintro e w' ⟨a, c, rfl, ow, r, b⟩
    exact ⟨⟨takeBO s, a, c⟩, by rw [ht]; rfl, (takeBV_yes ht).1, ow, r, b⟩

/-- The result's variable alone. -/
structure RtN (w : World) (W : World) : Prop where
  res : Row W w.heap.size 37 (stC noStR)
  low : w.heap.size ≤ w.heap.size → Below w.heap.size w W
theorem RtK.low {w W : World} {g c : Nat} {o : StR} {s : Sc} (i : RtK w g c o s W) (h : w.heap.size < g) : Below w.heap.size w W := i.but.below (by omega) (Nat.le_refl _)
set_option maxHeartbeats 16000000 in
theorem refRead_any (a : Option Addr) (cap : Nat) (l : List Nat) (w : World) (h : BytesP w a cap l) (hl : l.length ≤ 1000000) : Calls Tryz.prog 24 #[.slice a l.length cap] w (ReadPost l w) := by
  have HBy := Lib.hid h.byte
  have K : Hid (RtI w (w.heap.size + 1) (w.heap.size + 1 + 1) noStR (some l) (((w.alloc (.cells (stC noStR) 37)).alloc (.cells #[.slice a l.length cap, .bool true] 84)).alloc (.cells (stC noStR) 37))) := Lib.hid (by
    have s0 := sn_new h (.cells (stC noStR) 37)
    have bb := (Below.refl ((w.alloc (.cells (stC noStR) 37)).alloc (.cells #[.slice a l.length cap, .bool true] 84)).heap.size ((w.alloc (.cells (stC noStR) 37)).alloc (.cells #[.slice a l.length cap, .bool true] 84))).alloc (Nat.le_refl _) (.cells (stC noStR) 37)
    have bt : Below w.heap.size w (((w.alloc (.cells (stC noStR) 37)).alloc (.cells #[.slice a l.length cap, .bool true] 84)).alloc (.cells (stC noStR) 37)) := (((Below.refl w.heap.size w).alloc (Nat.le_refl _) _).alloc (by simp) _).alloc (by simp; omega) _
    have R := Row.new ((w.alloc (.cells (stC noStR) 37)).alloc (.cells #[.slice a l.length cap, .bool true] 84)) (stC noStR) 37
    rw [show ((w.alloc (.cells (stC noStR) 37)).alloc (.cells #[.slice a l.length cap, .bool true] 84)).heap.size = w.heap.size + 1 + 1 by simp] at R
    exact ⟨⟨((Row.new w _ _).more _).more _, s0.below bb, .of bt, R, by omega, by omega, by omega⟩, OwnSt.none _ _⟩)
  have sn0 : StX 37 (.pointer (some ⟨w.heap.size + 2, 0, none⟩)) (stV noStR) (((w.alloc (.cells (stC noStR) 37)).alloc (.cells #[.slice a l.length cap, .bool true] 84)).alloc (.cells (stC noStR) 37)) = .ok .skip (((w.alloc (.cells (stC noStR) 37)).alloc (.cells #[.slice a l.length cap, .bool true] 84)).alloc (.cells (stC noStR) 37)) := by
    have q := st_stnew ((w.alloc (.cells (stC noStR) 37)).alloc (.cells #[.slice a l.length cap, .bool true] 84)) noStR
    rwa [show ((w.alloc (.cells (stC noStR) 37)).alloc (.cells #[.slice a l.length cap, .bool true] 84)).heap.size = w.heap.size + 2 by simp] at q
  have hcap := h.cap
  clear h
  go_enter Tryz.func24, Tryz.ntmps24
  go_wp2_with fail
  clear sn0
  generalize (((w.alloc (.cells (stC noStR) 37)).alloc (.cells #[.slice a l.length cap, .bool true] 84)).alloc (.cells (stC noStR) 37)) = W0 at *
  generalize hgw : w.heap.size + 1 = g at *
  generalize hcw : g + 1 = c at *
  have hgl : w.heap.size < g := by omega
  have y0 : BytesS (some l) := fun b e => by cases e; exact HBy.out
  rcases h1 : numS 64 (some l) with ⟨v1, s1⟩
  have C1 := Lib.hid (fun W hW => show Calls Tryz.prog 53 #[.pointer (some ⟨g, 0, none⟩), .int .u64 64] W (ScanS g (.int .i64 (v1 : Int)) s1 W) by have := scan_num W g (some l) 64 hW (by decide); rwa [h1] at this)
  have y1 : BytesS s1 := by have := numS_bytes y0 64; rwa [h1] at this
  have n1 : v1 ≤ 64 := by have := numS_le 64 (some l) y0; rwa [h1] at this
  rcases h2 : numS 1000000000000 s1 with ⟨v2, s2⟩
  have C2 := Lib.hid (fun W hW => show Calls Tryz.prog 53 #[.pointer (some ⟨g, 0, none⟩), .int .u64 1000000000000] W (ScanS g (.int .i64 (v2 : Int)) s2 W) by have := scan_num W g s1 1000000000000 hW (by decide); rwa [h2] at this)
  have y2 : BytesS s2 := by have := numS_bytes y1 1000000000000; rwa [h2] at this
  have n2 : v2 ≤ 1000000000000 := by have := numS_le 1000000000000 s1 y1; rwa [h2] at this
  rcases h3 : numS 64 s2 with ⟨v3, s3⟩
  have C3 := Lib.hid (fun W hW => show Calls Tryz.prog 53 #[.pointer (some ⟨g, 0, none⟩), .int .u64 64] W (ScanS g (.int .i64 (v3 : Int)) s3 W) by have := scan_num W g s2 64 hW (by decide); rwa [h3] at this)
  have y3 : BytesS s3 := by have := numS_bytes y2 64; rwa [h3] at this
  have n3 : v3 ≤ 64 := by have := numS_le 64 s2 y2; rwa [h3] at this
  rcases h4 : numS 1000000000000 s3 with ⟨v4, s4⟩
  have C4 := Lib.hid (fun W hW => show Calls Tryz.prog 53 #[.pointer (some ⟨g, 0, none⟩), .int .u64 1000000000000] W (ScanS g (.int .i64 (v4 : Int)) s4 W) by have := scan_num W g s3 1000000000000 hW (by decide); rwa [h4] at this)
  have y4 : BytesS s4 := by have := numS_bytes y3 1000000000000; rwa [h4] at this
  have n4 : v4 ≤ 1000000000000 := by have := numS_le 1000000000000 s3 y3; rwa [h4] at this
  rcases h5 : numS 100 s4 with ⟨v5, s5⟩
  have C5 := Lib.hid (fun W hW => show Calls Tryz.prog 53 #[.pointer (some ⟨g, 0, none⟩), .int .u64 100] W (ScanS g (.int .i64 (v5 : Int)) s5 W) by have := scan_num W g s4 100 hW (by decide); rwa [h5] at this)
  have y5 : BytesS s5 := by have := numS_bytes y4 100; rwa [h5] at this
  have n5 : v5 ≤ 100 := by have := numS_le 100 s4 y4; rwa [h5] at this
  rcases h6 : numS 96 s5 with ⟨v6, s6⟩
  have C6 := Lib.hid (fun W hW => show Calls Tryz.prog 53 #[.pointer (some ⟨g, 0, none⟩), .int .u64 96] W (ScanS g (.int .i64 (v6 : Int)) s6 W) by have := scan_num W g s5 96 hW (by decide); rwa [h6] at this)
  have y6 : BytesS s6 := by have := numS_bytes y5 96; rwa [h6] at this
  have n6 : v6 ≤ 96 := by have := numS_le 96 s5 y5; rwa [h6] at this
  have HA := Lib.hid h1
  have HBb := Lib.hid h2
  have HC := Lib.hid h3
  have HD := Lib.hid h4
  have H5 := Lib.hid h5
  have H6 := Lib.hid h6
  have Y6 := Lib.hid y6
  clear h1 h2 h3 h4 h5 h6 y0 y1 y2 y3 y4 y5 y6 n1 n2 n3 n4 n5
  refine (C1.out _ K.out.k.rd).mono ?_
  rintro e w1 ⟨rfl, r2, b2⟩
  replace K := Lib.hid (K.out.call r2 b2)
  clear r2 b2 C1
  obtain ⟨⟨c0, c1, c2, c3, c4, c5⟩, c6, c7, c8, c9, c10, c11⟩ := K.out.k.out.st
  have ff := K.out.k.out.free 0
  replace K := Lib.hid (K.out.set 0 (.int .i64 (v1 : Int)) (o' := ⟨⟨(v1 : Int), 0⟩, ⟨0, 0⟩, 0, [], none, 0, 0, 0, 0, [], none, 0, [], none, 0, [], none, 0⟩) rfl (fun h => ⟨h.doors, h.ords, h.lns, h.bats, h.mems, h.effs⟩))
  go_wp2_with fail
  clear c0 c1 c2 c3 c4 c5 c6 c7 c8 c9 c10 c11
  clear ff
  generalize w1.setCell ⟨c, 0, none⟩ (.int .i64 (v1 : Int)) = W1 at *
  refine (C2.out _ K.out.k.rd).mono ?_
  rintro e w2 ⟨rfl, r2, b2⟩
  replace K := Lib.hid (K.out.call r2 b2)
  clear r2 b2 C2
  obtain ⟨⟨c0, c1, c2, c3, c4, c5⟩, c6, c7, c8, c9, c10, c11⟩ := K.out.k.out.st
  have ff := K.out.k.out.free 1
  replace K := Lib.hid (K.out.set 1 (.int .i64 (v2 : Int)) (o' := ⟨⟨(v1 : Int), (v2 : Int)⟩, ⟨0, 0⟩, 0, [], none, 0, 0, 0, 0, [], none, 0, [], none, 0, [], none, 0⟩) rfl (fun h => ⟨h.doors, h.ords, h.lns, h.bats, h.mems, h.effs⟩))
  go_wp2_with fail
  clear c0 c1 c2 c3 c4 c5 c6 c7 c8 c9 c10 c11
  clear ff
  generalize w2.setCell ⟨c, 1, none⟩ (.int .i64 (v2 : Int)) = W2 at *
  refine (C3.out _ K.out.k.rd).mono ?_
  rintro e w3 ⟨rfl, r2, b2⟩
  replace K := Lib.hid (K.out.call r2 b2)
  clear r2 b2 C3
  obtain ⟨⟨c0, c1, c2, c3, c4, c5⟩, c6, c7, c8, c9, c10, c11⟩ := K.out.k.out.st
  have ff := K.out.k.out.free 2
  replace K := Lib.hid (K.out.set 2 (.int .i64 (v3 : Int)) (o' := ⟨⟨(v1 : Int), (v2 : Int)⟩, ⟨(v3 : Int), 0⟩, 0, [], none, 0, 0, 0, 0, [], none, 0, [], none, 0, [], none, 0⟩) rfl (fun h => ⟨h.doors, h.ords, h.lns, h.bats, h.mems, h.effs⟩))
  go_wp2_with fail
  clear c0 c1 c2 c3 c4 c5 c6 c7 c8 c9 c10 c11
  clear ff
  generalize w3.setCell ⟨c, 2, none⟩ (.int .i64 (v3 : Int)) = W3 at *
  refine (C4.out _ K.out.k.rd).mono ?_
  rintro e w4 ⟨rfl, r2, b2⟩
  replace K := Lib.hid (K.out.call r2 b2)
  clear r2 b2 C4
  obtain ⟨⟨c0, c1, c2, c3, c4, c5⟩, c6, c7, c8, c9, c10, c11⟩ := K.out.k.out.st
  have ff := K.out.k.out.free 3
  replace K := Lib.hid (K.out.set 3 (.int .i64 (v4 : Int)) (o' := ⟨⟨(v1 : Int), (v2 : Int)⟩, ⟨(v3 : Int), (v4 : Int)⟩, 0, [], none, 0, 0, 0, 0, [], none, 0, [], none, 0, [], none, 0⟩) rfl (fun h => ⟨h.doors, h.ords, h.lns, h.bats, h.mems, h.effs⟩))
  go_wp2_with fail
  clear c0 c1 c2 c3 c4 c5 c6 c7 c8 c9 c10 c11
  clear ff
  generalize w4.setCell ⟨c, 3, none⟩ (.int .i64 (v4 : Int)) = W4 at *
  refine (C5.out _ K.out.k.rd).mono ?_
  rintro e w5 ⟨rfl, r2, b2⟩
  replace K := Lib.hid (K.out.call r2 b2)
  clear r2 b2 C5
  obtain ⟨⟨c0, c1, c2, c3, c4, c5⟩, c6, c7, c8, c9, c10, c11⟩ := K.out.k.out.st
  have ff := K.out.k.out.free 4
  replace K := Lib.hid (K.out.set 4 (.int .i64 (v5 : Int)) (o' := ⟨⟨(v1 : Int), (v2 : Int)⟩, ⟨(v3 : Int), (v4 : Int)⟩, (v5 : Int), [], none, 0, 0, 0, 0, [], none, 0, [], none, 0, [], none, 0⟩) rfl (fun h => ⟨h.doors, h.ords, h.lns, h.bats, h.mems, h.effs⟩))
  go_wp2_with fail
  clear c0 c1 c2 c3 c4 c5 c6 c7 c8 c9 c10 c11
  clear ff
  generalize w5.setCell ⟨c, 4, none⟩ (.int .i64 (v5 : Int)) = W5 at *
  refine (C6.out _ K.out.k.rd).mono ?_
  rintro e w6 ⟨rfl, r2, b2⟩
  replace K := Lib.hid (K.out.call r2 b2)
  clear r2 b2 C6
  go_wp2_with fail
  go_loopw [6] (fun i wr => ∃ (k : Nat) (acc : List Int) (av : Option Addr) (cv : Nat) (sk : Sc), k ≤ v6 ∧ i = .int .i64 ((v6 : Int) - (k : Int)) ∧ Hid (RtI w g c (⟨⟨(v1 : Int), (v2 : Int)⟩, ⟨(v3 : Int), (v4 : Int)⟩, (v5 : Int), acc, av, cv, 0, 0, 0, [], none, 0, [], none, 0, [], none, 0⟩ : StR) sk wr) ∧ acc.length = k ∧ Hid (BytesS sk) ∧ Hid (doorsS 96 v6 s6 = (acc ++ (doorsS 96 (v6 - k) sk).1, (doorsS 96 (v6 - k) sk).2))) (fun i _ => (intOf i).toNat)
  case atStart => exact ⟨0, [], none, 0, s6, Nat.zero_le _, by simp, K, rfl, Y6, Lib.hid (by simp)⟩
  case round =>
    clear K
    obtain ⟨k, acc, av, cv, sk, hk, rfl, K, hac, HB, HL⟩ := hrel
    by_cases hlt : k < v6
    · have hgt : (0 : Int) < (v6 : Int) - (k : Int) := by omega
      rcases hx : numS 96 sk with ⟨x, sx⟩
      have hsx : BytesS sx := by have := numS_bytes HB.out 96; rwa [hx] at this
      have hxl : x ≤ 96 := by have := numS_le 96 sk HB.out; rwa [hx] at this
      have HN := Lib.hid (show doorsS 96 v6 s6 = ((acc ++ [(x : Int)]) ++ (doorsS 96 (v6 - (k + 1)) sx).1, (doorsS 96 (v6 - (k + 1)) sx).2) by
        rw [HL.out, show v6 - k = (v6 - (k + 1)) + 1 by omega, doorsS, hx]; simp)
      have HX := Lib.hid hsx
      have HK1 := Lib.hid (show (acc ++ [(x : Int)]).length = k + 1 by rw [List.length_append, hac]; rfl)
      have C := Lib.hid (fun W hW => show Calls Tryz.prog 53 #[.pointer (some ⟨g, 0, none⟩), .int .u64 96] W (ScanS g (.int .i64 (x : Int)) sx W) by have := scan_num W g sk 96 hW (by decide); rwa [hx] at this)
      have hw := i64_small hxl (by decide)
      clear hx hsx hxl
      have hck := K.out.k.hc
      have hcg := K.out.k.hgc
      have RW := Lib.hid (K.out.k.far (Nat.lt_succ_self c) (But.drew _ _))
      have ON := K.out.own
      have OW : Hid (OwnI wr.drew (c + 1) (.slice av k cv) acc) := Lib.hid (by have q : OwnI wr.drew (c + 1) (.slice av acc.length cv) acc := row_else (w' := wr.drew) ON.doors (fun _ _ => rfl); rwa [hac] at q)
      have c5 : wr.cell? ⟨c, 5, none⟩ = some (.slice av k cv) := by have := K.out.k.out.st.1.2.2.2.2.2; dsimp only at this; rwa [hac] at this
      have vd : wr.drew.cell? ⟨c, 5, none⟩ = some (.slice av k cv) := by have := RW.out.out.st.1.2.2.2.2.2; dsimp only at this; rwa [hac] at this
      clear ON
      go_wp2_with fail
      go_region_law (first
        | ((try go_simp); go_at_call 53; refine (C.out _ RW.out.rd).mono ?_; rintro e w4 ⟨rfl, r4, b4⟩; have R4 := Lib.hid (RW.out.call r4 b4); have O4 : Hid (OwnI w4 (c + 1) (.slice av k cv) acc) := Lib.hid (row_else (w' := w4) OW.out fun x hx => b4.block _ (rowS_at OW.out x hx).2 (by have := (rowS_at OW.out x hx).1; omega)); have y1 : w4.cell? ⟨c, 5, none⟩ = some (.slice av k cv) := (by have := R4.out.out.st.1.2.2.2.2.2; dsimp only at this; rwa [hac] at this); have yz := R4.out.out.lt; clear r4 b4)
        | (refine step_append_int rfl (.tmp 45) (.tmp 48) rfl (c + 1) (.slice av k cv) acc [(x : Int)] (by simp [Act.eval]) (OwnI.below O4.out ((Below.refl _ _).alloc (Nat.le_refl _) _)) (some ⟨w4.heap.size, 0, none⟩) 1 (by simp [Act.eval]) (int_one w4 (x : Int)) (by simp; omega) (by have := R4.out.out.lt; simp; omega) ?_; intro v5 w5 o5 g5; obtain ⟨a5, p5, e5⟩ := OwnI.shape o5; rw [HK1.out] at e5; subst e5; have HG := Lib.hid g5; obtain ⟨q, hq, bq⟩ := But.grown g5 (OwnI.row O4.out); have R5 := Lib.hid ((R4.out.below ((Below.refl _ _).alloc (Nat.le_refl _) (.cells #[.int .i64 (x : Int)] 3))).far hq bq); have O5 := Lib.hid o5; have z1 : w5.cell? ⟨c, 5, none⟩ = some (.slice av k cv) := (by have := R5.out.out.st.1.2.2.2.2.2; dsimp only at this; rwa [hac] at this); have zf : w5.frozen? ⟨c, 5, none⟩ = false := R5.out.out.free 5; clear o5 g5 bq))
      all_goals
        have R6 := Lib.hid (R5.out.put 5 (.slice a5 (k + 1) p5) (o' := ⟨⟨(v1 : Int), (v2 : Int)⟩, ⟨(v3 : Int), (v4 : Int)⟩, (v5 : Int), (acc ++ [(x : Int)]), a5, p5, 0, 0, 0, [], none, 0, [], none, 0, [], none, 0⟩) (by rw [← HK1.out]; rfl) (ownSt_doors (by rw [HK1.out]; exact O5.out)))
        go_wp2_with fail
        go_roundw
        case rel => exact ⟨k + 1, acc ++ [(x : Int)], a5, p5, sx, by omega, by simp; omega, R6, HK1.out, HX, HN⟩
        case measure => simp [intOf]; omega
    · have hgt : ¬ (0 : Int) < (v6 : Int) - (k : Int) := by omega
      have HE := Lib.hid (show doorsS 96 v6 s6 = (acc, sk) by rw [HL.out, show v6 - k = 0 by omega, doorsS]; simp)
      subst hac
      have yk := HB.out
      rcases h7 : numS 1099511627776 sk with ⟨v7, s7⟩
      have C7 := Lib.hid (fun W hW => show Calls Tryz.prog 53 #[.pointer (some ⟨g, 0, none⟩), .int .u64 1099511627776] W (ScanS g (.int .i64 (v7 : Int)) s7 W) by have := scan_num W g sk 1099511627776 hW (by decide); rwa [h7] at this)
      have y7 : BytesS s7 := by have := numS_bytes yk 1099511627776; rwa [h7] at this
      have n7 : v7 ≤ 1099511627776 := by have := numS_le 1099511627776 sk yk; rwa [h7] at this
      rcases h8 : numS 1000000000000 s7 with ⟨v8, s8⟩
      have C8 := Lib.hid (fun W hW => show Calls Tryz.prog 53 #[.pointer (some ⟨g, 0, none⟩), .int .u64 1000000000000] W (ScanS g (.int .i64 (v8 : Int)) s8 W) by have := scan_num W g s7 1000000000000 hW (by decide); rwa [h8] at this)
      have y8 : BytesS s8 := by have := numS_bytes y7 1000000000000; rwa [h8] at this
      have n8 : v8 ≤ 1000000000000 := by have := numS_le 1000000000000 s7 y7; rwa [h8] at this
      rcases h9 : numS 1000000000000 s8 with ⟨v9, s9⟩
      have C9 := Lib.hid (fun W hW => show Calls Tryz.prog 53 #[.pointer (some ⟨g, 0, none⟩), .int .u64 1000000000000] W (ScanS g (.int .i64 (v9 : Int)) s9 W) by have := scan_num W g s8 1000000000000 hW (by decide); rwa [h9] at this)
      have y9 : BytesS s9 := by have := numS_bytes y8 1000000000000; rwa [h9] at this
      have n9 : v9 ≤ 1000000000000 := by have := numS_le 1000000000000 s8 y8; rwa [h9] at this
      rcases h10 : numS 400 s9 with ⟨v10, s10⟩
      have C10 := Lib.hid (fun W hW => show Calls Tryz.prog 53 #[.pointer (some ⟨g, 0, none⟩), .int .u64 400] W (ScanS g (.int .i64 (v10 : Int)) s10 W) by have := scan_num W g s9 400 hW (by decide); rwa [h10] at this)
      have y10 : BytesS s10 := by have := numS_bytes y9 400; rwa [h10] at this
      have n10 : v10 ≤ 400 := by have := numS_le 400 s9 y9; rwa [h10] at this
      have HS := Lib.hid (show setS 96 (some l) = (⟨v1, v2, v3, v4, v5, acc, v7, v8, v9, 0⟩, s9) by simp only [setS, capsS, HA.out, HBb.out, HC.out, HD.out, H5.out, H6.out, HE.out, h7, h8, h9])
      have H1 := Lib.hid h10
      have Y10 := Lib.hid y10
      have HDl := Lib.hid (show acc.length ≤ 96 by omega)
      clear yk h7 y7 n7 h8 y8 n8 h9 y9 n9 h10 y10 HL HE HB HA HBb HC HD H5 H6 Y6
      obtain ⟨⟨c0, c1, c2, c3, c4, c5⟩, c6, c7, c8, c9, c10, c11⟩ := K.out.k.out.st
      go_wp2_with fail
      clear hk hlt hgt
      clear c0 c1 c2 c3 c4 c5 c6 c7 c8 c9 c10 c11
      refine (C7.out _ K.out.k.rd).mono ?_
      rintro e w7 ⟨rfl, r2, b2⟩
      replace K := Lib.hid (K.out.call r2 b2)
      clear r2 b2 C7
      obtain ⟨⟨c0, c1, c2, c3, c4, c5⟩, c6, c7, c8, c9, c10, c11⟩ := K.out.k.out.st
      have ff := K.out.k.out.free 6
      replace K := Lib.hid (K.out.set 6 (.int .i64 (v7 : Int)) (o' := ⟨⟨(v1 : Int), (v2 : Int)⟩, ⟨(v3 : Int), (v4 : Int)⟩, (v5 : Int), acc, av, cv, (v7 : Int), 0, 0, [], none, 0, [], none, 0, [], none, 0⟩) rfl (fun h => ⟨h.doors, h.ords, h.lns, h.bats, h.mems, h.effs⟩))
      go_wp2_with fail
      clear c0 c1 c2 c3 c4 c5 c6 c7 c8 c9 c10 c11
      clear ff
      generalize w7.setCell ⟨c, 6, none⟩ (.int .i64 (v7 : Int)) = W7 at *
      refine (C8.out _ K.out.k.rd).mono ?_
      rintro e w8 ⟨rfl, r2, b2⟩
      replace K := Lib.hid (K.out.call r2 b2)
      clear r2 b2 C8
      obtain ⟨⟨c0, c1, c2, c3, c4, c5⟩, c6, c7, c8, c9, c10, c11⟩ := K.out.k.out.st
      have ff := K.out.k.out.free 7
      replace K := Lib.hid (K.out.set 7 (.int .i64 (v8 : Int)) (o' := ⟨⟨(v1 : Int), (v2 : Int)⟩, ⟨(v3 : Int), (v4 : Int)⟩, (v5 : Int), acc, av, cv, (v7 : Int), (v8 : Int), 0, [], none, 0, [], none, 0, [], none, 0⟩) rfl (fun h => ⟨h.doors, h.ords, h.lns, h.bats, h.mems, h.effs⟩))
      go_wp2_with fail
      clear c0 c1 c2 c3 c4 c5 c6 c7 c8 c9 c10 c11
      clear ff
      generalize w8.setCell ⟨c, 7, none⟩ (.int .i64 (v8 : Int)) = W8 at *
      refine (C9.out _ K.out.k.rd).mono ?_
      rintro e w9 ⟨rfl, r2, b2⟩
      replace K := Lib.hid (K.out.call r2 b2)
      clear r2 b2 C9
      obtain ⟨⟨c0, c1, c2, c3, c4, c5⟩, c6, c7, c8, c9, c10, c11⟩ := K.out.k.out.st
      have ff := K.out.k.out.free 8
      replace K := Lib.hid (K.out.set 8 (.int .i64 (v9 : Int)) (o' := ⟨⟨(v1 : Int), (v2 : Int)⟩, ⟨(v3 : Int), (v4 : Int)⟩, (v5 : Int), acc, av, cv, (v7 : Int), (v8 : Int), (v9 : Int), [], none, 0, [], none, 0, [], none, 0⟩) rfl (fun h => ⟨h.doors, h.ords, h.lns, h.bats, h.mems, h.effs⟩))
      go_wp2_with fail
      clear c0 c1 c2 c3 c4 c5 c6 c7 c8 c9 c10 c11
      clear ff
      generalize w9.setCell ⟨c, 8, none⟩ (.int .i64 (v9 : Int)) = W9 at *
      refine (C10.out _ K.out.k.rd).mono ?_
      rintro e w10 ⟨rfl, r2, b2⟩
      replace K := Lib.hid (K.out.call r2 b2)
      clear r2 b2 C10
      generalize acc = dacc at *
      generalize av = dav at *
      generalize cv = dcv at *
      generalize wr = wo0 at *
      go_wp2_with fail
      go_loopw [7] (fun i wr => ∃ (k : Nat) (acc : List OdR) (av : Option Addr) (cv : Nat) (sk : Sc), k ≤ v10 ∧ i = .int .i64 ((v10 : Int) - (k : Int)) ∧ Hid (RtI w g c (⟨⟨(v1 : Int), (v2 : Int)⟩, ⟨(v3 : Int), (v4 : Int)⟩, (v5 : Int), dacc, dav, dcv, (v7 : Int), (v8 : Int), (v9 : Int), acc, av, cv, [], none, 0, [], none, 0⟩ : StR) sk wr) ∧ Hid (acc.length = k) ∧ Hid (BytesS sk) ∧ Hid (ordersO v10 s10 = (ordersO (v10 - k) sk).map fun p => (odsOf acc ++ p.1, p.2)) ∧ Hid (∀ y ∈ acc, (∀ x ∈ y.o.ls, x.sku.size ≤ 32) ∧ y.o.ls.length ≤ 8 ∧ y.o.id.size ≤ 32 ∧ y.o.car.size ≤ 32 ∧ y.o.zone.size ≤ 32 ∧ y.o.serv.size ≤ 32)) (fun i _ => (intOf i).toNat)
      case atStart => exact ⟨0, [], none, 0, s10, Nat.zero_le _, by simp, K, Lib.hid rfl, Y10, Lib.hid (by rw [Nat.sub_zero]; cases ordersO v10 s10 <;> rfl), Lib.hid (fun _ h => by cases h)⟩
      case round =>
        clear K
        obtain ⟨k, acc, av, cv, sk, hk, rfl, K, hac, HB, HL, HFi⟩ := hrel
        by_cases hlt : k < v10
        · have hgt : (0 : Int) < (v10 : Int) - (k : Int) := by omega
          have hkk : v10 - k = (v10 - (k + 1)) + 1 := by omega
          have C := Lib.hid (takeOrD wr g sk K.out.k.rd)
          have HLk := Lib.hid (hkk ▸ HL.out)
          cases ht : takeV sk with
          | none =>
            have HNo := Lib.hid (ordersO_stop HLk.out ht)
            have C := Lib.hid (C.out.no ht)
            clear HLk HL hkk ht
            go_wp2_with fail
            refine C.out.mono ?_
            rintro e w4 ⟨x, rfl, r4, b4⟩
            replace K := Lib.hid (K.out.call r4 b4)
            replace K := Lib.hid (K.out.below ((Below.refl w4.heap.size w4).alloc (Nat.le_refl _) (.cells (orC x) 93)))
            clear r4 b4 C
            have s1 := st_sta K.out.k.res noStR
            have HX := read_none (dm := 96) (bm := 1048576) (by decide) (by decide) HBy.out hl (read_noO 96 1048576 HS.out H1.out HNo.out)
            have s1 := st_sta K.out.k.res noStR
            go_wp2_with fail
            (try simp only [Exit.inBlock, Exit.then])
            apply bodyPost_ret
            case hd => rfl
            case hr => exact results_cell_one rfl _ _ w.heap.size _ rfl (load12 (setRow_heap _ _ _ _ _ _ K.out.k.res))
            case hR => exact ⟨noStR, by rw [HX.2]; rfl, by rw [HX.1]; rfl, StP.none _, Below.row (K.out.k.low hgl) (Nat.le_refl _) _⟩
          | some xo =>
            have HN := Lib.hid (ordersO_more HLk.out ht)
            have C := Lib.hid (C.out.yes ht)
            have hx1 := (takeV_yes ht)
            have hfx := takeS_fits HB.out
            have hsx := takeS_bytes HB.out
            clear HLk HL hkk ht
            go_wp2_with fail
            refine C.out.mono ?_
            rintro e w4 ⟨x, rfl, hx, ox, r4, b4⟩
            have hwr : c + 1 ≤ wr.heap.size := K.out.k.out.lt
            replace K := Lib.hid (K.out.call r4 b4)
            have al1 := (Below.refl w4.heap.size w4).alloc (Nat.le_refl _) (.cells (orC x) 93)
            have K4 := Lib.hid (K.out.below al1)
            have al2 := al1.trans (((Below.refl (w4.alloc (.cells (orC x) 93)).heap.size (w4.alloc (.cells (orC x) 93))).alloc (Nat.le_refl _) (.cells (orC x) 93)).mono (by simp))
            have K5 := Lib.hid (K.out.below al2)
            have OX : Hid (OwnL ((w4.alloc (.cells (orC x) 93)).alloc (.cells (orC x) 93)) (c + 1) (.slice x.a x.o.ls.length x.c) x.o.ls) := Lib.hid (row_base (OwnL.below ox al2) hwr)
            have T5 := Lib.hid (or_one (w4.alloc (.cells (orC x) 93)) (w4.heap.size + 1) (by simp) x)
            have HX1 := Lib.hid (show odsOf (acc ++ [x]) = odsOf acc ++ [xo] by rw [← hx]; simp [odsOf])
            have HF2 : Hid (∀ y ∈ acc ++ [x], (∀ x ∈ y.o.ls, x.sku.size ≤ 32) ∧ y.o.ls.length ≤ 8 ∧ y.o.id.size ≤ 32 ∧ y.o.car.size ≤ 32 ∧ y.o.zone.size ≤ 32 ∧ y.o.serv.size ≤ 32) := Lib.hid (fun y hy => by
              rcases List.mem_append.1 hy with hy | hy
              · exact HFi.out y hy
              · rw [List.mem_singleton.1 hy, hx, hx1.2.2]
                exact hfx)
            have HN := Lib.hid (show ordersO v10 s10 = (ordersO (v10 - (k + 1)) (takeS sk).2).map fun p => (odsOf (acc ++ [x]) ++ p.1, p.2) by rw [HX1.out]; exact HN.out)
            have HK1 := Lib.hid (show (acc ++ [x]).length = k + 1 by rw [List.length_append, hac.out]; rfl)
            have HX := Lib.hid hsx
            clear hx hx1 hfx hsx HX1 HFi r4 b4 ox al1 al2 hwr C
            have la := ld_or (Row.new w4 (orC x) 93)
            obtain ⟨⟨c0, c1, c2, c3, c4, c5⟩, c6, c7, c8, c9, c10, c11⟩ := K4.out.k.out.st
            have hle := hac.out
            have hlen : acc.length + [x].length ≤ 10000000 := by rw [hac.out]; simp; omega
            clear hle
            have OA : Hid (OwnS LO ((w4.alloc (.cells (orC x) 93)).alloc (.cells (orC x) 93)) (c + 1) (.slice av acc.length cv) acc) := Lib.hid K5.out.own.ords
            have hz5 : c + 1 ≤ ((w4.alloc (.cells (orC x) 93)).alloc (.cells (orC x) 93)).heap.size := K5.out.k.out.lt
            go_wp2_with (at_builtin; go_must (refine wpList_append_sl LO_ok rfl _ _ rfl (c + 1) (.slice av acc.length cv) acc [x] rfl OA.out (some ⟨w4.heap.size + 1, 0, none⟩) 1 rfl T5.out hlen hz5 ?_))
            rintro v7 w7 o7 g7
            obtain ⟨a7, p7, rfl⟩ := o7.shape
            obtain ⟨q, hq, bq⟩ := But.grown g7 OA.out.row
            have K7 := Lib.hid (K5.out.k.far hq bq)
            have O7 := Lib.hid (K5.out.own.order (y := x) (a := a7) (c := p7) OX.out o7 g7)
            clear o7 g7 bq c0 c1 c2 c3 c4 c5 c6 c7 c8 c9 c10 c11 la K4 K OA T5
            have K8 := Lib.hid (K7.out.put 9 (.slice a7 (acc.length + 1) p7) (o' := ⟨⟨(v1 : Int), (v2 : Int)⟩, ⟨(v3 : Int), (v4 : Int)⟩, (v5 : Int), dacc, dav, dcv, (v7 : Int), (v8 : Int), (v9 : Int), (acc ++ [x]), a7, p7, [], none, 0, [], none, 0⟩) (by rw [show acc.length + 1 = (acc ++ [x]).length by simp]; rfl) O7.out)
            obtain ⟨⟨c0, c1, c2, c3, c4, c5⟩, c6, c7, c8, c9, c10, c11⟩ := K7.out.out.st
            have ff := K7.out.out.free 9
            go_wp2_with fail
            clear c0 c1 c2 c3 c4 c5 c6 c7 c8 c9 c10 c11 ff
            go_roundw
            case rel => exact ⟨k + 1, acc ++ [x], a7, p7, (takeS sk).2, by omega, by simp; omega, K8, HK1, HX, HN, HF2⟩
            case measure => simp [intOf]; omega
        · have hgt : ¬ (0 : Int) < (v10 : Int) - (k : Int) := by omega
          have HE := Lib.hid (show ordersO v10 s10 = some (odsOf acc, sk) by rw [HL.out, show v10 - k = 0 by omega]; simp [ordersO_zero])
          have yk := HB.out
          rcases h11 : numS 1048576 sk with ⟨v11, s11⟩
          have C11 := Lib.hid (fun W hW => show Calls Tryz.prog 53 #[.pointer (some ⟨g, 0, none⟩), .int .u64 1048576] W (ScanS g (.int .i64 (v11 : Int)) s11 W) by have := scan_num W g sk 1048576 hW (by decide); rwa [h11] at this)
          have y11 : BytesS s11 := by have := numS_bytes yk 1048576; rwa [h11] at this
          have n11 : v11 ≤ 1048576 := by have := numS_le 1048576 sk yk; rwa [h11] at this
          have HE1 := Lib.hid (show ordersO v10 s10 = some (odsOf acc, sk) from HE.out)
          have H2 := Lib.hid h11
          have Y11 := Lib.hid y11
          have HFo := Lib.hid HFi.out
          have HMo := Lib.hid (show acc.length ≤ 400 by rw [hac.out]; omega)
          clear yk h11 y11 HE HL HB HFi hac
          go_wp2_with fail
          clear hgt
          refine (C11.out _ K.out.k.rd).mono ?_
          rintro e w11 ⟨rfl, r2, b2⟩
          replace K := Lib.hid (K.out.call r2 b2)
          clear r2 b2 C11
          clear hk hlt
          generalize acc = oacc at *
          generalize av = oav at *
          generalize cv = ocv at *
          generalize wr = wo1 at *
          go_wp2_with fail
          go_loopw [10] (fun i wr => ∃ (k : Nat) (acc : List BtR) (av : Option Addr) (cv : Nat) (sk : Sc), k ≤ v11 ∧ i = .int .i64 ((v11 : Int) - (k : Int)) ∧ Hid (RtI w g c (⟨⟨(v1 : Int), (v2 : Int)⟩, ⟨(v3 : Int), (v4 : Int)⟩, (v5 : Int), dacc, dav, dcv, (v7 : Int), (v8 : Int), (v9 : Int), oacc, oav, ocv, acc, av, cv, [], none, 0⟩ : StR) sk wr) ∧ Hid (acc.length = k) ∧ Hid (BytesS sk) ∧ Hid (batchesO v11 s11 = (batchesO (v11 - k) sk).map fun p => (btsOf acc ++ p.1, p.2)) ∧ Hid (∀ y ∈ acc, FitsB y.b)) (fun i _ => (intOf i).toNat)
          case atStart => exact ⟨0, [], none, 0, s11, Nat.zero_le _, by simp, K, Lib.hid rfl, Y11, Lib.hid (by rw [Nat.sub_zero]; cases batchesO v11 s11 <;> rfl), Lib.hid (fun _ h => by cases h)⟩
          case round =>
            clear K
            obtain ⟨k, acc, av, cv, sk, hk, rfl, K, hac, HB, HL, HFi⟩ := hrel
            by_cases hlt : k < v11
            · have hgt : (0 : Int) < (v11 : Int) - (k : Int) := by omega
              have hkk : v11 - k = (v11 - (k + 1)) + 1 := by omega
              have C := Lib.hid (takeBaD wr g sk K.out.k.rd)
              have HLk := Lib.hid (hkk ▸ HL.out)
              cases ht : takeBV sk with
              | none =>
                have HNo := Lib.hid (batchesO_stop HLk.out ht)
                have C := Lib.hid (C.out.no ht)
                clear HLk HL hkk ht
                go_wp2_with fail
                refine C.out.mono ?_
                rintro e w4 ⟨x, rfl, r4, b4⟩
                replace K := Lib.hid (K.out.call r4 b4)
                replace K := Lib.hid (K.out.below ((Below.refl w4.heap.size w4).alloc (Nat.le_refl _) (.cells (baC x) 98)))
                clear r4 b4 C
                have s1 := st_sta K.out.k.res noStR
                have HX := read_none (dm := 96) (bm := 1048576) (by decide) (by decide) HBy.out hl (read_noB 96 1048576 HS.out H1.out HE1.out H2.out HNo.out)
                have s1 := st_sta K.out.k.res noStR
                go_wp2_with fail
                (try simp only [Exit.inBlock, Exit.then])
                apply bodyPost_ret
                case hd => rfl
                case hr => exact results_cell_one rfl _ _ w.heap.size _ rfl (load12 (setRow_heap _ _ _ _ _ _ K.out.k.res))
                case hR => exact ⟨noStR, by rw [HX.2]; rfl, by rw [HX.1]; rfl, StP.none _, Below.row (K.out.k.low hgl) (Nat.le_refl _) _⟩
              | some xo =>
                have HN := Lib.hid (batchesO_more HLk.out ht)
                have C := Lib.hid (C.out.yes ht)
                have hx1 := (takeBV_yes ht)
                have hfx := takeB_fits HB.out
                have hsx := takeB_bytes HB.out
                clear HLk HL hkk ht
                go_wp2_with fail
                refine C.out.mono ?_
                rintro e w4 ⟨x, rfl, hx, ox, r4, b4⟩
                have hwr : c + 1 ≤ wr.heap.size := K.out.k.out.lt
                replace K := Lib.hid (K.out.call r4 b4)
                have al1 := (Below.refl w4.heap.size w4).alloc (Nat.le_refl _) (.cells (baC x) 98)
                have K4 := Lib.hid (K.out.below al1)
                have al2 := al1.trans (((Below.refl (w4.alloc (.cells (baC x) 98)).heap.size (w4.alloc (.cells (baC x) 98))).alloc (Nat.le_refl _) (.cells (baC x) 98)).mono (by simp))
                have K5 := Lib.hid (K.out.below al2)
                have OX : Hid (OwnT ((w4.alloc (.cells (baC x) 98)).alloc (.cells (baC x) 98)) (c + 1) (.slice x.a x.b.mem.length x.c) x.b.mem) := Lib.hid (row_base (OwnT.below ox al2) hwr)
                have T5 := Lib.hid (ba_one (w4.alloc (.cells (baC x) 98)) (w4.heap.size + 1) (by simp) x)
                have HX1 := Lib.hid (show btsOf (acc ++ [x]) = btsOf acc ++ [xo] by rw [← hx]; simp [btsOf])
                have HF2 : Hid (∀ y ∈ acc ++ [x], FitsB y.b) := Lib.hid (fun y hy => by
                  rcases List.mem_append.1 hy with hy | hy
                  · exact HFi.out y hy
                  · rw [List.mem_singleton.1 hy, hx, hx1.2]
                    exact hfx)
                have HN := Lib.hid (show batchesO v11 s11 = (batchesO (v11 - (k + 1)) (takeB sk).2).map fun p => (btsOf (acc ++ [x]) ++ p.1, p.2) by rw [HX1.out]; exact HN.out)
                have HK1 := Lib.hid (show (acc ++ [x]).length = k + 1 by rw [List.length_append, hac.out]; rfl)
                have HX := Lib.hid hsx
                clear hx hx1 hfx hsx HX1 HFi r4 b4 ox al1 al2 hwr C
                have la := ld_ba (Row.new w4 (baC x) 98)
                obtain ⟨⟨c0, c1, c2, c3, c4, c5⟩, c6, c7, c8, c9, c10, c11⟩ := K4.out.k.out.st
                have hle := hac.out
                have hlen : acc.length + [x].length ≤ 10000000 := by rw [hac.out]; simp; omega
                clear hle
                have OA : Hid (OwnS LB ((w4.alloc (.cells (baC x) 98)).alloc (.cells (baC x) 98)) (c + 1) (.slice av acc.length cv) acc) := Lib.hid K5.out.own.bats
                have hz5 : c + 1 ≤ ((w4.alloc (.cells (baC x) 98)).alloc (.cells (baC x) 98)).heap.size := K5.out.k.out.lt
                go_wp2_with (at_builtin; go_must (refine wpList_append_sl LB_ok rfl _ _ rfl (c + 1) (.slice av acc.length cv) acc [x] rfl OA.out (some ⟨w4.heap.size + 1, 0, none⟩) 1 rfl T5.out hlen hz5 ?_))
                rintro v7 w7 o7 g7
                obtain ⟨a7, p7, rfl⟩ := o7.shape
                obtain ⟨q, hq, bq⟩ := But.grown g7 OA.out.row
                have K7 := Lib.hid (K5.out.k.far hq bq)
                have O7 := Lib.hid (K5.out.own.batch (y := x) (a := a7) (c := p7) OX.out o7 g7)
                clear o7 g7 bq c0 c1 c2 c3 c4 c5 c6 c7 c8 c9 c10 c11 la K4 K OA T5
                have K8 := Lib.hid (K7.out.put 10 (.slice a7 (acc.length + 1) p7) (o' := ⟨⟨(v1 : Int), (v2 : Int)⟩, ⟨(v3 : Int), (v4 : Int)⟩, (v5 : Int), dacc, dav, dcv, (v7 : Int), (v8 : Int), (v9 : Int), oacc, oav, ocv, (acc ++ [x]), a7, p7, [], none, 0⟩) (by rw [show acc.length + 1 = (acc ++ [x]).length by simp]; rfl) O7.out)
                obtain ⟨⟨c0, c1, c2, c3, c4, c5⟩, c6, c7, c8, c9, c10, c11⟩ := K7.out.out.st
                have ff := K7.out.out.free 10
                go_wp2_with fail
                clear c0 c1 c2 c3 c4 c5 c6 c7 c8 c9 c10 c11 ff
                go_roundw
                case rel => exact ⟨k + 1, acc ++ [x], a7, p7, (takeB sk).2, by omega, by simp; omega, K8, HK1, HX, HN, HF2⟩
                case measure => simp [intOf]; omega
            · have hgt : ¬ (0 : Int) < (v11 : Int) - (k : Int) := by omega
              have HE := Lib.hid (show batchesO v11 s11 = some (btsOf acc, sk) by rw [HL.out, show v11 - k = 0 by omega]; simp [batchesO_zero])
              have HP := Lib.hid (read_parts 96 1048576 HS.out H1.out HE1.out H2.out HE.out)
              have CO := Lib.hid (refTake_more13 wr g sk K.out.k.rd)
              have HFe := Lib.hid (boxO_sizes HB.out)
              have HFb := Lib.hid HFi.out
              clear HE HL HB HFi hac HE1 H1 H2 HS
              go_wp2_with fail
              clear hgt
              refine CO.out.mono ?_
              rintro e w5 ⟨v5', rfl, o5, r5, b5⟩
              obtain ⟨ea, ec, rfl⟩ := o5.shape
              have hwr : c + 1 ≤ wr.heap.size := K.out.k.out.lt
              have O5 := Lib.hid (o5.base hwr)
              generalize hbv : boxV sk = bv at *
              have RES5 := Lib.hid (K.out.k.res.but b5 K.out.k.hg.symm)
              have OUT5 := Lib.hid (K.out.k.out.but b5 (by have := K.out.k.hgc; omega))
              have BUT5 := Lib.hid (K.out.k.but.trans b5)
              have hcc := K.out.k.hc
              cases hq : boxO sk with
              | none =>
                have HX := read_none (dm := 96) (bm := 1048576) (by decide) (by decide) HBy.out hl (show readS 96 1048576 (some l) = none by rw [HP.out, hq])
                clear r5 o5 O5 hq K
                obtain ⟨⟨c0, c1, c2, c3, c4, c5⟩, c6, c7, c8, c9, c10, c11⟩ := OUT5.out.st
                have ff := OUT5.out.free 11
                have bs : But c w5 (w5.setCell ⟨c, 11, none⟩ (.slice ea bv.length ec)) := (But.refl _ _).set 11 _
                have I : Hid (RtN w (w5.setCell ⟨c, 11, none⟩ (.slice ea bv.length ec))) := Lib.hid ⟨RES5.out.but bs (by omega), fun _ => (BUT5.out.new (k := c) (by omega) bs).below (by omega) (Nat.le_refl _)⟩
                have s1 := st_sta I.out.res noStR
                go_wp2_with fail
                (try simp only [Exit.inBlock, Exit.then])
                apply bodyPost_ret
                case hd => rfl
                case hr => exact results_cell_one rfl _ _ w.heap.size _ rfl (load12 (setRow_heap _ _ _ _ _ _ I.out.res))
                case hR => exact ⟨noStR, by rw [HX.2]; rfl, by rw [HX.1]; rfl, StP.none _, Below.row (I.out.low (Nat.le_refl _)) (Nat.le_refl _) _⟩
              | some bl =>
                have hb2 : bv = bl := by rw [← hbv]; unfold boxV; rw [hq]; rfl
                have HSome : Hid ((boxS sk).2.isSome = true) := Lib.hid (by obtain ⟨r, hr, _⟩ := boxO_some hq; rw [hr]; rfl)
                subst hb2
                have K5 := Lib.hid (K.out.call (r5 (by rw [hq]; rfl)) b5)
                have HP := Lib.hid (show readS 96 1048576 (some l) = some ((⟨⟨(v1 : Int), (v2 : Int)⟩, ⟨(v3 : Int), (v4 : Int)⟩, (v5 : Int), dacc, dav, dcv, (v7 : Int), (v8 : Int), (v9 : Int), oacc, oav, ocv, acc, av, cv, bv, ea, ec⟩ : StR).st, (boxS sk).2) by rw [HP.out, hq]; rfl)
                have FT : Hid (FitR (⟨⟨(v1 : Int), (v2 : Int)⟩, ⟨(v3 : Int), (v4 : Int)⟩, (v5 : Int), dacc, dav, dcv, (v7 : Int), (v8 : Int), (v9 : Int), oacc, oav, ocv, acc, av, cv, bv, ea, ec⟩)) := Lib.hid ⟨HDl.out, HMo.out, HFo.out, HFb.out, HFe.out⟩
                clear r5 o5 hq hbv RES5 OUT5 BUT5 hcc K
                obtain ⟨⟨c0, c1, c2, c3, c4, c5⟩, c6, c7, c8, c9, c10, c11⟩ := K5.out.k.out.st
                have ff := K5.out.k.out.free 11
                have K6 := Lib.hid (K5.out.k.put 11 (.slice ea bv.length ec) (o' := ⟨⟨(v1 : Int), (v2 : Int)⟩, ⟨(v3 : Int), (v4 : Int)⟩, (v5 : Int), dacc, dav, dcv, (v7 : Int), (v8 : Int), (v9 : Int), oacc, oav, ocv, acc, av, cv, bv, ea, ec⟩) rfl (K5.out.own.effects O5.out))
                clear K5 O5
                obtain ⟨sa, sc, sl, ok, r1, r2, r3, r4⟩ := K6.out.k.rd
                obtain ⟨⟨d0, d1⟩, _⟩ := cellsR2 r1
                have hscap := r2.cap
                have R4 := Lib.hid r4
                clear r1 r2 r3 r4
                have hok : ok = true ∨ ok = false := by cases ok <;> simp
                by_cases hs : sl = []
                · subst hs
                  cases ok with
                  | false =>
                    exfalso
                    have q := R4.out
                    have q2 := HSome.out
                    rw [q] at q2
                    cases q2
                  | true =>
                    have hq0 : ((boxS sk).2 == some []) = true := by rw [R4.out]; rfl
                    have la := ld_sta K6.out.k.out
                    have CR := Lib.hid (refRightS_any (⟨⟨(v1 : Int), (v2 : Int)⟩, ⟨(v3 : Int), (v4 : Int)⟩, (v5 : Int), dacc, dav, dcv, (v7 : Int), (v8 : Int), (v9 : Int), oacc, oav, ocv, acc, av, cv, bv, ea, ec⟩) _ (stP_own K6.out.own FT.out) (few_of HBy.out hl HP.out hq0 FT.out))
                    clear hok R4
                    go_wp2_with fail
                    refine CR.out.mono ?_
                    rintro e w9 ⟨rfl, b9⟩
                    have K9 := Lib.hid (K6.out.below b9)
                    clear la d0 d1 b9 CR
                    cases hx : rightS (⟨⟨(v1 : Int), (v2 : Int)⟩, ⟨(v3 : Int), (v4 : Int)⟩, (v5 : Int), dacc, dav, dcv, (v7 : Int), (v8 : Int), (v9 : Int), oacc, oav, ocv, acc, av, cv, bv, ea, ec⟩ : StR).st with
                    | false =>
                      have HX := read_not (dm := 96) (bm := 1048576) (by decide) (by decide) HBy.out hl HP.out (by rw [hx, Bool.and_false])
                      have s1 := st_sta K9.out.k.res noStR
                      go_wp2_with fail
                      (try simp only [Exit.inBlock, Exit.then])
                      apply bodyPost_ret
                      case hd => rfl
                      case hr => exact results_cell_one rfl _ _ w.heap.size _ rfl (load12 (setRow_heap _ _ _ _ _ _ K9.out.k.res))
                      case hR => exact ⟨noStR, by rw [HX.2]; rfl, by rw [HX.1]; rfl, StP.none _, Below.row (K9.out.k.low hgl) (Nat.le_refl _) _⟩
                    | true =>
                      have HX := read_yes (dm := 96) (bm := 1048576) (by decide) (by decide) HBy.out hl HP.out hq0 hx
                      have la := ld_sta K9.out.k.out
                      have s1 := st_sta K9.out.k.res (⟨⟨(v1 : Int), (v2 : Int)⟩, ⟨(v3 : Int), (v4 : Int)⟩, (v5 : Int), dacc, dav, dcv, (v7 : Int), (v8 : Int), (v9 : Int), oacc, oav, ocv, acc, av, cv, bv, ea, ec⟩)
                      go_wp2_with fail
                      (try simp only [Exit.inBlock, Exit.then])
                      apply bodyPost_ret
                      case hd => rfl
                      case hr => exact results_cell_one rfl _ _ w.heap.size _ rfl (load12 (setRow_heap _ _ _ _ _ _ K9.out.k.res))
                      case hR => exact ⟨⟨⟨(v1 : Int), (v2 : Int)⟩, ⟨(v3 : Int), (v4 : Int)⟩, (v5 : Int), dacc, dav, dcv, (v7 : Int), (v8 : Int), (v9 : Int), oacc, oav, ocv, acc, av, cv, bv, ea, ec⟩, by rw [HX.2]; rfl, HX.1.symm, stP_own (K9.out.own.keep fun k h1 h2 => setRow_other _ _ k _ (by have := K9.out.k.hc; omega)) FT.out, Below.row (K9.out.k.low hgl) (Nat.le_refl _) _⟩
                · have hpos := List.length_pos_iff.2 hs
                  have hpos2 : (0 : Int) < (sl.length : Int) := by omega
                  have HX := read_not (dm := 96) (bm := 1048576) (by decide) (by decide) HBy.out hl HP.out (by
                    have : ((boxS sk).2 == some []) = false := by
                      rw [R4.out]
                      cases ok with
                      | true => simpa using hs
                      | false => rfl
                    rw [this, Bool.false_and])
                  clear hs R4 hok
                  have s1 := st_sta K6.out.k.res noStR
                  go_wp2_with fail
                  (try simp only [Exit.inBlock, Exit.then])
                  apply bodyPost_ret
                  case hd => rfl
                  case hr => exact results_cell_one rfl _ _ w.heap.size _ rfl (load12 (setRow_heap _ _ _ _ _ _ K6.out.k.res))
                  case hR => exact ⟨noStR, by rw [HX.2]; rfl, by rw [HX.1]; rfl, StP.none _, Below.row (K6.out.k.low hgl) (Nat.le_refl _) _⟩
end

end Go.Proofs.YtfmpibmhhfmajaaGreatDoor
