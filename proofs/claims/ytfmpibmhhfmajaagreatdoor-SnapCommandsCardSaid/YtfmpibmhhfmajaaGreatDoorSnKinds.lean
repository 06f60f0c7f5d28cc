/- The table of what a command of each kind has, as the program's text lays it; partsOf, isKind, fits, isGroup and asNumber of package snap. -/
import Derived.Test.YtfmpibmhhfmajaaGreatDoorSnLay
import Derived.Test.YtfmpibmhhfmajaaGreatDoorPSc
import Derived.Test.YtfmpibmhhfmajaaGreatDoorRows
import Derived.LaidLaws
import Derived.LaidSub
import Derived.MakeChecks
import Derived.OpenShut
namespace Go.Proofs.YtfmpibmhhfmajaaGreatDoor
set_option maxRecDepth 100000
open Go.RowKit Go.ChangeShapes Go.WideShapes Go.ChangeAt

/-- What a command of a kind has: an Id, Lines, a Group, a Total, Yes; how great its Number is at most (0: it has none). -/
structure Pt where
  id : Bool
  ln : Bool
  gr : Bool
  tot : Bool
  yes : Bool
  most : Int
def ptOf (k : Int) : Pt :=
  if k = 1 then ⟨true, true, true, true, false, 0⟩ else if k = 2 then ⟨true, false, false, false, false, 0⟩ else if k = 3 then ⟨true, false, true, false, false, 0⟩
  else if k = 4 then ⟨false, false, false, false, false, 96⟩ else if k = 5 then ⟨false, false, false, false, true, 1000000000000⟩ else if k = 8 then ⟨true, false, false, false, false, 0⟩ else ⟨false, false, false, false, false, 0⟩
def ptL (p : Pt) : List Value := [.bool p.id, .bool p.ln, .bool p.gr, .bool p.tot, .bool p.yes, .int .i64 p.most]
def ptC (p : Pt) : Array Value := #[.bool p.id, .bool p.ln, .bool p.gr, .bool p.tot, .bool p.yes, .int .i64 p.most]
def ptV (p : Pt) : Value := .agg (ptC p)
def noPt : Pt := ⟨false, false, false, false, false, 0⟩
def cmdB (n : Int) : Bool := decide (1 ≤ n) && decide (n ≤ 8)
theorem ptOf_out {k : Int} (h : cmdB k = false) : ptOf k = noPt := by
  have : ¬ (1 ≤ k ∧ k ≤ 8) := by simpa [cmdB] using h
  unfold ptOf
  repeat' (first | rfl | (split; omega))
/-- The variable kinds lies as the program's text lays it. -/
def KdAt (w : World) : Prop := 0 < w.heap.size ∧ ∀ k : Nat, k < 9 → ∀ j v, (ptL (ptOf (k : Int)))[j]? = some v → w.cell? ⟨0, k * 6 + j, none⟩ = some v
theorem KdAt.below {w w' : World} (h : KdAt w) (b : Below w.heap.size w w') : KdAt w' :=
  ⟨Nat.lt_of_lt_of_le h.1 b.size, fun k hk j v hv => (b.cell (p := ⟨0, k * 6 + j, none⟩) h.1).trans (h.2 k hk j v hv)⟩

theorem KdAt.but {w w' : World} {g : Nat} (h : KdAt w) (b : But g w w') (hg : g ≠ 0) : KdAt w' := by
  have e := b.block 0 h.1 (fun e => hg e.symm)
  refine ⟨Nat.lt_of_lt_of_le h.1 b.size, fun k hk j v hv => ?_⟩
  rw [← h.2 k hk j v hv]
  simp only [World.cell?, e]
theorem cellsB4' : Tryz.prog.cellsOf 4 = 1 := by kernel_rfl
theorem cells2' : Tryz.prog.cellsOf 2 = 1 := by kernel_rfl
theorem cellsPt : Tryz.prog.cellsOf 61 = 6 := by kernel_rfl
theorem cellsKd : Tryz.prog.cellsOf 139 = 54 := by kernel_rfl
def ptD {H : Type} (p : Pt) : DataW H := .agg [.lit (.bool p.id), .lit (.bool p.ln), .lit (.bool p.gr), .lit (.bool p.tot), .lit (.bool p.yes), .lit (.int .i64 p.most)]
theorem parts_of_trod {H : Type} {enc : TypeId × Value → H} {w : World} {base : Nat} {sp : Nat → Bool} {held : Bool} {fuel : Nat} {cs : List Value} {pt : Pt} {p : List MemPlace}
    (h : DataW.trod enc Tryz.prog w base sp held fuel 61 cs = some (ptD pt, p)) : cs = ptL pt := by
  obtain ⟨xs, m, _, hx, hlen, hxl, hf⟩ := DataW.trod_struct Tryz.underlying61 h
  rw [cellsPt] at hlen
  match cs, hlen with
  | [c0, c1, c2, c3, c4, c5], _ =>
    have hx6 : xs.length = 6 := hxl
    match xs, hx6 with
    | [x0, x1, x2, x3, x4, x5], _ =>
      have h0 := hf 0 _ rfl
      have h1 := hf 1 _ rfl
      have h2 := hf 2 _ rfl
      have h3 := hf 3 _ rfl
      have h4 := hf 4 _ rfl
      have h5 := hf 5 _ rfl
      simp only [List.getElem?_cons_zero, List.getElem?_cons_succ] at h0 h1 h2 h3 h4 h5
      obtain ⟨b0, e0, d0⟩ := DataW.trod_bool Tryz.underlying4 h0
      obtain ⟨b1, e1, d1⟩ := DataW.trod_bool Tryz.underlying4 h1
      obtain ⟨b2, e2, d2⟩ := DataW.trod_bool Tryz.underlying4 h2
      obtain ⟨b3, e3, d3⟩ := DataW.trod_bool Tryz.underlying4 h3
      obtain ⟨b4, e4, d4⟩ := DataW.trod_bool Tryz.underlying4 h4
      obtain ⟨n5, e5, d5, _⟩ := DataW.trod_int Tryz.underlying2 h5
      simp [cellsB4', cells2'] at e0 e1 e2 e3 e4 e5
      subst e0 e1 e2 e3 e4 e5 d0 d1 d2 d3 d4 d5
      simp [ptD] at hx
      obtain ⟨⟨g0, g1, g2, g3, g4, g5⟩, _⟩ := hx
      simp only [ptL, g0, g1, g2, g3, g4, g5]
theorem kinds_laid {H : Type} : (Rows.laid_packhorse_snap_kinds : DataW H) = .agg ((List.range 9).map fun k : Nat => ptD (ptOf (k : Int))) := rfl
theorem kinds_of_laid {W : World} (h : laidMetH Tryz.prog Rows.snapNamesRow.laid W) : KdAt W := by
  rw [MakeChecks.laidMetH_plain _ _ _ (by kernel_rfl)] at h
  obtain ⟨ps, ⟨g', t', cs, fuel, p, q, hg', ht', hvar, hd, _, _⟩, _⟩ := h
  obtain rfl := Option.some.inj ((show Tryz.prog.globalNamed "packhorse/snap.kinds" = some 0 by kernel_rfl).symm.trans hg')
  obtain rfl := Option.some.inj ((show (Tryz.prog.globals[0]?).map (·.type) = some 139 by kernel_rfl).symm.trans ht')
  obtain ⟨xs, m, _, hx, hlen, hxl, hf⟩ := DataW.trod_array Tryz.underlying139 hd
  rw [kinds_laid] at hx
  simp only [Prod.mk.injEq, DataW.agg.injEq] at hx
  have hxs := hx.1
  rw [cellsKd] at hlen
  have hcell : ∀ k : Nat, k < 9 → ∀ j v, (ptL (ptOf (k : Int)))[j]? = some v → W.cell? ⟨0, k * 6 + j, none⟩ = some v := by
    intro k hk j v hv
    have hy : (xs.map (·.1))[k]? = some (ptD (ptOf (k : Int))) := by
      rw [← hxs]
      simp [hk]
    rw [List.getElem?_map] at hy
    obtain ⟨⟨y, q2⟩, hz, rfl⟩ := Option.map_eq_some_iff.1 hy
    have h1 := hf k hk
    rw [cellsPt, hz] at h1
    have h2 := parts_of_trod h1
    have hj : j < 6 := (List.getElem?_eq_some_iff.1 hv).1
    have := World.var?_cell (show Tryz.prog.globalNamed "packhorse/snap.kinds" = some 0 by kernel_rfl) hvar (k * 6 + j)
    rw [this, ← Array.getElem?_toList, ← hv, ← h2, List.getElem?_take, if_pos hj, List.getElem?_drop]
  refine ⟨?_, hcell⟩
  have h0 := hcell 0 (by omega) 0 _ rfl
  rcases Nat.lt_or_ge 0 W.heap.size with h | h
  · exact h
  · simp [World.cell?, Array.getElem?_eq_none h] at h0

section
variable (ev : Operand → Value) (d : Option Tmp) (ty : TypeId) (pos : String) (af : Array Edge) (gd : Option (Nat × Bool)) (w : World)
theorem ldPt (x : Operand) : (execOp ev ⟨d, .load 61 x, ty, pos, af, gd⟩).run Tryz.prog w = LdX 61 (ev x) w := rfl
theorem stPt (x y : Operand) : (execOp ev ⟨d, .store 61 x y, ty, pos, af, gd⟩).run Tryz.prog w = StX 61 (ev x) (ev y) w := rfl
theorem alPt : (execOp ev ⟨d, .alloc 61, ty, pos, af, gd⟩).run Tryz.prog w = AlX 61 w := rfl
theorem bdPt (ps : Array (Nat × Operand)) : (execOp ev ⟨d, .build 61 ps, ty, pos, af, gd⟩).run Tryz.prog w = BdX 61 (ps.map fun (i, x) => (i, ev x)) w := rfl
theorem bd_pt : BdX 61 #[] w = .ok (.value (ptV noPt)) w := by kernel_rfl
theorem zeroPt (W : World) : (zeroValue 61).run Tryz.prog W = .ok (.agg (ptC noPt)) W := by kernel_rfl
theorem al_pt : AlX 61 w = .ok (.value (.pointer (some ⟨w.heap.size, 0, none⟩))) (w.alloc (.cells (ptC noPt) 61)) := al_any _ _ w zeroPt
end
theorem sizePt (p : Pt) : (Tryz.prog.info? 61).map (·.size) = some (ptC p).size := by
  show _ = some 6
  kernel_rfl
theorem st_pt {W : World} {g : Nat} {o : Pt} (h : Row W g 61 (ptC o)) (p : Pt) : StX 61 (.pointer (some ⟨g, 0, none⟩)) (ptV p) W = .ok .skip (W.setRow g (ptC p)) := by
  have := run_storeVar_row (P := Tryz.prog) W g 61 61 (ptC o) (ptC p) h (sizePt p) rfl (by simp [ptC, Value.oneCell'])
  simp only [StX, Instr.storeAt, Instr.sureAddr, Sem.run_bind, Sem.run_pure, Result.andThen_ok, ptV]
  rw [this]
  rfl
theorem st_ptnew (W : World) (p : Pt) : StX 61 (.pointer (some ⟨W.heap.size, 0, none⟩)) (ptV p) (W.alloc (.cells (ptC noPt) 61)) = .ok .skip (W.alloc (.cells (ptC p) 61)) := by
  rw [st_pt (Row.new W (ptC noPt) 61) p, alloc_setRow]
theorem Row.pt {W : World} {g : Nat} {p : Pt} (h : Row W g 61 (ptC p)) :
    W.cell? ⟨g, 0, none⟩ = some (.bool p.id) ∧ W.cell? ⟨g, 1, none⟩ = some (.bool p.ln) ∧ W.cell? ⟨g, 2, none⟩ = some (.bool p.gr) ∧ W.cell? ⟨g, 3, none⟩ = some (.bool p.tot) ∧ W.cell? ⟨g, 4, none⟩ = some (.bool p.yes) ∧ W.cell? ⟨g, 5, none⟩ = some (.int .i64 p.most) :=
  ⟨h.cell 0, h.cell 1, h.cell 2, h.cell 3, h.cell 4, h.cell 5⟩
theorem isAggPt (W : World) : (isAgg 61).run Tryz.prog W = .ok true W := by kernel_rfl
theorem sizeOfPt (W : World) : (sizeOf 61).run Tryz.prog W = .ok 6 W := by kernel_rfl
theorem ld_kind {W : World} (h : KdAt W) {k : Nat} (hk : k < 9) : LdX 61 (.pointer (some ⟨0, k * 6, none⟩)) W = .ok (.value (ptV (ptOf (k : Int)))) W :=
  ld_cells (b := 0) (o := k * 6) 61 (ptL (ptOf (k : Int))) (h.2 k hk) isAggPt sizeOfPt

attribute [local go_sem ↓] ldPt stPt alPt bdPt
attribute [local go_sem] al_pt st_ptnew bd_pt

set_option maxHeartbeats 1000000 in
theorem isKind_any (n : Int) (w : World) : Calls Tryz.prog 33 #[.int .i64 n] w (BoolSame (cmdB n) w) := by
  have HE := Lib.hid (show cmdB n = (decide (1 ≤ n) && decide (n ≤ 8)) from rfl)
  cases h1 : decide (1 ≤ n) <;> cases h2 : decide (n ≤ 8)
  all_goals
    rw [h1, h2] at HE
    go_enter Tryz.func33, Tryz.ntmps33
    go_wp2_with fail
    go_ret
    exact ⟨by rw [HE.out]; rfl, rfl⟩
def NumSame (n : Nat) (w : World) (e : Ending) (w' : World) : Prop := e = .returned (.int .u64 (n : Int)) ∧ w = w'
theorem asNumber_any (b : Bool) (w : World) : Calls Tryz.prog 49 #[.bool b] w (NumSame (givenN b) w) := by
  cases b
  all_goals
    go_enter Tryz.func49, Tryz.ntmps49
    go_wp2_with fail
    go_ret
    exact ⟨rfl, rfl⟩
def PartB (k : Int) (w : World) (e : Ending) (w' : World) : Prop := e = .returned (ptV (ptOf k)) ∧ Below w.heap.size w w'
set_option maxHeartbeats 2000000 in
theorem partsOf_any (k : Int) (w : World) (h : KdAt w) : Calls Tryz.prog 32 #[.int .i64 k] w (PartB k w) := by
  have C := Lib.hid (isKind_any k)
  have b := (Below.refl w.heap.size w).alloc (Nat.le_refl _) (.cells (ptC noPt) 61)
  have R := Lib.hid (Row.new w (ptC noPt) 61)
  have K := Lib.hid (h.below b)
  have B := Lib.hid b
  clear h b
  cases hq : cmdB k with
  | false =>
    rw [hq] at C
    have HX := Lib.hid (ptOf_out hq)
    have s1 := st_pt R.out noPt
    go_enter Tryz.func32, Tryz.ntmps32
    go_wp2_with (go_at_call 33; refine (C.out _).mono ?_; rintro e w' ⟨rfl, rfl⟩)
    (try simp only [Exit.inBlock, Exit.then])
    apply bodyPost_ret
    case hd => rfl
    case hr => exact results_cell_row rfl _ _ w.heap.size 61 _ (0, 0) _ rfl (setRow_heap _ _ _ _ _ _ R.out) Tryz.underlying61 rfl (sizePt _)
    case hR => exact ⟨by rw [HX.out]; rfl, Below.row B.out (Nat.le_refl _) _⟩
  | true =>
    rw [hq] at C
    obtain ⟨n, rfl⟩ : ∃ n : Nat, k = (n : Int) := ⟨k.toNat, by have : 1 ≤ k ∧ k ≤ 8 := by simpa [cmdB] using hq
                                                               omega⟩
    have hn : n < 9 := by have : (1 : Int) ≤ n ∧ (n : Int) ≤ 8 := by simpa [cmdB] using hq
                          omega
    have l1 := ld_kind K.out hn
    have s1 := st_pt R.out (ptOf (n : Int))
    go_enter Tryz.func32, Tryz.ntmps32
    go_wp2_with (go_at_call 33; refine (C.out _).mono ?_; rintro e w' ⟨rfl, rfl⟩)
    (try simp only [Exit.inBlock, Exit.then])
    apply bodyPost_ret
    case hd => rfl
    case hr => exact results_cell_row rfl _ _ w.heap.size 61 _ (0, 0) _ rfl (setRow_heap _ _ _ _ _ _ R.out) Tryz.underlying61 rfl (sizePt _)
    case hR => exact ⟨rfl, Below.row B.out (Nat.le_refl _) _⟩
end Go.Proofs.YtfmpibmhhfmajaaGreatDoor
