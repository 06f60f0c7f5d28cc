/- What linesAsBytes of package snap answers, at lines that can be. -/
import Derived.Test.YtfmpibmhhfmajaaGreatDoorPOr
import Derived.Test.YtfmpibmhhfmajaaGreatDoorSnLay
namespace Go.Proofs.YtfmpibmhhfmajaaGreatDoor
set_option maxRecDepth 100000
open Go.RowKit Go.ChangeShapes Go.WideShapes Go.ChangeAt

/-- The bytes so far, in a row of the call's own. -/
structure LsI (w : World) (acc : List Nat) (v : Value) (W : World) : Prop where
  own : OwnB W w.heap.size v acc
  low : Below w.heap.size w W
  few : w.heap.size ≤ W.heap.size
theorem LsI.below {w W W' : World} {acc : List Nat} {v : Value} (h : LsI w acc v W) (b : Below W.heap.size W W') : LsI w acc v W' := ⟨h.own.below b, h.low.trans (b.mono h.low.size), Nat.le_trans h.few b.size⟩
theorem LsI.put {w W W' : World} {acc acc' : List Nat} {v v' : Value} (h : LsI w acc v W) (own : OwnB W' w.heap.size v' acc') (g : W.grownBy W' v.ownBlock) : LsI w acc' v' W' :=
  ⟨own, h.low.grown g h.low.size h.own.row, Nat.le_trans h.few g.size⟩

set_option maxHeartbeats 8000000 in
theorem linesBytes_any (a : Option Addr) (cap : Nat) (l : List Ln) (w : World) (hL : LnsP w a cap l) (hr : ∀ x ∈ l, lineB x = true) (hn : l.length ≤ 8) :
    Calls Tryz.prog 48 #[.slice a l.length cap] w (OwnPost (numL l.length ++ linesL l) w) := by
  have HLN := Lib.hid hL
  have HLB := Lib.hid hr
  obtain ⟨y2, hy2⟩ : ∃ y, numsL [l.length] = y := ⟨_, rfl⟩
  have hy2l : y2.length ≤ 10 := by rw [← hy2]; exact numsL_len [l.length] (by intro n hn; simp at hn; omega)
  have C2 := Lib.hid (fun a2 c2 W h => numN a2 c2 [l.length] W h (by simp) y2 hy2)
  have Y2 := Lib.hid (show Bytes y2 by rw [← hy2]; exact numsL_bytes _)
  have HF := Lib.hid (show numL l.length ++ linesL l = y2 ++ linesL l by rw [← hy2]; simp [numsL])
  have hn2 : IntKind.u64.wrap (l.length : Int) = (l.length : Int) := by rw [IntKind.wrap_u64]; omega
  have T3 := Lib.hid (nums_one l.length (by omega) w)
  have B3 : Hid (Below w.heap.size w (w.alloc (Obj.cells #[Value.int IntKind.u64 (l.length : Int)] 74))) := Lib.hid ((Below.refl _ w).alloc (Nat.le_refl _) _)
  have hz : w.heap.size ≤ (w.alloc (Obj.cells #[Value.int IntKind.u64 (l.length : Int)] 74)).heap.size := by simp
  clear hL hr hy2
  go_enter Tryz.func48, Tryz.ntmps48
  go_wp2_with fail
  generalize w.alloc (Obj.cells #[Value.int IntKind.u64 (l.length : Int)] 74) = W3 at *
  refine (C2.out _ _ _ T3.out).mono ?_
  rintro e x3 ⟨u3, rfl, q3, b3⟩
  have P3 : Hid (LsI w y2 u3 x3) := Lib.hid ⟨q3.base hz, B3.out.trans (b3.mono hz), Nat.le_trans hz b3.size⟩
  clear q3 b3 T3 B3 hz C2
  go_wp2_with fail
  go_loopw [3, 13] (fun v i wr => ∃ (k : Nat) (acc : List Nat), k ≤ l.length ∧ i = .int .i64 k ∧ Hid (LsI w acc v wr) ∧ Hid (acc ++ linesL (l.drop k) = y2 ++ linesL l) ∧ acc.length ≤ 10 + 100 * k) (fun _ i _ => l.length - (intOf i).toNat)
  case atStart => exact ⟨0, y2, Nat.zero_le _, rfl, P3, Lib.hid rfl, by omega⟩
  case round =>
    clear P3
    obtain ⟨k, acc, hk, rfl, PR, HS, hac⟩ := hrel
    by_cases hlt : k < l.length
    · have HLR := Lib.hid (HLN.out.below PR.out.low)
      obtain ⟨b, of, eo, hbl, r1, r2, r3, _⟩ := HLR.out.at k hlt
      subst eo
      have p1 := HLR.out.cap
      have hlb := HLB.out _ (List.getElem_mem hlt)
      obtain ⟨z0, z1, z2, z3, z4⟩ := lineB_of hlb
      have HD := Lib.hid (show linesL (l.drop k) = lineL l[k] ++ linesL (l.drop (k + 1)) by rw [List.drop_eq_getElem_cons hlt, linesL_cons])
      generalize l[k] = x at *
      have zs := right_32 (s := x.sku) z0
      obtain ⟨m1, e1, t1, q1⟩ := wrap_64 x.qty (by omega) (by omega)
      obtain ⟨m2, e2, t2, q2⟩ := wrap_64 x.wt (by omega) (by omega)
      obtain ⟨y5, hy5⟩ : ∃ y, textsL [x.sku] = y := ⟨_, rfl⟩
      have hy5l : y5.length ≤ 42 := by rw [← hy5]; simp only [textsL, List.map_cons, List.map_nil, List.flatten_cons, List.flatten_nil, List.append_nil]; exact textL_32 zs
      have C5 := Lib.hid (fun a2 c2 W h => textN a2 c2 [x.sku] W h (by simp) (by intro x hx; simp at hx; subst hx; omega) y5 hy5)
      have Y5 := Lib.hid (show Bytes y5 by rw [← hy5]; exact textsL_bytes _)
      obtain ⟨y6, hy6⟩ : ∃ y, numsL [m1, m2] = y := ⟨_, rfl⟩
      have hy6l : y6.length ≤ 20 := by rw [← hy6]; exact numsL_len [m1, m2] (by intro n hn; simp at hn; rcases hn with rfl | rfl <;> assumption)
      have C6 := Lib.hid (fun a2 c2 W h => numN a2 c2 [m1, m2] W h (by simp) y6 hy6)
      have Y6 := Lib.hid (show Bytes y6 by rw [← hy6]; exact numsL_bytes _)
      have HN := Lib.hid (show ((acc ++ y5) ++ y6) ++ linesL (l.drop (k + 1)) = y2 ++ linesL l by
        rw [← HS.out, HD.out, ← hy5, ← hy6]
        simp [lineL, textsL, numsL, t1, t2])
      have NT := Lib.hid (fun W => nums_two m1 m2 q1 q2 W)
      clear hy5 hy6 t1 t2 q1 q2 z0 z1 z2 z3 z4 zs hlb HD HS
      have PA := Lib.hid (PR.out.below ((Below.refl _ wr).alloc (Nat.le_refl _) (Obj.cells #[Value.string x.sku, Value.int IntKind.i64 x.qty, Value.int IntKind.i64 x.wt] 72)))
      have RX : Hid (Row (wr.alloc (Obj.cells #[Value.string x.sku, Value.int IntKind.i64 x.qty, Value.int IntKind.i64 x.wt] 72)) wr.heap.size 72 #[.string x.sku, .int .i64 x.qty, .int .i64 x.wt]) := Lib.hid (heap_alloc_new _ _)
      have T5 : Hid (StrsP ((wr.alloc (Obj.cells #[Value.string x.sku, Value.int IntKind.i64 x.qty, Value.int IntKind.i64 x.wt] 72)).alloc (Obj.cells #[Value.string x.sku] 9)) (some ⟨wr.heap.size + 1, 0, none⟩) 1 [x.sku]) := Lib.hid (by
        have := strs_one x.sku (wr.alloc (Obj.cells #[Value.string x.sku, Value.int IntKind.i64 x.qty, Value.int IntKind.i64 x.wt] 72))
        rwa [show (wr.alloc (Obj.cells #[Value.string x.sku, Value.int IntKind.i64 x.qty, Value.int IntKind.i64 x.wt] 72)).heap.size = wr.heap.size + 1 by simp] at this)
      have BX := (Below.refl _ (wr.alloc (Obj.cells #[Value.string x.sku, Value.int IntKind.i64 x.qty, Value.int IntKind.i64 x.wt] 72))).alloc (Nat.le_refl _) (Obj.cells #[Value.string x.sku] 9)
      have A5 := Lib.hid (PA.out.below BX)
      have RX5 := Lib.hid (RX.out.below BX)
      clear BX PA RX
      go_wp2_with fail
      generalize (wr.alloc (Obj.cells #[Value.string x.sku, Value.int IntKind.i64 x.qty, Value.int IntKind.i64 x.wt] 72)).alloc (Obj.cells #[Value.string x.sku] 9) = W5 at *
      refine (C5.out _ _ _ T5.out).mono ?_
      rintro e x5 ⟨u55, rfl, q5, b5⟩
      obtain ⟨a5, p5, e5, h5⟩ := q5.bytes Y5.out
      subst e5
      have D5 := Lib.hid (A5.out.below b5)
      have RX6 := Lib.hid (RX5.out.below b5)
      have H5 := Lib.hid h5
      clear q5 b5 h5 A5 T5 RX5
      go_wp2_with (at_builtin; go_must (refine wpList_append_bytes rfl _ _ rfl w.heap.size u3 acc y5 rfl D5.out.own a5 p5 rfl H5.out (by omega) D5.out.few ?_))
      rintro v5 w5 o5 g5
      have P5 := Lib.hid (D5.out.put o5 g5)
      have RX7 : Hid (Row w5 wr.heap.size 72 #[.string x.sku, .int .i64 x.qty, .int .i64 x.wt]) := Lib.hid ((g5.block _ RX6.out.lt (fun e => by have := (World.ownsRow.lt PR.out.own _ e.symm).2; omega)).trans RX6.out)
      clear o5 g5 D5 H5 RX6
      obtain ⟨⟨c0, c1, c2⟩, f0, f1, f2⟩ := cellsR3 RX7.out
      go_wp2_with fail
      clear c0 c1 c2 f0 f1 f2
      have A6 := Lib.hid (P5.out.below ((Below.refl _ w5).alloc (Nat.le_refl _) (Obj.cells #[Value.int IntKind.u64 (m1 : Int), Value.int IntKind.u64 (m2 : Int)] 74)))
      have T6 := Lib.hid (NT.out w5)
      generalize w5.alloc (Obj.cells #[Value.int IntKind.u64 (m1 : Int), Value.int IntKind.u64 (m2 : Int)] 74) = W6 at *
      refine (C6.out _ _ _ T6.out).mono ?_
      rintro e x6 ⟨u66, rfl, q6, b6⟩
      obtain ⟨a6, p6, e6, h6⟩ := q6.bytes Y6.out
      subst e6
      have D6 := Lib.hid (A6.out.below b6)
      have H6 := Lib.hid h6
      clear q6 b6 h6 A6 T6 P5 RX7
      go_wp2_with (at_builtin; go_must (refine wpList_append_bytes rfl _ _ rfl w.heap.size v5 (acc ++ y5) y6 rfl D6.out.own a6 p6 rfl H6.out (by rw [List.length_append]; omega) D6.out.few ?_))
      rintro v6 w6 o6 g6
      have P6 := Lib.hid (D6.out.put o6 g6)
      clear o6 g6 D6 H6
      have HL6 := Lib.hid (show ((acc ++ y5) ++ y6).length ≤ 10 + 100 * (k + 1) by rw [List.length_append, List.length_append]; omega)
      go_wp2_with fail
      go_roundw
      case rel => exact ⟨k + 1, (acc ++ y5) ++ y6, by omega, by go_num, (by simpa only [List.append_assoc] using P6), HN, HL6.out⟩
      case measure => simp [intOf]; omega
    · have HE := Lib.hid (show acc = y2 ++ linesL l by
        have := HS.out
        rw [List.drop_eq_nil_of_le (by omega)] at this
        simpa [linesL] using this)
      go_wp2_with fail
      go_ret
      exact ⟨_, rfl, by rw [HF.out, ← HE.out]; exact PR.out.own, PR.out.low⟩
end Go.Proofs.YtfmpibmhhfmajaaGreatDoor
