/- What Put of package order answers, at every order that can be. -/
import Derived.Test.YtpmgafmbmjokhaaDoorOrPut
namespace Go.Proofs.YtpmgafmbmjokhaaDoor
open Go.RowKit Go.ChangeShapes Go.WideShapes Go.ChangeAt

/-- An order is put: its block, then the bytes so far, in a row of the call's own. -/
structure PutI (w : World) (a : Option Addr) (cap : Nat) (o : Od) (acc : List Nat) (v : Value) (W : World) : Prop where
  own : OwnB W (w.heap.size + 1) v acc
  ord : OdB W w.heap.size a cap o
  low : Below w.heap.size w W
  few : w.heap.size + 1 ≤ W.heap.size

theorem PutI.below {w W W' : World} {a : Option Addr} {cap : Nat} {o : Od} {acc : List Nat} {v : Value} (h : PutI w a cap o acc v W) (b : Below W.heap.size W W') : PutI w a cap o acc v W' :=
  ⟨h.own.below b, h.ord.below b, h.low.trans (b.mono h.low.size), Nat.le_trans h.few b.size⟩
theorem PutI.put {w W W' : World} {a : Option Addr} {cap : Nat} {o : Od} {acc acc' : List Nat} {v v' : Value} (h : PutI w a cap o acc v W) (own : OwnB W' (w.heap.size + 1) v' acc') (g : W.grownBy W' v.ownBlock) : PutI w a cap o acc' v' W' := by
  have hr := h.own.row
  refine ⟨own, ?_, h.low.grown g h.low.size (fun k hk => by have := hr k hk; omega), Nat.le_trans h.few g.size⟩
  exact (g.block _ h.ord.lt (fun e => by have := hr _ e.symm; omega)).trans h.ord

theorem textN (a2 : Option Addr) (c2 : Nat) (ns : List ByteArray) (W : World) (h : StrsP W a2 c2 ns) (hn : ns.length ≤ 1000) (hs : ∀ x ∈ ns, x.size ≤ 800) (y : List Nat) (hy : textsL ns = y) :
    Calls Tryd.prog 16 #[.slice none 0 0, .slice a2 ns.length c2] W (OwnPost y W) := by
  have := text_any none a2 0 c2 [] ns W (BytesP.nil _ _ _) h (by simp) hn hs
  rw [List.nil_append, hy] at this
  exact this
theorem numN (a2 : Option Addr) (c2 : Nat) (ns : List Nat) (W : World) (h : NumsP W a2 c2 ns) (hn : ns.length ≤ 1000) (y : List Nat) (hy : numsL ns = y) :
    Calls Tryd.prog 17 #[.slice none 0 0, .slice a2 ns.length c2] W (OwnPost y W) := by
  have := number_any none a2 0 c2 [] ns W (BytesP.nil _ _ _) h (by simp) hn
  rw [List.nil_append, hy] at this
  exact this
theorem textL_32 {s : ByteArray} (h : s.size ≤ 32) : (textL s).length ≤ 42 := by
  have := numL_ten (show s.size < 18446744073709551616 by omega)
  unfold textL
  rw [List.length_append, strL_len]
  omega
theorem numsL_len : ∀ (l : List Nat), (∀ n ∈ l, n < 18446744073709551616) → (numsL l).length ≤ 10 * l.length
  | [], _ => by simp [numsL]
  | n :: l, h => by
    have h1 := numL_ten (h n (by simp))
    have h2 := numsL_len l (fun m hm => h m (by simp [hm]))
    unfold numsL at h2 ⊢
    rw [List.map_cons, List.flatten_cons, List.length_append, List.length_cons]
    omega

set_option maxRecDepth 100000 in
set_option maxHeartbeats 8000000 in
theorem put_any (a oa : Option Addr) (cap oc : Nat) (l : List Nat) (o : Od) (w : World) (hB : BytesP w a cap l) (hO : OdP w oa oc o) (hr : rightO o = true) (hl : l.length ≤ 1000) :
    Calls Tryd.prog 10 #[.slice a l.length cap, odV oa oc o] w (OwnPost (l ++ orderL o) w) := by
  have B0 := (Below.refl w.heap.size w).alloc (Nat.le_refl _) (Obj.cells (odC oa oc o) 36)
  have P0 : Hid (PutI w oa oc o [] (.slice none 0 0) (w.alloc (.cells (odC oa oc o) 36))) := Lib.hid ⟨own_nil _ _, OdB.new _ _ _ _, B0, by simp⟩
  have HB := Lib.hid (hB.below B0)
  have hz : w.heap.size + 1 ≤ (w.alloc (.cells (odC oa oc o) 36)).heap.size := by simp
  obtain ⟨k1, k2, k3, _, _, _⟩ := rightO_of hr
  obtain ⟨k4, k5, k6⟩ := groupB_of k2
  obtain ⟨⟨k7, k8⟩, k9, _⟩ := (rightLB_iff _).1 k3
  have s1 := right_32 k1
  have s4 := right_32 k4
  have s5 := right_32 k5
  have s6 := right_32 k6
  have HLN := Lib.hid hO.lns
  have HR := Lib.hid hr
  have HLB := Lib.hid k9
  obtain ⟨y1, hy1⟩ : ∃ y, textsL [o.id] = y := ⟨_, rfl⟩
  have hy1l : y1.length ≤ 42 := by rw [← hy1]; simp only [textsL, List.map_cons, List.map_nil, List.flatten_cons, List.flatten_nil, List.append_nil]; exact textL_32 s1
  have C1 := Lib.hid (fun a2 c2 W h => textN a2 c2 [o.id] W h (by simp) (by intro x hx; simp at hx; subst hx; omega) y1 hy1)
  have Y1 := Lib.hid (show Bytes y1 by rw [← hy1]; exact textsL_bytes _)
  obtain ⟨y2, hy2⟩ : ∃ y, numsL [o.ls.length] = y := ⟨_, rfl⟩
  have hy2l : y2.length ≤ 10 := by rw [← hy2]; exact numsL_len [o.ls.length] (by intro n hn; simp at hn; omega)
  have C2 := Lib.hid (fun a2 c2 W h => numN a2 c2 [o.ls.length] W h (by simp) y2 hy2)
  have Y2 := Lib.hid (show Bytes y2 by rw [← hy2]; exact numsL_bytes _)
  obtain ⟨y3, hy3⟩ : ∃ y, textsL [o.car, o.zone, o.serv] = y := ⟨_, rfl⟩
  have hy3l : y3.length ≤ 126 := by
    have t4 := textL_32 s4
    have t5 := textL_32 s5
    have t6 := textL_32 s6
    rw [← hy3]; simp only [textsL, List.map_cons, List.map_nil, List.flatten_cons, List.flatten_nil, List.append_nil, List.length_append]; omega
  have C3 := Lib.hid (fun a2 c2 W h => textN a2 c2 [o.car, o.zone, o.serv] W h (by simp) (by intro x hx; simp at hx; rcases hx with rfl | rfl | rfl <;> omega) y3 hy3)
  have Y3 := Lib.hid (show Bytes y3 by rw [← hy3]; exact textsL_bytes _)
  obtain ⟨y4, hy4⟩ : ∃ y, numsL (numsO o) = y := ⟨_, rfl⟩
  have Y4 := Lib.hid (show Bytes y4 by rw [← hy4]; exact numsL_bytes _)
  have hy4l : y4.length ≤ 50 := by
    obtain ⟨_, _, _, r4, r5, r6⟩ := rightO_of hr
    have q5 := givenN_le o.given
    rw [← hy4]
    exact numsL_len (numsO o) (by
      intro n hn
      simp only [numsO, List.mem_cons, List.not_mem_nil, or_false] at hn
      rcases hn with rfl | rfl | rfl | rfl | rfl <;> omega)
  have HF := Lib.hid (show l ++ orderL o = (((l ++ y1) ++ y2) ++ linesL o.ls) ++ y3 ++ y4 by
    rw [← hy1, ← hy2, ← hy3, ← hy4]
    simp [orderL, textsL, numsL, numsO])
  have C4 := Lib.hid (fun a2 c2 W h => numN a2 c2 (numsO o) W h (by simp [numsO]) y4 hy4)
  have CN := Lib.hid (fun W => numbers_any oa oc o W hr)
  clear hr k1 k2 k3 k4 k5 k6 k9 hB hO hy1 hy2 hy3 s1 s4 s5 s6 B0
  have hn2 : IntKind.u64.wrap (o.ls.length : Int) = (o.ls.length : Int) := by rw [IntKind.wrap_u64]; omega
  unfold odV at *
  unfold odC at *
  go_enter Tryd.func10, Tryd.ntmps10
  go_wp2_with (at_builtin; go_must (refine wpList_append_bytes rfl _ _ rfl (w.heap.size + 1) (.slice none 0 0) [] l rfl P0.out.own a cap rfl HB.out (by simp; omega) hz ?_))
  rintro v1 w1 o1 g1
  have P1 := Lib.hid (P0.out.put o1 g1)
  clear o1 g1 P0 HB hz
  obtain ⟨⟨c0, c1, c2, c3, c4⟩, c5, c6, c7, c8, c9⟩ := OdB.cells (o := o) P1.out.ord
  go_wp2_with fail
  clear c0 c1 c2 c3 c4 c5 c6 c7 c8 c9
  have A2 := Lib.hid (P1.out.below ((Below.refl _ w1).alloc (Nat.le_refl _) (Obj.cells #[Value.string o.id] 9)))
  have T2 := Lib.hid (strs_one o.id w1)
  generalize w1.alloc (Obj.cells #[Value.string o.id] 9) = W2 at *
  refine (C1.out _ _ _ T2.out).mono ?_
  rintro e x2 ⟨u2, rfl, q2, b2⟩
  obtain ⟨a2, p2, e2, h2⟩ := q2.bytes Y1.out
  subst e2
  have D2 := Lib.hid (A2.out.below b2)
  have H2 := Lib.hid h2
  clear q2 b2 h2 A2 T2 P1
  go_wp2_with (at_builtin; go_must (refine wpList_append_bytes rfl _ _ rfl (w.heap.size + 1) v1 (l) y1 rfl D2.out.own a2 p2 rfl H2.out (by omega) D2.out.few ?_))
  rintro v2 w2 o2 g2
  have P2 := Lib.hid (D2.out.put o2 g2)
  clear o2 g2 D2 H2
  obtain ⟨⟨c0, c1, c2, c3, c4⟩, c5, c6, c7, c8, c9⟩ := OdB.cells (o := o) P2.out.ord
  go_wp2_with fail
  clear c0 c1 c2 c3 c4 c5 c6 c7 c8 c9
  have A3 := Lib.hid (P2.out.below ((Below.refl _ w2).alloc (Nat.le_refl _) (Obj.cells #[Value.int IntKind.u64 (o.ls.length : Int)] 47)))
  have T3 := Lib.hid (nums_one o.ls.length (by omega) w2)
  generalize w2.alloc (Obj.cells #[Value.int IntKind.u64 (o.ls.length : Int)] 47) = W3 at *
  refine (C2.out _ _ _ T3.out).mono ?_
  rintro e x3 ⟨u3, rfl, q3, b3⟩
  obtain ⟨a3, p3, e3, h3⟩ := q3.bytes Y2.out
  subst e3
  have D3 := Lib.hid (A3.out.below b3)
  have H3 := Lib.hid h3
  clear q3 b3 h3 A3 T3 P2
  go_wp2_with (at_builtin; go_must (refine wpList_append_bytes rfl _ _ rfl (w.heap.size + 1) v2 (l ++ y1) y2 rfl D3.out.own a3 p3 rfl H3.out (by rw [List.length_append]; omega) D3.out.few ?_))
  rintro v3 w3 o3 g3
  have P3 := Lib.hid (D3.out.put o3 g3)
  clear o3 g3 D3 H3
  obtain ⟨⟨c0, c1, c2, c3, c4⟩, c5, c6, c7, c8, c9⟩ := OdB.cells (o := o) P3.out.ord
  have HL2 := Lib.hid (show ((l ++ y1) ++ y2).length ≤ 1100 by rw [List.length_append, List.length_append]; omega)
  go_wp2_with fail
  clear c0 c1 c2 c3 c4 c5 c6 c7 c8 c9
  go_loopw [5, 27] (fun v i wr => ∃ (k : Nat) (acc : List Nat), k ≤ o.ls.length ∧ i = .int .i64 k ∧ Hid (PutI w oa oc o acc v wr) ∧ Hid (acc ++ linesL (o.ls.drop k) = ((l ++ y1) ++ y2) ++ linesL o.ls) ∧ acc.length ≤ 1100 + 100 * k) (fun _ i _ => o.ls.length - (intOf i).toNat)
  case atStart => exact ⟨0, (l ++ y1) ++ y2, Nat.zero_le _, rfl, (by simpa only [List.append_assoc] using P3), Lib.hid rfl, HL2.out⟩
  case round =>
    obtain ⟨k, acc, hk, rfl, PR, HS, hac⟩ := hrel
    by_cases hlt : k < o.ls.length
    · have HLR := Lib.hid (HLN.out.below PR.out.low)
      obtain ⟨b, of, eo, hbl, r1, r2, r3, _⟩ := HLR.out.at k hlt
      subst eo
      have p1 := HLR.out.cap
      have hlb := HLB.out _ (List.getElem_mem hlt)
      obtain ⟨z0, z1, z2, z3, z4⟩ := lineB_of hlb
      have HD := Lib.hid (show linesL (o.ls.drop k) = lineL o.ls[k] ++ linesL (o.ls.drop (k + 1)) by rw [List.drop_eq_getElem_cons hlt, linesL_cons])
      generalize o.ls[k] = x at *
      have zs := right_32 (s := x.sku) z0
      obtain ⟨m1, e1, t1, q1⟩ := wrap_64 x.qty (by omega) (by omega)
      obtain ⟨m2, e2, t2, q2⟩ := wrap_64 x.wt (by omega) (by omega)
      obtain ⟨y5, hy5⟩ : ∃ y, textsL [x.sku] = y := ⟨_, rfl⟩
      have hy5l : y5.length ≤ 42 := by rw [← hy5]; simp only [textsL, List.map_cons, List.map_nil, List.flatten_cons, List.flatten_nil, List.append_nil]; exact textL_32 zs
      have C5 := Lib.hid (fun a2 c2 W h => textN a2 c2 [x.sku] W h (by simp) (by intro x hx; simp at hx; subst hx; omega) y5 hy5)
      have Y5 := Lib.hid (show Bytes y5 by rw [← hy5]; exact textsL_bytes _)
      obtain ⟨y6, hy6⟩ : ∃ y, numsL [m1, m2] = y := ⟨_, rfl⟩
      have hy6l : y6.length ≤ 20 := by rw [← hy6]; exact numsL_len [m1, m2] (by intro n hn; simp at hn; rcases hn with rfl | rfl <;> assumption)
      have C6 := Lib.hid (fun a2 c2 W h => numN a2 c2 [m1, m2] W h (by simp) y6 hy6)
      have Y6 := Lib.hid (show Bytes y6 by rw [← hy6]; exact numsL_bytes _)
      have HN := Lib.hid (show ((acc ++ y5) ++ y6) ++ linesL (o.ls.drop (k + 1)) = ((l ++ y1) ++ y2) ++ linesL o.ls by
        rw [← HS.out, HD.out, ← hy5, ← hy6]
        simp [lineL, textsL, numsL, t1, t2])
      have NT := Lib.hid (fun W => nums_two m1 m2 q1 q2 W)
      clear hy5 hy6 t1 t2 q1 q2 z0 z1 z2 z3 z4 zs hlb HD HS
      have PA := Lib.hid (PR.out.below ((Below.refl _ wr).alloc (Nat.le_refl _) (Obj.cells #[Value.string x.sku, Value.int IntKind.i64 x.qty, Value.int IntKind.i64 x.wt] 49)))
      have RX : Hid (Row (wr.alloc (Obj.cells #[Value.string x.sku, Value.int IntKind.i64 x.qty, Value.int IntKind.i64 x.wt] 49)) wr.heap.size 49 #[.string x.sku, .int .i64 x.qty, .int .i64 x.wt]) := Lib.hid (heap_alloc_new _ _)
      have T5 : Hid (StrsP ((wr.alloc (Obj.cells #[Value.string x.sku, Value.int IntKind.i64 x.qty, Value.int IntKind.i64 x.wt] 49)).alloc (Obj.cells #[Value.string x.sku] 9)) (some ⟨wr.heap.size + 1, 0, none⟩) 1 [x.sku]) := Lib.hid (by
        have := strs_one x.sku (wr.alloc (Obj.cells #[Value.string x.sku, Value.int IntKind.i64 x.qty, Value.int IntKind.i64 x.wt] 49))
        rwa [show (wr.alloc (Obj.cells #[Value.string x.sku, Value.int IntKind.i64 x.qty, Value.int IntKind.i64 x.wt] 49)).heap.size = wr.heap.size + 1 by simp] at this)
      have BX := (Below.refl _ (wr.alloc (Obj.cells #[Value.string x.sku, Value.int IntKind.i64 x.qty, Value.int IntKind.i64 x.wt] 49))).alloc (Nat.le_refl _) (Obj.cells #[Value.string x.sku] 9)
      have A5 := Lib.hid (PA.out.below BX)
      have RX5 := Lib.hid (RX.out.below BX)
      clear BX PA RX
      go_wp2_with fail
      generalize (wr.alloc (Obj.cells #[Value.string x.sku, Value.int IntKind.i64 x.qty, Value.int IntKind.i64 x.wt] 49)).alloc (Obj.cells #[Value.string x.sku] 9) = W5 at *
      refine (C5.out _ _ _ T5.out).mono ?_
      rintro e x5 ⟨u55, rfl, q5, b5⟩
      obtain ⟨a5, p5, e5, h5⟩ := q5.bytes Y5.out
      subst e5
      have D5 := Lib.hid (A5.out.below b5)
      have RX6 := Lib.hid (RX5.out.below b5)
      have H5 := Lib.hid h5
      clear q5 b5 h5 A5 T5 RX5
      go_wp2_with (at_builtin; go_must (refine wpList_append_bytes rfl _ _ rfl (w.heap.size + 1) u5 acc y5 rfl D5.out.own a5 p5 rfl H5.out (by omega) D5.out.few ?_))
      rintro v5 w5 o5 g5
      have P5 := Lib.hid (D5.out.put o5 g5)
      have RX7 : Hid (Row w5 wr.heap.size 49 #[.string x.sku, .int .i64 x.qty, .int .i64 x.wt]) := Lib.hid ((g5.block _ RX6.out.lt (fun e => by have := (World.ownsRow.lt PR.out.own _ e.symm).2; omega)).trans RX6.out)
      clear o5 g5 D5 H5 RX6
      obtain ⟨⟨c0, c1, c2⟩, f0, f1, f2⟩ := cellsR3 RX7.out
      go_wp2_with fail
      clear c0 c1 c2 f0 f1 f2
      have A6 := Lib.hid (P5.out.below ((Below.refl _ w5).alloc (Nat.le_refl _) (Obj.cells #[Value.int IntKind.u64 (m1 : Int), Value.int IntKind.u64 (m2 : Int)] 47)))
      have T6 := Lib.hid (NT.out w5)
      generalize w5.alloc (Obj.cells #[Value.int IntKind.u64 (m1 : Int), Value.int IntKind.u64 (m2 : Int)] 47) = W6 at *
      refine (C6.out _ _ _ T6.out).mono ?_
      rintro e x6 ⟨u66, rfl, q6, b6⟩
      obtain ⟨a6, p6, e6, h6⟩ := q6.bytes Y6.out
      subst e6
      have D6 := Lib.hid (A6.out.below b6)
      have H6 := Lib.hid h6
      clear q6 b6 h6 A6 T6 P5 RX7
      go_wp2_with (at_builtin; go_must (refine wpList_append_bytes rfl _ _ rfl (w.heap.size + 1) v5 (acc ++ y5) y6 rfl D6.out.own a6 p6 rfl H6.out (by rw [List.length_append]; omega) D6.out.few ?_))
      rintro v6 w6 o6 g6
      have P6 := Lib.hid (D6.out.put o6 g6)
      clear o6 g6 D6 H6
      have HL6 := Lib.hid (show ((acc ++ y5) ++ y6).length ≤ 1100 + 100 * (k + 1) by rw [List.length_append, List.length_append]; omega)
      go_wp2_with fail
      go_roundw
      case rel => exact ⟨k + 1, (acc ++ y5) ++ y6, by omega, by go_num, (by simpa only [List.append_assoc] using P6), HN, HL6.out⟩
      case measure => simp [intOf]; omega
    · have HE := Lib.hid (show acc = ((l ++ y1) ++ y2) ++ linesL o.ls by
        have := HS.out
        rw [List.drop_eq_nil_of_le (by omega)] at this
        simpa [linesL] using this)
      obtain ⟨⟨c0, c1, c2, c3, c4⟩, c5, c6, c7, c8, c9⟩ := OdB.cells (o := o) PR.out.ord
      go_wp2_with fail
      clear c0 c1 c2 c3 c4 c5 c6 c7 c8 c9
      have A7 := Lib.hid (PR.out.below ((Below.refl _ wr).alloc (Nat.le_refl _) (Obj.cells #[Value.string o.car, Value.string o.zone, Value.string o.serv] 9)))
      have T7 := Lib.hid (strs_three o.car o.zone o.serv wr)
      generalize wr.alloc (Obj.cells #[Value.string o.car, Value.string o.zone, Value.string o.serv] 9) = W7 at *
      refine (C3.out _ _ _ T7.out).mono ?_
      rintro e x7 ⟨u7, rfl, q7, b7⟩
      obtain ⟨a7, p7, e7, h7⟩ := q7.bytes Y3.out
      subst e7
      have D7 := Lib.hid (A7.out.below b7)
      have H7 := Lib.hid h7
      clear q7 b7 h7 A7 T7 PR
      go_wp2_with (at_builtin; go_must (refine wpList_append_bytes rfl _ _ rfl (w.heap.size + 1) u5 (acc) y3 rfl D7.out.own a7 p7 rfl H7.out (by omega) D7.out.few ?_))
      rintro v7 w7 o7 g7
      have P7 := Lib.hid (D7.out.put o7 g7)
      clear o7 g7 D7 H7
      obtain ⟨⟨c0, c1, c2, c3, c4⟩, c5, c6, c7, c8, c9⟩ := OdB.cells (o := o) P7.out.ord
      go_wp2_with fail
      clear c0 c1 c2 c3 c4 c5 c6 c7 c8 c9
      refine (CN.out w7).mono ?_
      rintro e w8 ⟨an, rfl, n8, b8⟩
      have D8 := Lib.hid (P7.out.below b8)
      have N8 := Lib.hid n8
      clear n8 b8 P7
      go_wp2_with fail
      refine (C4.out _ _ _ N8.out).mono ?_
      rintro e x9 ⟨u99, rfl, q9, b9⟩
      obtain ⟨a9, p9, e9, h9⟩ := q9.bytes Y4.out
      subst e9
      have D9 := Lib.hid (D8.out.below b9)
      have H9 := Lib.hid h9
      clear q9 b9 h9 D8 N8
      go_wp2_with (at_builtin; go_must (refine wpList_append_bytes rfl _ _ rfl (w.heap.size + 1) v7 (acc ++ y3) y4 rfl D9.out.own a9 p9 rfl H9.out (by rw [List.length_append]; omega) D9.out.few ?_))
      rintro v9 w9 o9 g9
      have P9 := Lib.hid (D9.out.put o9 g9)
      clear g9 D9 H9
      go_wp2_with fail
      go_ret
      refine ⟨_, rfl, ?_, P9.out.low⟩
      have := P9.out.own
      rw [HF.out, ← HE.out]
      first | exact this.base (by omega) | (rw [List.append_assoc]; exact this.base (by omega))

end Go.Proofs.YtpmgafmbmjokhaaDoor
