/- What Put of package batch answers, at every batch that can be. -/
import Derived.Test.YtieoihmndpkdoaaBtTake
import Derived.Test.YtieoihmndpkdoaaScPut
namespace Go.Proofs.Ytieoihmndpkdoaa
set_option maxRecDepth 100000
open Go.RowKit Go.ChangeShapes Go.WideShapes Go.ChangeAt

/-- A batch is put: its block, then the bytes so far, in a row of the call's own. -/
structure PutB (w : World) (a : Option Addr) (cap : Nat) (b : Bt) (acc : List Nat) (v : Value) (W : World) : Prop where
  own : OwnB W (w.heap.size + 1) v acc
  bat : BtB W w.heap.size a cap b
  low : Below w.heap.size w W
  few : w.heap.size + 1 ≤ W.heap.size

theorem PutB.below {w W W' : World} {a : Option Addr} {cap : Nat} {b : Bt} {acc : List Nat} {v : Value} (h : PutB w a cap b acc v W) (bl : Below W.heap.size W W') : PutB w a cap b acc v W' :=
  ⟨h.own.below bl, BtB.below (b := b) h.bat bl, h.low.trans (bl.mono h.low.size), Nat.le_trans h.few bl.size⟩
theorem PutB.put {w W W' : World} {a : Option Addr} {cap : Nat} {b : Bt} {acc acc' : List Nat} {v v' : Value} (h : PutB w a cap b acc v W) (own : OwnB W' (w.heap.size + 1) v' acc') (g : W.grownBy W' v.ownBlock) : PutB w a cap b acc' v' W' := by
  have hr := h.own.row
  refine ⟨own, ?_, h.low.grown g h.low.size (fun k hk => by have := hr k hk; omega), Nat.le_trans h.few g.size⟩
  exact (g.block _ (BtB.lt (b := b) h.bat) (fun e => by have := hr _ e.symm; omega)).trans h.bat

theorem textsL_len : ∀ (l : List ByteArray), (∀ x ∈ l, x.size ≤ 32) → (textsL l).length ≤ 42 * l.length
  | [], _ => by simp [textsL]
  | x :: l, h => by
    have h1 := textL_32 (h x (by simp))
    have h2 := textsL_len l (fun y hy => h y (by simp [hy]))
    rw [textsL_cons, List.length_append, List.length_cons]
    omega
theorem wrap_tick (n : Int) (h0 : 0 ≤ n) (h1 : n ≤ 1099511627776) : ∃ m : Nat, IntKind.u64.wrap n = (m : Int) ∧ n.toNat = m ∧ m < 18446744073709551616 :=
  ⟨n.toNat, by rw [IntKind.wrap_u64]; omega, rfl, by omega⟩
theorem batchL_len {b : Bt} (h : rightBt b = true) : (batchL b).length ≤ 3000 := by
  obtain ⟨r1, r2, r3, r4, r5, r6, r7, r8, _⟩ := rightBt_of h
  obtain ⟨g1, g2, g3⟩ := groupB_of r6
  have t1 := numL_ten (show b.id.toNat < 18446744073709551616 by omega)
  have t2 := numL_ten (show b.kind.toNat < 18446744073709551616 by omega)
  have t3 := numL_ten (show b.phase.toNat < 18446744073709551616 by omega)
  have t4 := numL_ten (show b.wt.toNat < 18446744073709551616 by omega)
  have t5 := numL_ten (show b.born.toNat < 18446744073709551616 by omega)
  have t6 := textL_32 (right_32 g1)
  have t7 := textL_32 (right_32 g2)
  have t8 := textL_32 (right_32 g3)
  have t9 := numL_ten (show b.mem.length < 18446744073709551616 by omega)
  have t10 := textsL_len b.mem (fun x hx => right_32 (r8 x hx))
  unfold batchL
  simp only [List.length_append]
  omega

set_option maxHeartbeats 8000000 in
theorem btPut_any (a oa : Option Addr) (cap oc : Nat) (l : List Nat) (b : Bt) (w : World) (hB : BytesP w a cap l) (hO : StrsP w oa oc b.mem) (hr : rightBt b = true) (hl : l.length ≤ 1000) :
    Calls Try.prog 27 #[.slice a l.length cap, btV oa oc b] w (OwnPost (l ++ batchL b) w) := by
  have B0 := (Below.refl w.heap.size w).alloc (Nat.le_refl _) (Obj.cells (btC oa oc b) 28)
  have P0 : Hid (PutB w oa oc b [] (.slice none 0 0) (w.alloc (.cells (btC oa oc b) 28))) := Lib.hid ⟨own_nil _ _, BtB.new _ _ _ _, B0, by simp⟩
  have HB := Lib.hid (hB.below B0)
  have hz : w.heap.size + 1 ≤ (w.alloc (.cells (btC oa oc b) 28)).heap.size := by simp
  obtain ⟨r1, r2, r3, r4, r5, r6, r7, r8, _⟩ := rightBt_of hr
  obtain ⟨g1, g2, g3⟩ := groupB_of r6
  have s4 := right_32 g1
  have s5 := right_32 g2
  have s6 := right_32 g3
  have s7 := fun x hx => right_32 (r8 x hx)
  have HT := Lib.hid hO
  obtain ⟨m1, e1, t1, q1⟩ := wrap_64 b.id (by omega) (by omega)
  obtain ⟨m2, e2, t2, q2⟩ := wrap_64 b.kind (by omega) (by omega)
  obtain ⟨m3, e3, t3, q3⟩ := wrap_64 b.phase (by omega) (by omega)
  obtain ⟨m4, e4, t4, q4⟩ := wrap_64 b.wt (by omega) (by omega)
  obtain ⟨m5, e5, t5, q5⟩ := wrap_tick b.born (by omega) (by omega)
  obtain ⟨y1, hy1⟩ : ∃ y, numsL [m1, m2, m3, m4, m5] = y := ⟨_, rfl⟩
  have hy1l : y1.length ≤ 50 := by
    rw [← hy1]
    exact numsL_len [m1, m2, m3, m4, m5] (by
      intro n hn
      simp only [List.mem_cons, List.not_mem_nil, or_false] at hn
      rcases hn with rfl | rfl | rfl | rfl | rfl <;> assumption)
  have C1 := Lib.hid (fun a2 c2 W h => numN a2 c2 [m1, m2, m3, m4, m5] W h (by simp) y1 hy1)
  have Y1 := Lib.hid (show Bytes y1 by rw [← hy1]; exact numsL_bytes _)
  have N5 := Lib.hid (fun W => nums_five m1 m2 m3 m4 m5 q1 q2 q3 q4 q5 W)
  obtain ⟨y2, hy2⟩ : ∃ y, textsL [b.car, b.zone, b.serv] = y := ⟨_, rfl⟩
  have hy2l : y2.length ≤ 126 := by
    rw [← hy2]
    exact textsL_len [b.car, b.zone, b.serv] (by intro x hx; simp at hx; rcases hx with rfl | rfl | rfl <;> assumption)
  have C2 := Lib.hid (fun a2 c2 W h => textN a2 c2 [b.car, b.zone, b.serv] W h (by simp) (by intro x hx; simp at hx; rcases hx with rfl | rfl | rfl <;> omega) y2 hy2)
  have Y2 := Lib.hid (show Bytes y2 by rw [← hy2]; exact textsL_bytes _)
  obtain ⟨y3, hy3⟩ : ∃ y, numsL [b.mem.length] = y := ⟨_, rfl⟩
  have hy3l : y3.length ≤ 10 := by rw [← hy3]; exact numsL_len [b.mem.length] (by intro n hn; simp at hn; omega)
  have C3 := Lib.hid (fun a2 c2 W h => numN a2 c2 [b.mem.length] W h (by simp) y3 hy3)
  have Y3 := Lib.hid (show Bytes y3 by rw [← hy3]; exact numsL_bytes _)
  obtain ⟨y4, hy4⟩ : ∃ y, textsL b.mem = y := ⟨_, rfl⟩
  have hy4l : y4.length ≤ 3000 := by
    have := textsL_len b.mem s7
    rw [← hy4]; omega
  have C4 := Lib.hid (fun a2 c2 W h => textN a2 c2 b.mem W h (by omega) (by intro x hx; have := s7 x hx; omega) y4 hy4)
  have Y4 := Lib.hid (show Bytes y4 by rw [← hy4]; exact textsL_bytes _)
  have HF := Lib.hid (show l ++ batchL b = (((l ++ y1) ++ y2) ++ y3) ++ y4 by
    rw [← hy1, ← hy2, ← hy3, ← hy4]
    simp [batchL, textsL, numsL, t1, t2, t3, t4, t5])
  have hn2 : IntKind.u64.wrap (b.mem.length : Int) = (b.mem.length : Int) := by rw [IntKind.wrap_u64]; omega
  clear hr r1 r2 r3 r4 r5 r6 r8 g1 g2 g3 hB hO hy1 hy2 hy3 hy4 s4 s5 s6 s7 B0 q1 q2 q3 q4 q5 t1 t2 t3 t4 t5
  unfold btV at *
  unfold btC at *
  go_enter Try.func27, Try.ntmps27
  go_wp2_with (at_builtin; go_must (refine wpList_append_bytes rfl _ _ rfl (w.heap.size + 1) (.slice none 0 0) [] l rfl P0.out.own a cap rfl HB.out (by simp; omega) hz ?_))
  rintro v1 w1 o1 g1
  have P1 := Lib.hid (P0.out.put o1 g1)
  clear o1 g1 P0 HB hz
  obtain ⟨⟨c0, c1, c2, c3, c4⟩, c5, c6, c7, c8⟩ := BtB.cells (b := b) P1.out.bat
  go_wp2_with fail
  clear c0 c1 c2 c3 c4 c5 c6 c7 c8
  have A2 := Lib.hid (P1.out.below ((Below.refl _ w1).alloc (Nat.le_refl _) (Obj.cells #[Value.int IntKind.u64 (m1 : Int), Value.int IntKind.u64 (m2 : Int), Value.int IntKind.u64 (m3 : Int), Value.int IntKind.u64 (m4 : Int), Value.int IntKind.u64 (m5 : Int)] 82)))
  have T2 := Lib.hid (N5.out w1)
  generalize w1.alloc (Obj.cells #[Value.int IntKind.u64 (m1 : Int), Value.int IntKind.u64 (m2 : Int), Value.int IntKind.u64 (m3 : Int), Value.int IntKind.u64 (m4 : Int), Value.int IntKind.u64 (m5 : Int)] 82) = W2 at *
  refine (C1.out _ _ _ T2.out).mono ?_
  rintro e x2 ⟨u2, rfl, q2, b2⟩
  obtain ⟨a2, p2, e2', h2⟩ := q2.bytes Y1.out
  subst e2'
  have D2 := Lib.hid (A2.out.below b2)
  have H2 := Lib.hid h2
  clear q2 b2 h2 A2 T2 P1
  go_wp2_with (at_builtin; go_must (refine wpList_append_bytes rfl _ _ rfl (w.heap.size + 1) v1 (l) y1 rfl D2.out.own a2 p2 rfl H2.out (by omega) D2.out.few ?_))
  rintro v2 w2 o2 g2
  have P2 := Lib.hid (D2.out.put o2 g2)
  clear o2 g2 D2 H2
  obtain ⟨⟨c0, c1, c2, c3, c4⟩, c5, c6, c7, c8⟩ := BtB.cells (b := b) P2.out.bat
  go_wp2_with fail
  clear c0 c1 c2 c3 c4 c5 c6 c7 c8
  have A3 := Lib.hid (P2.out.below ((Below.refl _ w2).alloc (Nat.le_refl _) (Obj.cells #[Value.string b.car, Value.string b.zone, Value.string b.serv] 9)))
  have T3 := Lib.hid (strs_three b.car b.zone b.serv w2)
  generalize w2.alloc (Obj.cells #[Value.string b.car, Value.string b.zone, Value.string b.serv] 9) = W3 at *
  refine (C2.out _ _ _ T3.out).mono ?_
  rintro e x3 ⟨u3, rfl, q3, b3⟩
  obtain ⟨a3, p3, e3', h3⟩ := q3.bytes Y2.out
  subst e3'
  have D3 := Lib.hid (A3.out.below b3)
  have H3 := Lib.hid h3
  clear q3 b3 h3 A3 T3 P2
  go_wp2_with (at_builtin; go_must (refine wpList_append_bytes rfl _ _ rfl (w.heap.size + 1) v2 (l ++ y1) y2 rfl D3.out.own a3 p3 rfl H3.out (by simp only [List.length_append]; omega) D3.out.few ?_))
  rintro v3 w3 o3 g3
  have P3 := Lib.hid (D3.out.put o3 g3)
  clear o3 g3 D3 H3
  obtain ⟨⟨c0, c1, c2, c3, c4⟩, c5, c6, c7, c8⟩ := BtB.cells (b := b) P3.out.bat
  go_wp2_with fail
  clear c0 c1 c2 c3 c4 c5 c6 c7 c8
  have A4 := Lib.hid (P3.out.below ((Below.refl _ w3).alloc (Nat.le_refl _) (Obj.cells #[Value.int IntKind.u64 (b.mem.length : Int)] 82)))
  have T4 := Lib.hid (nums_one b.mem.length (by omega) w3)
  generalize w3.alloc (Obj.cells #[Value.int IntKind.u64 (b.mem.length : Int)] 82) = W4 at *
  refine (C3.out _ _ _ T4.out).mono ?_
  rintro e x4 ⟨u4, rfl, q4, b4⟩
  obtain ⟨a4, p4, e4', h4⟩ := q4.bytes Y3.out
  subst e4'
  have D4 := Lib.hid (A4.out.below b4)
  have H4 := Lib.hid h4
  clear q4 b4 h4 A4 T4 P3
  go_wp2_with (at_builtin; go_must (refine wpList_append_bytes rfl _ _ rfl (w.heap.size + 1) v3 (l ++ (y1 ++ y2)) y3 rfl D4.out.own a4 p4 rfl H4.out (by simp only [List.length_append]; omega) D4.out.few ?_))
  rintro v4 w4 o4 g4
  have P4 := Lib.hid (D4.out.put o4 g4)
  clear o4 g4 D4 H4
  obtain ⟨⟨c0, c1, c2, c3, c4⟩, c5, c6, c7, c8⟩ := BtB.cells (b := b) P4.out.bat
  have T5 := Lib.hid (HT.out.below P4.out.low)
  go_wp2_with fail
  clear c0 c1 c2 c3 c4 c5 c6 c7 c8
  have A5 := P4
  refine (C4.out _ _ _ T5.out).mono ?_
  rintro e x5 ⟨u5, rfl, q5, b5⟩
  obtain ⟨a5, p5, e5', h5⟩ := q5.bytes Y4.out
  subst e5'
  have D5 := Lib.hid (A5.out.below b5)
  have H5 := Lib.hid h5
  clear q5 b5 h5 A5 T5 P4
  go_wp2_with (at_builtin; go_must (refine wpList_append_bytes rfl _ _ rfl (w.heap.size + 1) v4 (l ++ (y1 ++ (y2 ++ y3))) y4 rfl D5.out.own a5 p5 rfl H5.out (by simp only [List.length_append]; omega) D5.out.few ?_))
  rintro v5 w5 o5 g5
  have P5 := Lib.hid (D5.out.put o5 g5)
  clear o5 g5 D5 H5
  go_wp2_with fail
  go_ret
  refine ⟨_, rfl, ?_, P5.out.low⟩
  have := P5.out.own
  rw [HF.out]
  first | exact this.base (by omega) | (simp only [List.append_assoc] at *; exact this.base (by omega))

end Go.Proofs.Ytieoihmndpkdoaa
