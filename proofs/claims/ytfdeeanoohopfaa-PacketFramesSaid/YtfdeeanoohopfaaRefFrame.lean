/- What the document's Frame answers. -/
import Derived.Test.YtfdeeanoohopfaaFrame
import Derived.Deep.DeepCutAuto
namespace Go.Proofs.Ytfdeeanoohopfaa
open Go.ChangeShapes Go.WideShapes Go.ChangeAt Go.RowKit

theorem wp_append_bytes {w : World} {o : Oper} {a : Act} {K : Act → World → Prop} {Q : Exit → Act → World → Prop} (s x : Operand)
    (ho : o.op = .call { callee := .builtin .append, args := #[s, x], argTypes := #[22, 22] }) (base : Nat) (v : Value) (xs ys : List Nat) (hs : a.eval s = v) (hown : OwnB w base v xs) (A : Option Addr) (cA : Nat)
    (hx : a.eval x = .slice A ys.length cA) (hy : BytesP w A cA ys) (hlen : xs.length + ys.length ≤ 10000000) (hb : base ≤ w.heap.size)
    (h : ∀ v' w', OwnB w' base v' (xs ++ ys) → w.grownBy w' v.ownBlock → K (a.put o.dst v') w') : o.wp Try.prog a w K Q := by
  obtain ⟨v', w', hr, h1, h2⟩ := run_append_bytes w base v xs ys hown A cA hy hlen hb o.type
  unfold Oper.wp execOp
  simp only [ho, resolve, invoke, builtin, Sem.run_bind, Sem.run_pure, Result.andThen_ok, List.map_toArray, List.map_cons, List.map_nil, hs, hx, hr]
  exact h v' w' h1 h2

theorem step_append_bytes {w : World} {ops : Array Oper} {o : Oper} {a : Act} {K : Act → World → Prop} {Q : Exit → Act → World → Prop} {E : Prop} (hgd : o.guard = none) (s x : Operand)
    (ho : o.op = .call { callee := .builtin .append, args := #[s, x], argTypes := #[22, 22] }) (base : Nat) (v : Value) (xs ys : List Nat) (hs : a.eval s = v) (hown : OwnB w base v xs) (A : Option Addr) (cA : Nat)
    (hx : a.eval x = .slice A ys.length cA) (hy : BytesP w A cA ys) (hlen : xs.length + ys.length ≤ 10000000) (hb : base ≤ w.heap.size)
    (h : ∀ v' w', OwnB w' base v' (xs ++ ys) → w.grownBy w' v.ownBlock → K (a.put o.dst v') w') :
    if Region.wanted o (yielded ops a.tmps) = true then Oper.wp Try.prog o a w K Q else E := by
  have hw : Region.wanted o (yielded ops a.tmps) = true := by simp [Region.wanted, hgd]
  rw [if_pos hw]
  exact wp_append_bytes s x ho base v xs ys hs hown A cA hx hy hlen hb h

/-- The frame that came in lies in block g. -/
def Boxed (g k : Nat) (a : Option Addr) (n cap : Nat) (w : World) : Prop := w.heap[g]? = some (.cells #[.int .u8 (k : Int), .slice a n cap] 27 (0, 0))

theorem boxed_cells {g k : Nat} {a : Option Addr} {n cap : Nat} {w : World} (h : Boxed g k a n cap w) : w.cell? ⟨g, 0, none⟩ = some (.int .u8 (k : Int)) ∧ w.cell? ⟨g, 1, none⟩ = some (.slice a n cap) := by
  unfold Boxed at h
  simp [World.cell?, h]
theorem Boxed.below {g k : Nat} {a : Option Addr} {n cap : Nat} {w w' : World} (h : Boxed g k a n cap w) (hb : Below w.heap.size w w') : Boxed g k a n cap w' := (hb.block g (Array.getElem?_eq_some_iff.1 h).1).trans h
theorem Boxed.lt {g k : Nat} {a : Option Addr} {n cap : Nat} {w : World} (h : Boxed g k a n cap w) : g < w.heap.size := (Array.getElem?_eq_some_iff.1 h).1
theorem Boxed.grown {g k : Nat} {a : Option Addr} {n cap : Nat} {w w' : World} {row : Option Nat} (h : Boxed g k a n cap w) (hg : w.grownBy w' row) (hr : ∀ j, row = some j → j ≠ g) : Boxed g k a n cap w' :=
  (hg.block g h.lt (fun e => hr g e.symm rfl)).trans h

theorem own_head (k : Nat) (W : World) : OwnB (W.alloc (.cells #[.int .u8 167, .int .u8 1, .int .u8 (k : Int)] 5)) W.heap.size (.slice (some ⟨W.heap.size, 0, none⟩) 3 3) [167, 1, k] := own_block [167, 1, k] (by simp) W

/-- The length's bytes are there. -/
def LenPost (n k : Nat) (a : Option Addr) (cap : Nat) (w : World) (Q : World → Prop) (e : Ending) (w' : World) : Prop :=
  ∃ ad c, e = .returned (.slice ad (numL n).length c) ∧ BytesP w' ad c (numL n) ∧ Boxed w.heap.size k a n cap w' ∧ Below w.heap.size w w' ∧ Q w'

theorem len_first (n k : Nat) (a : Option Addr) (cap : Nat) (w : World) (hn : n < 18446744073709551616) :
    Calls Try.prog 16 #[.int .u64 (n : Int)] (w.alloc (.cells #[.int .u8 (k : Int), .slice a n cap] 27)).drew (LenPost n k a cap w fun _ => True) := by
  have hb1 := ((Below.refl w.heap.size w).alloc (Nat.le_refl _) (.cells #[.int .u8 (k : Int), .slice a n cap] 27)).drew
  have hx : Boxed w.heap.size k a n cap (w.alloc (.cells #[.int .u8 (k : Int), .slice a n cap] 27)).drew := heap_alloc_new w _
  refine (refNumber_any n _ hn).mono ?_
  rintro e w' ⟨v, rfl, ho, hb⟩
  obtain ⟨ad, c, rfl, hB⟩ := ho.bytes (numL_bytes n)
  exact ⟨ad, c, rfl, hB, hx.below hb, hb1.trans (hb.mono hb1.size), trivial⟩

theorem len_behind (n k : Nat) (a : Option Addr) (cap : Nat) (w : World) (hn : n < 18446744073709551616) :
    Calls Try.prog 16 #[.int .u64 (n : Int)] ((w.alloc (.cells #[.int .u8 (k : Int), .slice a n cap] 27)).alloc (.cells #[.int .u8 167, .int .u8 1, .int .u8 (k : Int)] 5)).drew
      (LenPost n k a cap w fun w' => OwnB w' w.heap.size (.slice (some ⟨w.heap.size + 1, 0, none⟩) 3 3) [167, 1, k]) := by
  have hb0 := (Below.refl w.heap.size w).alloc (Nat.le_refl _) (.cells #[.int .u8 (k : Int), .slice a n cap] 27)
  have hb1 := (hb0.alloc hb0.size (.cells #[.int .u8 167, .int .u8 1, .int .u8 (k : Int)] 5)).drew
  have hx0 : Boxed w.heap.size k a n cap (w.alloc (.cells #[.int .u8 (k : Int), .slice a n cap] 27)) := heap_alloc_new w _
  have hx : Boxed w.heap.size k a n cap ((w.alloc (.cells #[.int .u8 (k : Int), .slice a n cap] 27)).alloc (.cells #[.int .u8 167, .int .u8 1, .int .u8 (k : Int)] 5)).drew := hx0.below ((Below.refl _ _).alloc (Nat.le_refl _) _).drew
  have ho1 := own_head k (w.alloc (.cells #[.int .u8 (k : Int), .slice a n cap] 27))
  rw [show (w.alloc (.cells #[.int .u8 (k : Int), .slice a n cap] 27)).heap.size = w.heap.size + 1 by simp] at ho1
  have ho2 : OwnB ((w.alloc (.cells #[.int .u8 (k : Int), .slice a n cap] 27)).alloc (.cells #[.int .u8 167, .int .u8 1, .int .u8 (k : Int)] 5)).drew (w.heap.size + 1) (.slice (some ⟨w.heap.size + 1, 0, none⟩) 3 3) [167, 1, k] := ho1.below (Below.refl _ _).drew
  refine (refNumber_any n _ hn).mono ?_
  rintro e w' ⟨v, rfl, ho, hb⟩
  obtain ⟨ad, c, rfl, hB⟩ := ho.bytes (numL_bytes n)
  exact ⟨ad, c, rfl, hB, hx.below hb, hb1.trans (hb.mono hb1.size), (ho2.below hb).base (by omega)⟩

set_option maxHeartbeats 4000000 in
theorem refFrame_any (k : Nat) (a : Option Addr) (cap : Nat) (l : List Nat) (w : World) (h : BytesP w a cap l) (hk : k < 256) (hl : l.length ≤ 65536) : Calls Try.prog 19 #[.agg #[.int .u8 (k : Int), .slice a l.length cap]] w (FramePost (frameL k l) w) := by
  have hwz : IntKind.u64.wrap (l.length : Int) = (l.length : Int) := by rw [IntKind.wrap_u64]; omega
  have hl' : decide (65536 < (l.length : Int)) = false := by simp; omega
  have H := Lib.hid h
  have L1 := Lib.hid (len_first l.length k a cap w (by omega))
  have L2 := Lib.hid (len_behind l.length k a cap w (by omega))
  have hten := numL_ten (show l.length < 18446744073709551616 by omega)
  have hnl := numL_bytes l.length
  have hhd : Bytes ([167, 1, k] ++ numL l.length) := headL_bytes hk (body := l)
  have HF := Lib.hid (show frameL k l = ((([167, 1, k] ++ numL l.length) ++ l) ++ four (crc (([167, 1, k] ++ numL l.length) ++ l))) by unfold frameL headL; simp)
  have HHD := Lib.hid hhd
  have HHL := Lib.hid (show ([167, 1, k] ++ numL l.length).length ≤ 13 by rw [List.length_append]; simp; omega)
  clear h hnl hhd
  go_enter Try.func19, Try.ntmps19
  go_wp2_with fail
  go_cut [4] (fun s4 wx => Hid (OwnB wx w.heap.size s4 ([167, 1, k] ++ numL l.length)) ∧ Hid (Boxed w.heap.size k a l.length cap wx) ∧ Hid (Below w.heap.size w wx))
  case first =>
    go_region_law (first
      | (go_simp; go_at_call 16; (first | with_reducible refine L1.out.mono ?_ | with_reducible refine L2.out.mono ?_); rintro e w4 ⟨a4, c4, rfl, hB4, x4, b4, q4⟩
         have HB4 := Lib.hid hB4
         have X4 := Lib.hid x4
         have B4 := Lib.hid b4
         have Q4 := Lib.hid q4
         obtain ⟨y0, y1⟩ := boxed_cells x4
         clear hB4 b4 q4 x4)
      | (refine step_append_bytes rfl (.tmp 11) (.tmp 16) rfl w.heap.size (.slice (some ⟨w.heap.size + 1, 0, none⟩) 3 3) [167, 1, k] (numL l.length) (by simp [Act.eval]) Q4.out a4 c4 (by simp [Act.eval]) HB4.out (by simp; omega) B4.out.size ?_
         intro v5 w5 o5 g5
         have O5 := Lib.hid o5
         have B5 := Lib.hid (B4.out.grown g5 B4.out.size Q4.out.row)
         have X5 := Lib.hid (X4.out.grown g5 (fun j hj => by simp [Value.ownBlock] at hj; omega))
         clear o5 g5)
      | (refine step_append_bytes rfl (.tmp 11) (.tmp 16) rfl w.heap.size (.slice (some ⟨w4.heap.size, 0, none⟩) 3 3) [167, 1, k] (numL l.length) (by simp [Act.eval]) ((own_head k w4).base B4.out.size) a4 c4 (by simp [Act.eval]) (HB4.out.below ((Below.refl _ _).alloc (Nat.le_refl _) _)) (by simp; omega) (B4.out.alloc B4.out.size _).size ?_
         intro v5 w5 o5 g5
         have O5 := Lib.hid o5
         have B5 := Lib.hid ((B4.out.alloc B4.out.size (.cells #[.int .u8 167, .int .u8 1, .int .u8 (k : Int)] 5)).grown g5 (B4.out.alloc B4.out.size _).size ((own_head k w4).base B4.out.size).row)
         have X5 := Lib.hid ((X4.out.below ((Below.refl _ _).alloc (Nat.le_refl _) (.cells #[.int .u8 167, .int .u8 1, .int .u8 (k : Int)] 5))).grown g5 (fun j hj => by simp [Value.ownBlock] at hj; have := X4.out.lt; omega))
         clear o5 g5))
    all_goals
      go_wp2_with fail
      go_meet
      exact ⟨O5, X5, B5⟩
  case rest =>
    obtain ⟨O5, X5, B5⟩ := hcut
    obtain ⟨y0, y1⟩ := boxed_cells X5.out
    have KB := Lib.hid (H.out.below B5.out)
    have HBY := Lib.hid (show Bytes (([167, 1, k] ++ numL l.length) ++ l) from bytes_app HHD.out H.out.byte)
    have hn := crc_lt HBY.out
    have HLL := Lib.hid (show (([167, 1, k] ++ numL l.length) ++ l).length ≤ 70000 by rw [List.length_append]; have := HHL.out; omega)
    have hhl := HHL.out
    clear L1 L2 HHL X5
    generalize hhd : [167, 1, k] ++ numL l.length = hd at *
    have hb5 := B5.out.size
    go_wp2_with (at_builtin; go_must (refine wpList_append_bytes rfl _ _ rfl w.heap.size _ hd l rfl O5.out a cap rfl KB.out (by omega) hb5 ?_))
    rintro v6 w6 o6 g6
    have B6 := Lib.hid (B5.out.grown g6 B5.out.size O5.out.row)
    obtain ⟨a6, c6, e6, hB6⟩ := o6.bytes HBY.out
    subst e6
    have O6 := Lib.hid o6
    have C1 := Lib.hid (refOf_any a6 c6 (hd ++ l) w6 hB6)
    have C2 := Lib.hid (refFour_any (crc (hd ++ l)) w6 hn)
    have hLL := HLL.out
    clear o6 g6 hB6 hhd HLL
    generalize crc (hd ++ l) = n at *
    generalize hd ++ l = R at *
    have F4 := Lib.hid (four_bytes n)
    have HF4 := Lib.hid (four_len n)
    generalize four n = fr at *
    go_wp2_with fail
    refine C1.out.mono ?_
    rintro e w' ⟨rfl, rfl⟩
    go_wp2_with fail
    refine C2.out.mono ?_
    rintro e w7 ⟨v7, rfl, o7, b7⟩
    obtain ⟨a7, c7, e7, hB7⟩ := o7.bytes F4.out
    subst e7
    have HB7 := Lib.hid hB7
    have O7 := Lib.hid (O6.out.below b7)
    have B7 := Lib.hid (B6.out.trans (b7.mono B6.out.size))
    have hb7 := B7.out.size
    clear o7 b7 hB7
    go_wp2_with (at_builtin; go_must (refine wpList_append_bytes rfl _ _ rfl w.heap.size _ R fr rfl O7.out a7 c7 rfl HB7.out (by have := HF4.out; omega) hb7 ?_))
    rintro v8 w8 o8 g8
    have B8 := Lib.hid (B7.out.grown g8 B7.out.size O7.out.row)
    have O8 := Lib.hid o8
    clear o8 g8
    go_wp2_with fail
    go_ret2
    exact ⟨_, rfl, by rw [HF.out]; exact O8.out, B8.out⟩

end Go.Proofs.Ytfdeeanoohopfaa
