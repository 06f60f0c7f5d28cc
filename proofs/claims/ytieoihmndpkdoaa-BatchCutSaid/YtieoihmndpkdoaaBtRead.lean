/- What readGroup, read and Take of package batch answer. -/
import Derived.Test.YtieoihmndpkdoaaBtOwn
import Derived.Test.YtieoihmndpkdoaaBtRight
import Derived.Deep.RegionLaw
namespace Go.Proofs.Ytieoihmndpkdoaa
set_option maxRecDepth 100000
open Go.RowKit Go.ChangeShapes Go.WideShapes Go.ChangeAt

/-- A batch is answered, whose members are the call's own; the Reader is further on. -/
def ReadBt (g : Nat) (b : Bt) (s : Sc) (w : World) (e : Ending) (w' : World) : Prop :=
  ∃ a cap, e = .returned (btV a cap b) ∧ OwnT w' w.heap.size (.slice a b.mem.length cap) b.mem ∧ RdS w' g s ∧ But g w w'
/-- A batch's variable while its members are read. -/
def vB (i k p t f : Nat) (x y z : List Nat) (v : Value) : Array Value := #[.int .i64 (i : Int), .int .i64 (t : Int), .int .i64 (f : Int), .int .i64 (k : Int), .int .i64 (p : Int), .string (strB x), .string (strB y), .string (strB z), v]

theorem takeB_of {s s1 s2 s3 s4 s5 s6 s7 s8 : Sc} {v1 v2 v3 v4 v5 v7 : Nat} {t1 t2 t3 : List Nat} {acc : List ByteArray} (h1 : numS 1000000000000 s = (v1, s1)) (h2 : numS 2 s1 = (v2, s2)) (h3 : numS 3 s2 = (v3, s3)) (h4 : numS 1000000000000 s3 = (v4, s4))
    (h5 : numS 1099511627776 s4 = (v5, s5)) (h6 : groupS s5 = ((t1, t2, t3), s6)) (h7 : numS 64 s6 = (v7, s7)) (h8 : textsS v7 s7 = (acc, s8)) :
    takeB s = (⟨(v1 : Int), (v4 : Int), (v5 : Int), (v2 : Int), (v3 : Int), strB t1, strB t2, strB t3, acc⟩, s8) := by
  simp only [takeB, h1, h2, h3, h4, h5, h6, h7, h8]
theorem textS_strB {s : Sc} (h : BytesS s) : (strB (textS 32 s).1).size ≤ 32 := by rw [strB_size]; exact textS_le 32 h

set_option maxRecDepth 100000 in
set_option maxHeartbeats 4000000 in
theorem btReadGroup_any (w : World) (g : Nat) (s : Sc) (h : RdS w g s) : Calls Try.prog 64 #[.pointer (some ⟨g, 0, none⟩)] w (ReadS g (groupV (groupS s).1) (groupS s).2 w) := by
  have hg := h.lt
  have K0 := Lib.hid (Rin.begin h 25 #[.string ⟨#[]⟩, .string ⟨#[]⟩, .string ⟨#[]⟩])
  have y1 := h.bytes
  rcases h1 : textS 32 s with ⟨v1, s1⟩
  have z1 : BytesS s1 := by have := (textS_bytes y1 32).1; rwa [h1] at this
  have C1 := Lib.hid (fun W hW => show Calls Try.prog 65 #[.pointer (some ⟨g, 0, none⟩), .int .i64 32] W (ReadS g (.string (strB v1)) s1 W) by have := rd_text W g s 32 hW (by decide); rwa [h1] at this)
  have y2 := z1
  rcases h2 : textS 32 s1 with ⟨v2, s2⟩
  have z2 : BytesS s2 := by have := (textS_bytes y2 32).1; rwa [h2] at this
  have C2 := Lib.hid (fun W hW => show Calls Try.prog 65 #[.pointer (some ⟨g, 0, none⟩), .int .i64 32] W (ReadS g (.string (strB v2)) s2 W) by have := rd_text W g s1 32 hW (by decide); rwa [h2] at this)
  have y3 := z2
  rcases h3 : textS 32 s2 with ⟨v3, s3⟩
  have z3 : BytesS s3 := by have := (textS_bytes y3 32).1; rwa [h3] at this
  have C3 := Lib.hid (fun W hW => show Calls Try.prog 65 #[.pointer (some ⟨g, 0, none⟩), .int .i64 32] W (ReadS g (.string (strB v3)) s3 W) by have := rd_text W g s2 32 hW (by decide); rwa [h3] at this)
  have HP := Lib.hid (show groupS s = ((v1, v2, v3), s3) by simp only [groupS, h1, h2, h3])
  clear h h1 h2 h3 y1 y2 y3 z1 z2 z3
  go_enter Try.func64, Try.ntmps64
  go_wp2_with fail
  generalize (w.alloc (Obj.cells #[Value.string ⟨#[]⟩, Value.string ⟨#[]⟩, Value.string ⟨#[]⟩] 25)).alloc (Obj.cells #[Value.string ⟨#[]⟩, Value.string ⟨#[]⟩, Value.string ⟨#[]⟩] 25) = W0 at *
  refine (C1.out _ K0.out.rd).mono ?_
  rintro e w1 ⟨rfl, r1, b1⟩
  have J1 := Lib.hid (K0.out.call hg r1 b1)
  obtain ⟨⟨c0, c1, c2⟩, f0, f1, f2⟩ := cellsR3 J1.out.var
  clear r1 b1
  have K1 := Lib.hid (J1.out.set hg 0 (.string (strB v1)))
  go_wp2_with fail
  clear c0 c1 c2 f0 f1 f2
  generalize w1.setCell ⟨w.heap.size + 1, 0, none⟩ (.string (strB v1)) = W1 at *
  refine (C2.out _ K1.out.rd).mono ?_
  rintro e w2 ⟨rfl, r2, b2⟩
  have J2 := Lib.hid (K1.out.call hg r2 b2)
  obtain ⟨⟨c0, c1, c2⟩, f0, f1, f2⟩ := cellsR3 J2.out.var
  clear r2 b2
  have K2 := Lib.hid (J2.out.set hg 1 (.string (strB v2)))
  go_wp2_with fail
  clear c0 c1 c2 f0 f1 f2
  generalize w2.setCell ⟨w.heap.size + 1, 1, none⟩ (.string (strB v2)) = W2 at *
  refine (C3.out _ K2.out.rd).mono ?_
  rintro e w3 ⟨rfl, r3, b3⟩
  have J3 := Lib.hid (K2.out.call hg r3 b3)
  obtain ⟨⟨c0, c1, c2⟩, f0, f1, f2⟩ := cellsR3 J3.out.var
  clear r3 b3
  have K3 := Lib.hid (J3.out.set hg 2 (.string (strB v3)))
  go_wp2_with (refine wpList_store_row rfl 25 _ _ rfl w.heap.size #[.string (strB v1), .string (strB v2), .string (strB v3)] rfl rfl 25 #[.string ⟨#[]⟩, .string ⟨#[]⟩, .string ⟨#[]⟩] K3.out.res (sizeG _ _ _) rfl (by simp [Value.oneCell']) ?_)
  (try simp only [Exit.inBlock, Exit.then])
  refine bodyPost_ret (v := .agg #[.string (strB v1), .string (strB v2), .string (strB v3)]) ?_ rfl ⟨by rw [HP.out]; rfl, by rw [HP.out]; exact (K3.out.fin hg _).1, (K3.out.fin hg _).2⟩
  exact results_cell_row rfl _ _ w.heap.size 25 _ (0, 0) _ rfl (setRow_heap _ _ _ _ _ _ K3.out.res) Try.underlying25 rfl (sizeG _ _ _)


set_option maxRecDepth 100000 in
set_option maxHeartbeats 8000000 in
theorem btRead_any (w : World) (g : Nat) (s : Sc) (h : RdS w g s) : Calls Try.prog 50 #[.pointer (some ⟨g, 0, none⟩)] w (ReadBt g (takeB s).1 (takeB s).2 w) := by
  have hg := h.lt
  have K0 := Lib.hid (Rin.begin h 28 zB)
  have y1 := h.bytes
  rcases h1 : numS 1000000000000 s with ⟨v1, s1⟩
  have C1 := Lib.hid (fun W hW => show Calls Try.prog 63 #[.pointer (some ⟨g, 0, none⟩), .int .u64 1000000000000] W (ReadS g (.int .u64 (v1 : Int)) s1 W) by have := rd_num W g s 1000000000000 hW (by decide); rwa [h1] at this)
  have y2 : BytesS s1 := by have := numS_bytes y1 1000000000000; rwa [h1] at this
  have n1 : v1 ≤ 1000000000000 := by have := numS_le 1000000000000 s y1; rwa [h1] at this
  have e1 : IntKind.i64.wrap (v1 : Int) = (v1 : Int) := by rw [IntKind.wrap_i64]; omega
  rcases h2 : numS 2 s1 with ⟨v2, s2⟩
  have C2 := Lib.hid (fun W hW => show Calls Try.prog 63 #[.pointer (some ⟨g, 0, none⟩), .int .u64 2] W (ReadS g (.int .u64 (v2 : Int)) s2 W) by have := rd_num W g s1 2 hW (by decide); rwa [h2] at this)
  have y3 : BytesS s2 := by have := numS_bytes y2 2; rwa [h2] at this
  have n2 : v2 ≤ 2 := by have := numS_le 2 s1 y2; rwa [h2] at this
  have e2 : IntKind.i64.wrap (v2 : Int) = (v2 : Int) := by rw [IntKind.wrap_i64]; omega
  rcases h3 : numS 3 s2 with ⟨v3, s3⟩
  have C3 := Lib.hid (fun W hW => show Calls Try.prog 63 #[.pointer (some ⟨g, 0, none⟩), .int .u64 3] W (ReadS g (.int .u64 (v3 : Int)) s3 W) by have := rd_num W g s2 3 hW (by decide); rwa [h3] at this)
  have y4 : BytesS s3 := by have := numS_bytes y3 3; rwa [h3] at this
  have n3 : v3 ≤ 3 := by have := numS_le 3 s2 y3; rwa [h3] at this
  have e3 : IntKind.i64.wrap (v3 : Int) = (v3 : Int) := by rw [IntKind.wrap_i64]; omega
  rcases h4 : numS 1000000000000 s3 with ⟨v4, s4⟩
  have C4 := Lib.hid (fun W hW => show Calls Try.prog 63 #[.pointer (some ⟨g, 0, none⟩), .int .u64 1000000000000] W (ReadS g (.int .u64 (v4 : Int)) s4 W) by have := rd_num W g s3 1000000000000 hW (by decide); rwa [h4] at this)
  have y5 : BytesS s4 := by have := numS_bytes y4 1000000000000; rwa [h4] at this
  have n4 : v4 ≤ 1000000000000 := by have := numS_le 1000000000000 s3 y4; rwa [h4] at this
  have e4 : IntKind.i64.wrap (v4 : Int) = (v4 : Int) := by rw [IntKind.wrap_i64]; omega
  rcases h5 : numS 1099511627776 s4 with ⟨v5, s5⟩
  have C5 := Lib.hid (fun W hW => show Calls Try.prog 63 #[.pointer (some ⟨g, 0, none⟩), .int .u64 1099511627776] W (ReadS g (.int .u64 (v5 : Int)) s5 W) by have := rd_num W g s4 1099511627776 hW (by decide); rwa [h5] at this)
  have y6 : BytesS s5 := by have := numS_bytes y5 1099511627776; rwa [h5] at this
  have n5 : v5 ≤ 1099511627776 := by have := numS_le 1099511627776 s4 y5; rwa [h5] at this
  have e5 : IntKind.i64.wrap (v5 : Int) = (v5 : Int) := by rw [IntKind.wrap_i64]; omega
  rcases h6 : groupS s5 with ⟨⟨t1, t2, t3⟩, s6⟩
  have C6 := Lib.hid (fun W hW => show Calls Try.prog 64 #[.pointer (some ⟨g, 0, none⟩)] W (ReadS g (.agg #[.string (strB t1), .string (strB t2), .string (strB t3)]) s6 W) by have := btReadGroup_any W g s5 hW; rwa [h6] at this)
  have y7 : BytesS s6 := by have := groupS_bytes y6; rwa [h6] at this
  rcases h7 : numS 64 s6 with ⟨v7, s7⟩
  have C7 := Lib.hid (fun W hW => show Calls Try.prog 63 #[.pointer (some ⟨g, 0, none⟩), .int .u64 64] W (ReadS g (.int .u64 (v7 : Int)) s7 W) by have := rd_num W g s6 64 hW (by decide); rwa [h7] at this)
  have y8 : BytesS s7 := by have := numS_bytes y7 64; rwa [h7] at this
  have n7 : v7 ≤ 64 := by have := numS_le 64 s6 y7; rwa [h7] at this
  have HH := Lib.hid (And.intro h1 (And.intro h2 (And.intro h3 (And.intro h4 (And.intro h5 (And.intro h6 h7))))))
  have Y8 := Lib.hid y8
  clear h1 h2 h3 h4 h5 h6 h7 y1 y2 y3 y4 y5 y6 y7 y8 n1 n2 n3 n4 n5
  unfold zB at K0
  go_enter Try.func50, Try.ntmps50
  go_wp2_with fail
  generalize (w.alloc (Obj.cells #[Value.int .i64 0, Value.int .i64 0, Value.int .i64 0, Value.int .i64 0, Value.int .i64 0, Value.string ⟨#[]⟩, Value.string ⟨#[]⟩, Value.string ⟨#[]⟩, Value.slice none 0 0] 28)).alloc (Obj.cells #[Value.int .i64 0, Value.int .i64 0, Value.int .i64 0, Value.int .i64 0, Value.int .i64 0, Value.string ⟨#[]⟩, Value.string ⟨#[]⟩, Value.string ⟨#[]⟩, Value.slice none 0 0] 28) = W0 at *
  refine (C1.out _ K0.out.rd).mono ?_
  rintro e w1 ⟨rfl, r1, b1⟩
  have J1 := Lib.hid (K0.out.call hg r1 b1)
  obtain ⟨⟨⟨c0, c1, c2, c3, c4⟩, c5, c6, c7, c8⟩, f⟩ := cellsR9 J1.out.var
  clear r1 b1 K0
  have K1 := Lib.hid (J1.out.set hg 0 (.int .i64 (v1 : Int)))
  clear J1
  go_wp2_with fail
  clear c0 c1 c2 c3 c4 c5 c6 c7 c8 f
  generalize w1.setCell ⟨w.heap.size + 1, 0, none⟩ (.int .i64 (v1 : Int)) = W1 at *
  refine (C2.out _ K1.out.rd).mono ?_
  rintro e w2 ⟨rfl, r2, b2⟩
  have J2 := Lib.hid (K1.out.call hg r2 b2)
  obtain ⟨⟨⟨c0, c1, c2, c3, c4⟩, c5, c6, c7, c8⟩, f⟩ := cellsR9 J2.out.var
  clear r2 b2 K1
  have K2 := Lib.hid (J2.out.set hg 3 (.int .i64 (v2 : Int)))
  clear J2
  go_wp2_with fail
  clear c0 c1 c2 c3 c4 c5 c6 c7 c8 f
  generalize w2.setCell ⟨w.heap.size + 1, 3, none⟩ (.int .i64 (v2 : Int)) = W2 at *
  refine (C3.out _ K2.out.rd).mono ?_
  rintro e w3 ⟨rfl, r3, b3⟩
  have J3 := Lib.hid (K2.out.call hg r3 b3)
  obtain ⟨⟨⟨c0, c1, c2, c3, c4⟩, c5, c6, c7, c8⟩, f⟩ := cellsR9 J3.out.var
  clear r3 b3 K2
  have K3 := Lib.hid (J3.out.set hg 4 (.int .i64 (v3 : Int)))
  clear J3
  go_wp2_with fail
  clear c0 c1 c2 c3 c4 c5 c6 c7 c8 f
  generalize w3.setCell ⟨w.heap.size + 1, 4, none⟩ (.int .i64 (v3 : Int)) = W3 at *
  refine (C4.out _ K3.out.rd).mono ?_
  rintro e w4 ⟨rfl, r4, b4⟩
  have J4 := Lib.hid (K3.out.call hg r4 b4)
  obtain ⟨⟨⟨c0, c1, c2, c3, c4⟩, c5, c6, c7, c8⟩, f⟩ := cellsR9 J4.out.var
  clear r4 b4 K3
  have K4 := Lib.hid (J4.out.set hg 1 (.int .i64 (v4 : Int)))
  clear J4
  go_wp2_with fail
  clear c0 c1 c2 c3 c4 c5 c6 c7 c8 f
  generalize w4.setCell ⟨w.heap.size + 1, 1, none⟩ (.int .i64 (v4 : Int)) = W4 at *
  refine (C5.out _ K4.out.rd).mono ?_
  rintro e w5 ⟨rfl, r5, b5⟩
  have J5 := Lib.hid (K4.out.call hg r5 b5)
  obtain ⟨⟨⟨c0, c1, c2, c3, c4⟩, c5, c6, c7, c8⟩, f⟩ := cellsR9 J5.out.var
  clear r5 b5 K4
  have K5 := Lib.hid (J5.out.set hg 2 (.int .i64 (v5 : Int)))
  clear J5
  go_wp2_with fail
  clear c0 c1 c2 c3 c4 c5 c6 c7 c8 f
  generalize w5.setCell ⟨w.heap.size + 1, 2, none⟩ (.int .i64 (v5 : Int)) = W5 at *
  refine (C6.out _ K5.out.rd).mono ?_
  rintro e w6 ⟨rfl, r6, b6⟩
  have J6 := Lib.hid (K5.out.call hg r6 b6)
  obtain ⟨⟨⟨c0, c1, c2, c3, c4⟩, c5, c6, c7, c8⟩, f⟩ := cellsR9 J6.out.var
  clear r6 b6 K5
  have K6 := Lib.hid (((J6.out.set hg 5 (.string (strB t1))).set hg 6 (.string (strB t2))).set hg 7 (.string (strB t3)))
  clear J6
  go_wp2_with fail
  clear c0 c1 c2 c3 c4 c5 c6 c7 c8 f
  generalize ((w6.setCell ⟨w.heap.size + 1, 5, none⟩ (.string (strB t1))).setCell ⟨w.heap.size + 1, 6, none⟩ (.string (strB t2))).setCell ⟨w.heap.size + 1, 7, none⟩ (.string (strB t3)) = W6 at *
  refine (C7.out _ K6.out.rd).mono ?_
  rintro e w7 ⟨rfl, r7, b7⟩
  have K7 : Hid (Rin w g 28 zB (vB v1 v2 v3 v4 v5 t1 t2 t3 (.slice none 0 0)) s7 w7) := Lib.hid (K6.out.call hg r7 b7)
  clear r7 b7 K6 C1 C2 C3 C4 C5 C6 C7
  go_wp2_with fail
  go_loopw [29] (fun i wr => ∃ (k : Nat) (acc : List ByteArray) (vl : Value) (sk : Sc), k ≤ v7 ∧ i = .int .u64 k ∧ Hid (Rin w g 28 zB (vB v1 v2 v3 v4 v5 t1 t2 t3 vl) sk wr) ∧ Hid (OwnT wr (w.heap.size + 2) vl acc) ∧ acc.length = k ∧ Hid (BytesS sk) ∧ Hid (textsS v7 s7 = (acc ++ (textsS (v7 - k) sk).1, (textsS (v7 - k) sk).2))) (fun i _ => v7 - (intOf i).toNat)
  case atStart => exact ⟨0, [], _, s7, Nat.zero_le _, rfl, K7, Lib.hid (OwnT.nil _ _), rfl, Y8, Lib.hid (by simp)⟩
  case round =>
    obtain ⟨k, acc, vl, sk, hk, rfl, HR, HO, hac, HB, HL⟩ := hrel
    by_cases hlt : k < v7
    · rcases hx : textS 32 sk with ⟨x, sx⟩
      have hsx : BytesS sx := by have := (textS_bytes HB.out 32).1; rwa [hx] at this
      have HN := Lib.hid (show textsS v7 s7 = ((acc ++ [strB x]) ++ (textsS (v7 - (k + 1)) sx).1, (textsS (v7 - (k + 1)) sx).2) by
        rw [HL.out, show v7 - k = (v7 - (k + 1)) + 1 by omega, textsS, hx]; simp)
      have HX := Lib.hid hsx
      have HK1 := Lib.hid (show (acc ++ [strB x]).length = k + 1 by rw [List.length_append, hac]; rfl)
      have C := Lib.hid (fun W hW => show Calls Try.prog 65 #[.pointer (some ⟨g, 0, none⟩), .int .i64 32] W (ReadS g (.string (strB x)) sx W) by have := rd_text W g sk 32 hW (by decide); rwa [hx] at this)
      clear hx hsx
      generalize strB x = xb at *
      obtain ⟨⟨⟨c0, c1, c2, c3, c4⟩, c5, c6, c7, c8⟩, f⟩ := cellsR9 HR.out.var
      have RW := Lib.hid (HR.out.far hg (Nat.le_refl _) (But.drew _ _))
      have OW := Lib.hid (HO.out.grown (w' := wr.drew) fun _ _ _ => rfl)
      go_wp2_with fail
      go_region_law (first
        | (go_simp; go_at_call 65; refine (C.out _ RW.out.rd).mono ?_; rintro e w3 ⟨rfl, r3, b3⟩; have R3 := Lib.hid (RW.out.call hg r3 b3); have O3 := Lib.hid (OW.out.grown (w' := w3) fun k h1 h2 => b3.block k h2 (by omega)); have y1 : w3.cell? ⟨w.heap.size + 1, 8, none⟩ = some vl := R3.out.var.cell 8; have yz := R3.out.var.lt; clear r3 b3)
        | (refine step_append_texts rfl (.tmp 32) (.tmp 35) rfl (w.heap.size + 2) vl acc [xb] (by simp [Act.eval]) (O3.out.below ((Below.refl _ _).alloc (Nat.le_refl _) _)) (some ⟨w3.heap.size, 0, none⟩) 1 (by simp [Act.eval]) (strs_block1 w3 xb) (by simp; omega) (by have := R3.out.var.lt; simp; omega) ?_; intro v4 w4 o4 g4; obtain ⟨a4, p4, e4⟩ := o4.shape; rw [HK1.out] at e4; subst e4; obtain ⟨q, hq, bq⟩ := But.grown g4 O3.out.row; have R4 := Lib.hid ((R3.out.far hg (Nat.le_refl _) (But.alloc _ _ _)).far hg hq bq); have O4 := Lib.hid o4; have z1 : w4.cell? ⟨w.heap.size + 1, 8, none⟩ = some vl := R4.out.var.cell 8; have zf : w4.frozen? ⟨w.heap.size + 1, 8, none⟩ = false := R4.out.var.free 8; clear o4 g4 bq))
      all_goals
        have R5 := Lib.hid (R4.out.set hg 8 (.slice a4 (k + 1) p4))
        have O5 := Lib.hid (O4.out.cell (k := w.heap.size + 1) (by omega) 8 (.slice a4 (k + 1) p4))
        go_wp2_with fail
        go_roundw
        case rel => exact ⟨k + 1, acc ++ [xb], _, sx, by omega, by go_num, R5, O5, HK1.out, HX, HN⟩
        case measure => simp [intOf]; omega
    · have HE := Lib.hid (show textsS v7 s7 = (acc, sk) by rw [HL.out, show v7 - k = 0 by omega, textsS]; simp)
      obtain ⟨av, cv, ev⟩ := HO.out.shape
      subst ev
      subst hac
      have HP := Lib.hid (takeB_of HH.out.1 HH.out.2.1 HH.out.2.2.1 HH.out.2.2.2.1 HH.out.2.2.2.2.1 HH.out.2.2.2.2.2.1 HH.out.2.2.2.2.2.2 HE.out)
      clear HL HE
      unfold vB at HR
      obtain ⟨⟨⟨c0, c1, c2, c3, c4⟩, c5, c6, c7, c8⟩, f⟩ := cellsR9 HR.out.var
      go_wp2_with (refine wpList_store_batch rfl _ _ rfl w.heap.size av cv ⟨(v1 : Int), (v4 : Int), (v5 : Int), (v2 : Int), (v3 : Int), strB t1, strB t2, strB t3, acc⟩ _ (by rfl) rfl rfl HR.out.res ?_)
      (try simp only [Exit.inBlock, Exit.then])
      have F := Lib.hid (HR.out.fin hg (btC av cv ⟨(v1 : Int), (v4 : Int), (v5 : Int), (v2 : Int), (v3 : Int), strB t1, strB t2, strB t3, acc⟩))
      apply bodyPost_ret
      case hd => rfl
      case hr => exact results_cell_row rfl _ _ w.heap.size 28 _ (0, 0) _ rfl (setRow_heap _ _ _ _ _ _ HR.out.res) Try.underlying28 rfl (size9 _ _ _ _ _ _ _ _ _)
      case hR =>
        rw [HP.out]
        exact ⟨av, cv, rfl, ((HO.out.grown (w' := _) fun k h1 h2 => setRow_other _ _ k _ (by omega)).base (by omega)), F.out.1, F.out.2⟩

end Go.Proofs.Ytieoihmndpkdoaa
