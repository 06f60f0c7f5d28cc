/- BtOwn, BtRead, BtTake, BtPut: together. -/
import Derived.Test.YtfmpibmhhfmajaaGreatDoorMgBatches
import Derived.Test.YtfmpibmhhfmajaaGreatDoorPSc
import Derived.WalkSpells
import Derived.Deep.RegionLaw
namespace Go.Proofs.YtfmpibmhhfmajaaGreatDoor

/- BtOwn: What own, hasRoom, Full and Part of package batch answer; an act's variables while it works on a batch. -/
section
set_option maxRecDepth 100000
open Go.RowKit Go.ChangeShapes Go.WideShapes Go.ChangeAt

abbrev zB : Array Value := #[.int .i64 0, .int .i64 0, .int .i64 0, .int .i64 0, .int .i64 0, .string ⟨#[]⟩, .string ⟨#[]⟩, .string ⟨#[]⟩, .slice none 0 0]
theorem cellsR9 {w : World} {g : Nat} {T : TypeId} {a0 a1 a2 a3 a4 a5 a6 a7 a8 : Value} (h : Row w g T #[a0, a1, a2, a3, a4, a5, a6, a7, a8]) :
    ((w.cell? ⟨g, 0, none⟩ = some a0 ∧ w.cell? ⟨g, 1, none⟩ = some a1 ∧ w.cell? ⟨g, 2, none⟩ = some a2 ∧ w.cell? ⟨g, 3, none⟩ = some a3 ∧ w.cell? ⟨g, 4, none⟩ = some a4) ∧
     w.cell? ⟨g, 5, none⟩ = some a5 ∧ w.cell? ⟨g, 6, none⟩ = some a6 ∧ w.cell? ⟨g, 7, none⟩ = some a7 ∧ w.cell? ⟨g, 8, none⟩ = some a8) ∧ ∀ o, w.frozen? ⟨g, o, none⟩ = false :=
  ⟨⟨⟨h.cell 0, h.cell 1, h.cell 2, h.cell 3, h.cell 4⟩, h.cell 5, h.cell 6, h.cell 7, h.cell 8⟩, h.free⟩
theorem size9 (x0 x1 x2 x3 x4 x5 x6 x7 x8 : Value) : (Tryz.prog.info? 98).map (·.size) = some #[x0, x1, x2, x3, x4, x5, x6, x7, x8].size := by
  show _ = some 9
  kernel_rfl
theorem wpList_store_batch {ops : Array Oper} {rest : List Oper} {o : Oper} {ac : Act} {w : World} {Q : Exit → Act → World → Prop} (hgd : o.guard = none) (x y : Operand) (ho : o.op = .store 98 x y)
    (g : Nat) (a : Option Addr) (cap : Nat) (b : Bt) (old : Array Value) (h9 : old.size = 9) (hx : ac.eval x = .pointer (some ⟨g, 0, none⟩))
    (hy : ac.eval y = btV a cap b) (hg : Row w g 98 old)
    (h : wpList Tryz.prog ops Q rest (ac.put o.dst undef) (w.setRow g (btC a cap b))) : wpList Tryz.prog ops Q (o :: rest) ac w :=
  wpList_store_row hgd 98 x y ho g _ hx hy 98 old hg (size9 _ _ _ _ _ _ _ _ _) h9 (by simp [Value.oneCell']) h
theorem load9 {w : World} {g : Nat} {a : Option Addr} {cap : Nat} {b : Bt} (hg : Row w g 98 (btC a cap b)) : (loadVar 98 ⟨g, 0, none⟩).run Tryz.prog w = .ok (btV a cap b) w :=
  run_loadVar_row w g 98 98 _ (0, 0) _ hg Tryz.underlying98 rfl (size9 _ _ _ _ _ _ _ _ _)
theorem OwnT.cell {w : World} {base k : Nat} {v : Value} {ls : List ByteArray} (h : OwnT w base v ls) (hk : k < base) (o : Nat) (x : Value) : OwnT (w.setCell ⟨k, o, none⟩ x) base v ls :=
  h.grown fun i h1 h2 => ((But.refl k w).set o x).block i h2 (by omega)
end

/- BtRead: What readGroup, read and Take of package batch answer. -/
section
set_option maxRecDepth 100000
open Go.RowKit Go.ChangeShapes Go.WideShapes Go.ChangeAt

/-- A batch is answered, whose members are the call's own; the Reader is further on. -/
def ReadBt (g : Nat) (b : Bt) (s : Sc) (w : World) (e : Ending) (w' : World) : Prop :=
  ∃ a cap, e = .returned (btV a cap b) ∧ OwnT w' w.heap.size (.slice a b.mem.length cap) b.mem ∧ RdS w' g s ∧ But g w w'
/-- A batch's variable while its members are read. -/
def vB (i k p t f : Nat) (x y z : List Nat) (v : Value) : Array Value := #[.int .i64 (i : Int), .int .i64 (t : Int), .int .i64 (f : Int), .int .i64 (k : Int), .int .i64 (p : Int), .string (strB x), .string (strB y), .string (strB z), v]

theorem takeB_of {s s1 s2 s3 s4 s5 s6 s7 s8 : Sc} {v1 v2 v3 v4 v5 v7 : Nat} {t1 t2 t3 : List Nat} {acc : List ByteArray} (h1 : numS 1000000000000 s = (v1, s1)) (h2 : numS 2 s1 = (v2, s2)) (h3 : numS 3 s2 = (v3, s3)) (h4 : numS 1000000000000 s3 = (v4, s4))
    (h5 : numS 1099511627776 s4 = (v5, s5)) (h6 : groupS s5 = ((t1, t2, t3), s6)) (h7 : numS 64 s6 = (v7, s7)) (h8 : textsS v7 s7 = (acc, s8)) :
    takeB s = (⟨(v1 : Int), (v4 : Int), (v5 : Int), (v2 : Int), (v3 : Int), strB t1, strB t2, strB t3, acc⟩, s8) := by
  simp only [takeB, h1, h2, h3, h4, h5, h6, h7, h8]
theorem textS_strB {s : Sc} (h : BytesS s) : (strB (textS 32 s).1).size ≤ 32 := by rw [strB_size]; exact textS_le 32 h

set_option maxRecDepth 100000 in
set_option maxHeartbeats 4000000 in
theorem btReadGroup_any (w : World) (g : Nat) (s : Sc) (h : RdS w g s) : Calls Tryz.prog 164 #[.pointer (some ⟨g, 0, none⟩)] w (ReadS g (groupV (groupS s).1) (groupS s).2 w) := by
  have hg := h.lt
  have K0 := Lib.hid (Rin.begin h 24 #[.string ⟨#[]⟩, .string ⟨#[]⟩, .string ⟨#[]⟩])
  have y1 := h.bytes
  rcases h1 : textS 32 s with ⟨v1, s1⟩
  have z1 : BytesS s1 := by have := (textS_bytes y1 32).1; rwa [h1] at this
  have C1 := Lib.hid (fun W hW => show Calls Tryz.prog 90 #[.pointer (some ⟨g, 0, none⟩), .int .i64 32] W (ReadS g (.string (strB v1)) s1 W) by have := rd_text W g s 32 hW (by decide); rwa [h1] at this)
  have y2 := z1
  rcases h2 : textS 32 s1 with ⟨v2, s2⟩
  have z2 : BytesS s2 := by have := (textS_bytes y2 32).1; rwa [h2] at this
  have C2 := Lib.hid (fun W hW => show Calls Tryz.prog 90 #[.pointer (some ⟨g, 0, none⟩), .int .i64 32] W (ReadS g (.string (strB v2)) s2 W) by have := rd_text W g s1 32 hW (by decide); rwa [h2] at this)
  have y3 := z2
  rcases h3 : textS 32 s2 with ⟨v3, s3⟩
  have z3 : BytesS s3 := by have := (textS_bytes y3 32).1; rwa [h3] at this
  have C3 := Lib.hid (fun W hW => show Calls Tryz.prog 90 #[.pointer (some ⟨g, 0, none⟩), .int .i64 32] W (ReadS g (.string (strB v3)) s3 W) by have := rd_text W g s2 32 hW (by decide); rwa [h3] at this)
  have HP := Lib.hid (show groupS s = ((v1, v2, v3), s3) by simp only [groupS, h1, h2, h3])
  clear h h1 h2 h3 y1 y2 y3 z1 z2 z3
  go_enter Tryz.func164, Tryz.ntmps164
  go_wp2_with fail
  generalize (w.alloc (Obj.cells #[Value.string ⟨#[]⟩, Value.string ⟨#[]⟩, Value.string ⟨#[]⟩] 24)).alloc (Obj.cells #[Value.string ⟨#[]⟩, Value.string ⟨#[]⟩, Value.string ⟨#[]⟩] 24) = W0 at *
  refine (C1.out _ K0.out.rd).mono ?_
  rintro e w1 ⟨rfl, r1, b1⟩
  have J1 := Lib.hid (K0.out.call hg r1 b1)
  obtain ⟨⟨c0, c1, c2⟩, f0, f1, f2⟩ := cellsR3 J1.out.var
  clear r1 b1
  have K1 := Lib.hid (J1.out.set hg 0 (.string (strB v1)))
  go_wp2_with fail
  clear c0 c1 c2 f0 f1 f2
  generalize w1.setCell ⟨w.heap.size + 1, 0, none⟩ (.string (strB v1)) = W1 at *
  refine (C2.out _ K1.out.rd).mono ?_
  rintro e w2 ⟨rfl, r2, b2⟩
  have J2 := Lib.hid (K1.out.call hg r2 b2)
  obtain ⟨⟨c0, c1, c2⟩, f0, f1, f2⟩ := cellsR3 J2.out.var
  clear r2 b2
  have K2 := Lib.hid (J2.out.set hg 1 (.string (strB v2)))
  go_wp2_with fail
  clear c0 c1 c2 f0 f1 f2
  generalize w2.setCell ⟨w.heap.size + 1, 1, none⟩ (.string (strB v2)) = W2 at *
  refine (C3.out _ K2.out.rd).mono ?_
  rintro e w3 ⟨rfl, r3, b3⟩
  have J3 := Lib.hid (K2.out.call hg r3 b3)
  obtain ⟨⟨c0, c1, c2⟩, f0, f1, f2⟩ := cellsR3 J3.out.var
  clear r3 b3
  have K3 := Lib.hid (J3.out.set hg 2 (.string (strB v3)))
  go_wp2_with (refine wpList_store_row rfl 24 _ _ rfl w.heap.size #[.string (strB v1), .string (strB v2), .string (strB v3)] rfl rfl 24 #[.string ⟨#[]⟩, .string ⟨#[]⟩, .string ⟨#[]⟩] K3.out.res (sizeG _ _ _) rfl (by simp [Value.oneCell']) ?_)
  (try simp only [Exit.inBlock, Exit.then])
  refine bodyPost_ret (v := .agg #[.string (strB v1), .string (strB v2), .string (strB v3)]) ?_ rfl ⟨by rw [HP.out]; rfl, by rw [HP.out]; exact (K3.out.fin hg _).1, (K3.out.fin hg _).2⟩
  exact results_cell_row rfl _ _ w.heap.size 24 _ (0, 0) _ rfl (setRow_heap _ _ _ _ _ _ K3.out.res) Tryz.underlying24 rfl (sizeG _ _ _)


set_option maxRecDepth 100000 in
set_option maxHeartbeats 8000000 in
theorem btRead_any (w : World) (g : Nat) (s : Sc) (h : RdS w g s) : Calls Tryz.prog 135 #[.pointer (some ⟨g, 0, none⟩)] w (ReadBt g (takeB s).1 (takeB s).2 w) := by
  have hg := h.lt
  have K0 := Lib.hid (Rin.begin h 98 zB)
  have y1 := h.bytes
  rcases h1 : numS 1000000000000 s with ⟨v1, s1⟩
  have C1 := Lib.hid (fun W hW => show Calls Tryz.prog 89 #[.pointer (some ⟨g, 0, none⟩), .int .u64 1000000000000] W (ReadS g (.int .u64 (v1 : Int)) s1 W) by have := rd_num W g s 1000000000000 hW (by decide); rwa [h1] at this)
  have y2 : BytesS s1 := by have := numS_bytes y1 1000000000000; rwa [h1] at this
  have n1 : v1 ≤ 1000000000000 := by have := numS_le 1000000000000 s y1; rwa [h1] at this
  have e1 : IntKind.i64.wrap (v1 : Int) = (v1 : Int) := by rw [IntKind.wrap_i64]; omega
  rcases h2 : numS 2 s1 with ⟨v2, s2⟩
  have C2 := Lib.hid (fun W hW => show Calls Tryz.prog 89 #[.pointer (some ⟨g, 0, none⟩), .int .u64 2] W (ReadS g (.int .u64 (v2 : Int)) s2 W) by have := rd_num W g s1 2 hW (by decide); rwa [h2] at this)
  have y3 : BytesS s2 := by have := numS_bytes y2 2; rwa [h2] at this
  have n2 : v2 ≤ 2 := by have := numS_le 2 s1 y2; rwa [h2] at this
  have e2 : IntKind.i64.wrap (v2 : Int) = (v2 : Int) := by rw [IntKind.wrap_i64]; omega
  rcases h3 : numS 3 s2 with ⟨v3, s3⟩
  have C3 := Lib.hid (fun W hW => show Calls Tryz.prog 89 #[.pointer (some ⟨g, 0, none⟩), .int .u64 3] W (ReadS g (.int .u64 (v3 : Int)) s3 W) by have := rd_num W g s2 3 hW (by decide); rwa [h3] at this)
  have y4 : BytesS s3 := by have := numS_bytes y3 3; rwa [h3] at this
  have n3 : v3 ≤ 3 := by have := numS_le 3 s2 y3; rwa [h3] at this
  have e3 : IntKind.i64.wrap (v3 : Int) = (v3 : Int) := by rw [IntKind.wrap_i64]; omega
  rcases h4 : numS 1000000000000 s3 with ⟨v4, s4⟩
  have C4 := Lib.hid (fun W hW => show Calls Tryz.prog 89 #[.pointer (some ⟨g, 0, none⟩), .int .u64 1000000000000] W (ReadS g (.int .u64 (v4 : Int)) s4 W) by have := rd_num W g s3 1000000000000 hW (by decide); rwa [h4] at this)
  have y5 : BytesS s4 := by have := numS_bytes y4 1000000000000; rwa [h4] at this
  have n4 : v4 ≤ 1000000000000 := by have := numS_le 1000000000000 s3 y4; rwa [h4] at this
  have e4 : IntKind.i64.wrap (v4 : Int) = (v4 : Int) := by rw [IntKind.wrap_i64]; omega
  rcases h5 : numS 1099511627776 s4 with ⟨v5, s5⟩
  have C5 := Lib.hid (fun W hW => show Calls Tryz.prog 89 #[.pointer (some ⟨g, 0, none⟩), .int .u64 1099511627776] W (ReadS g (.int .u64 (v5 : Int)) s5 W) by have := rd_num W g s4 1099511627776 hW (by decide); rwa [h5] at this)
  have y6 : BytesS s5 := by have := numS_bytes y5 1099511627776; rwa [h5] at this
  have n5 : v5 ≤ 1099511627776 := by have := numS_le 1099511627776 s4 y5; rwa [h5] at this
  have e5 : IntKind.i64.wrap (v5 : Int) = (v5 : Int) := by rw [IntKind.wrap_i64]; omega
  rcases h6 : groupS s5 with ⟨⟨t1, t2, t3⟩, s6⟩
  have C6 := Lib.hid (fun W hW => show Calls Tryz.prog 164 #[.pointer (some ⟨g, 0, none⟩)] W (ReadS g (.agg #[.string (strB t1), .string (strB t2), .string (strB t3)]) s6 W) by have := btReadGroup_any W g s5 hW; rwa [h6] at this)
  have y7 : BytesS s6 := by have := groupS_bytes y6; rwa [h6] at this
  rcases h7 : numS 64 s6 with ⟨v7, s7⟩
  have C7 := Lib.hid (fun W hW => show Calls Tryz.prog 89 #[.pointer (some ⟨g, 0, none⟩), .int .u64 64] W (ReadS g (.int .u64 (v7 : Int)) s7 W) by have := rd_num W g s6 64 hW (by decide); rwa [h7] at this)
  have y8 : BytesS s7 := by have := numS_bytes y7 64; rwa [h7] at this
  have n7 : v7 ≤ 64 := by have := numS_le 64 s6 y7; rwa [h7] at this
  have HH := Lib.hid (And.intro h1 (And.intro h2 (And.intro h3 (And.intro h4 (And.intro h5 (And.intro h6 h7))))))
  have Y8 := Lib.hid y8
  clear h1 h2 h3 h4 h5 h6 h7 y1 y2 y3 y4 y5 y6 y7 y8 n1 n2 n3 n4 n5
  unfold zB at K0
  go_enter Tryz.func135, Tryz.ntmps135
  go_wp2_with fail
  generalize (w.alloc (Obj.cells #[Value.int .i64 0, Value.int .i64 0, Value.int .i64 0, Value.int .i64 0, Value.int .i64 0, Value.string ⟨#[]⟩, Value.string ⟨#[]⟩, Value.string ⟨#[]⟩, Value.slice none 0 0] 98)).alloc (Obj.cells #[Value.int .i64 0, Value.int .i64 0, Value.int .i64 0, Value.int .i64 0, Value.int .i64 0, Value.string ⟨#[]⟩, Value.string ⟨#[]⟩, Value.string ⟨#[]⟩, Value.slice none 0 0] 98) = W0 at *
  refine (C1.out _ K0.out.rd).mono ?_
  rintro e w1 ⟨rfl, r1, b1⟩
  have J1 := Lib.hid (K0.out.call hg r1 b1)
  obtain ⟨⟨⟨c0, c1, c2, c3, c4⟩, c5, c6, c7, c8⟩, f⟩ := cellsR9 J1.out.var
  clear r1 b1 K0
  have K1 := Lib.hid (J1.out.set hg 0 (.int .i64 (v1 : Int)))
  clear J1
  go_wp2_with fail
  clear c0 c1 c2 c3 c4 c5 c6 c7 c8 f
  generalize w1.setCell ⟨w.heap.size + 1, 0, none⟩ (.int .i64 (v1 : Int)) = W1 at *
  refine (C2.out _ K1.out.rd).mono ?_
  rintro e w2 ⟨rfl, r2, b2⟩
  have J2 := Lib.hid (K1.out.call hg r2 b2)
  obtain ⟨⟨⟨c0, c1, c2, c3, c4⟩, c5, c6, c7, c8⟩, f⟩ := cellsR9 J2.out.var
  clear r2 b2 K1
  have K2 := Lib.hid (J2.out.set hg 3 (.int .i64 (v2 : Int)))
  clear J2
  go_wp2_with fail
  clear c0 c1 c2 c3 c4 c5 c6 c7 c8 f
  generalize w2.setCell ⟨w.heap.size + 1, 3, none⟩ (.int .i64 (v2 : Int)) = W2 at *
  refine (C3.out _ K2.out.rd).mono ?_
  rintro e w3 ⟨rfl, r3, b3⟩
  have J3 := Lib.hid (K2.out.call hg r3 b3)
  obtain ⟨⟨⟨c0, c1, c2, c3, c4⟩, c5, c6, c7, c8⟩, f⟩ := cellsR9 J3.out.var
  clear r3 b3 K2
  have K3 := Lib.hid (J3.out.set hg 4 (.int .i64 (v3 : Int)))
  clear J3
  go_wp2_with fail
  clear c0 c1 c2 c3 c4 c5 c6 c7 c8 f
  generalize w3.setCell ⟨w.heap.size + 1, 4, none⟩ (.int .i64 (v3 : Int)) = W3 at *
  refine (C4.out _ K3.out.rd).mono ?_
  rintro e w4 ⟨rfl, r4, b4⟩
  have J4 := Lib.hid (K3.out.call hg r4 b4)
  obtain ⟨⟨⟨c0, c1, c2, c3, c4⟩, c5, c6, c7, c8⟩, f⟩ := cellsR9 J4.out.var
  clear r4 b4 K3
  have K4 := Lib.hid (J4.out.set hg 1 (.int .i64 (v4 : Int)))
  clear J4
  go_wp2_with fail
  clear c0 c1 c2 c3 c4 c5 c6 c7 c8 f
  generalize w4.setCell ⟨w.heap.size + 1, 1, none⟩ (.int .i64 (v4 : Int)) = W4 at *
  refine (C5.out _ K4.out.rd).mono ?_
  rintro e w5 ⟨rfl, r5, b5⟩
  have J5 := Lib.hid (K4.out.call hg r5 b5)
  obtain ⟨⟨⟨c0, c1, c2, c3, c4⟩, c5, c6, c7, c8⟩, f⟩ := cellsR9 J5.out.var
  clear r5 b5 K4
  have K5 := Lib.hid (J5.out.set hg 2 (.int .i64 (v5 : Int)))
  clear J5
  go_wp2_with fail
  clear c0 c1 c2 c3 c4 c5 c6 c7 c8 f
  generalize w5.setCell ⟨w.heap.size + 1, 2, none⟩ (.int .i64 (v5 : Int)) = W5 at *
  refine (C6.out _ K5.out.rd).mono ?_
  rintro e w6 ⟨rfl, r6, b6⟩
  have J6 := Lib.hid (K5.out.call hg r6 b6)
  obtain ⟨⟨⟨c0, c1, c2, c3, c4⟩, c5, c6, c7, c8⟩, f⟩ := cellsR9 J6.out.var
  clear r6 b6 K5
  have K6 := Lib.hid (((J6.out.set hg 5 (.string (strB t1))).set hg 6 (.string (strB t2))).set hg 7 (.string (strB t3)))
  clear J6
  go_wp2_with fail
  clear c0 c1 c2 c3 c4 c5 c6 c7 c8 f
  generalize ((w6.setCell ⟨w.heap.size + 1, 5, none⟩ (.string (strB t1))).setCell ⟨w.heap.size + 1, 6, none⟩ (.string (strB t2))).setCell ⟨w.heap.size + 1, 7, none⟩ (.string (strB t3)) = W6 at *
  refine (C7.out _ K6.out.rd).mono ?_
  rintro e w7 ⟨rfl, r7, b7⟩
  have K7 : Hid (Rin w g 98 zB (vB v1 v2 v3 v4 v5 t1 t2 t3 (.slice none 0 0)) s7 w7) := Lib.hid (K6.out.call hg r7 b7)
  clear r7 b7 K6 C1 C2 C3 C4 C5 C6 C7
  go_wp2_with fail
  go_loopw [29] (fun i wr => ∃ (k : Nat) (acc : List ByteArray) (vl : Value) (sk : Sc), k ≤ v7 ∧ i = .int .u64 k ∧ Hid (Rin w g 98 zB (vB v1 v2 v3 v4 v5 t1 t2 t3 vl) sk wr) ∧ Hid (OwnT wr (w.heap.size + 2) vl acc) ∧ acc.length = k ∧ Hid (BytesS sk) ∧ Hid (textsS v7 s7 = (acc ++ (textsS (v7 - k) sk).1, (textsS (v7 - k) sk).2))) (fun i _ => v7 - (intOf i).toNat)
  case atStart => exact ⟨0, [], _, s7, Nat.zero_le _, rfl, K7, Lib.hid (OwnT.nil _ _), rfl, Y8, Lib.hid (by simp)⟩
  case round =>
    obtain ⟨k, acc, vl, sk, hk, rfl, HR, HO, hac, HB, HL⟩ := hrel
    by_cases hlt : k < v7
    · rcases hx : textS 32 sk with ⟨x, sx⟩
      have hsx : BytesS sx := by have := (textS_bytes HB.out 32).1; rwa [hx] at this
      have HN := Lib.hid (show textsS v7 s7 = ((acc ++ [strB x]) ++ (textsS (v7 - (k + 1)) sx).1, (textsS (v7 - (k + 1)) sx).2) by
        rw [HL.out, show v7 - k = (v7 - (k + 1)) + 1 by omega, textsS, hx]; simp)
      have HX := Lib.hid hsx
      have HK1 := Lib.hid (show (acc ++ [strB x]).length = k + 1 by rw [List.length_append, hac]; rfl)
      have C := Lib.hid (fun W hW => show Calls Tryz.prog 90 #[.pointer (some ⟨g, 0, none⟩), .int .i64 32] W (ReadS g (.string (strB x)) sx W) by have := rd_text W g sk 32 hW (by decide); rwa [hx] at this)
      clear hx hsx
      generalize strB x = xb at *
      obtain ⟨⟨⟨c0, c1, c2, c3, c4⟩, c5, c6, c7, c8⟩, f⟩ := cellsR9 HR.out.var
      have RW := Lib.hid (HR.out.far hg (Nat.le_refl _) (But.drew _ _))
      have OW := Lib.hid (HO.out.grown (w' := wr.drew) fun _ _ _ => rfl)
      go_wp2_with fail
      go_region_law (first
        | (go_simp; go_at_call 90; refine (C.out _ RW.out.rd).mono ?_; rintro e w3 ⟨rfl, r3, b3⟩; have R3 := Lib.hid (RW.out.call hg r3 b3); have O3 := Lib.hid (OW.out.grown (w' := w3) fun k h1 h2 => b3.block k h2 (by omega)); have y1 : w3.cell? ⟨w.heap.size + 1, 8, none⟩ = some vl := R3.out.var.cell 8; have yz := R3.out.var.lt; clear r3 b3)
        | (refine step_append_texts rfl (.tmp 32) (.tmp 35) rfl (w.heap.size + 2) vl acc [xb] (by simp [Act.eval]) (O3.out.below ((Below.refl _ _).alloc (Nat.le_refl _) _)) (some ⟨w3.heap.size, 0, none⟩) 1 (by simp [Act.eval]) (strs_block1 w3 xb) (by simp; omega) (by have := R3.out.var.lt; simp; omega) ?_; intro v4 w4 o4 g4; obtain ⟨a4, p4, e4⟩ := o4.shape; rw [HK1.out] at e4; subst e4; obtain ⟨q, hq, bq⟩ := But.grown g4 O3.out.row; have R4 := Lib.hid ((R3.out.far hg (Nat.le_refl _) (But.alloc _ _ _)).far hg hq bq); have O4 := Lib.hid o4; have z1 : w4.cell? ⟨w.heap.size + 1, 8, none⟩ = some vl := R4.out.var.cell 8; have zf : w4.frozen? ⟨w.heap.size + 1, 8, none⟩ = false := R4.out.var.free 8; clear o4 g4 bq))
      all_goals
        have R5 := Lib.hid (R4.out.set hg 8 (.slice a4 (k + 1) p4))
        have O5 := Lib.hid (O4.out.cell (k := w.heap.size + 1) (by omega) 8 (.slice a4 (k + 1) p4))
        go_wp2_with fail
        go_roundw
        case rel => exact ⟨k + 1, acc ++ [xb], _, sx, by omega, by go_num, R5, O5, HK1.out, HX, HN⟩
        case measure => simp [intOf]; omega
    · have HE := Lib.hid (show textsS v7 s7 = (acc, sk) by rw [HL.out, show v7 - k = 0 by omega, textsS]; simp)
      obtain ⟨av, cv, ev⟩ := HO.out.shape
      subst ev
      subst hac
      have HP := Lib.hid (takeB_of HH.out.1 HH.out.2.1 HH.out.2.2.1 HH.out.2.2.2.1 HH.out.2.2.2.2.1 HH.out.2.2.2.2.2.1 HH.out.2.2.2.2.2.2 HE.out)
      clear HL HE
      unfold vB at HR
      obtain ⟨⟨⟨c0, c1, c2, c3, c4⟩, c5, c6, c7, c8⟩, f⟩ := cellsR9 HR.out.var
      go_wp2_with (refine wpList_store_batch rfl _ _ rfl w.heap.size av cv ⟨(v1 : Int), (v4 : Int), (v5 : Int), (v2 : Int), (v3 : Int), strB t1, strB t2, strB t3, acc⟩ _ (by rfl) rfl rfl HR.out.res ?_)
      (try simp only [Exit.inBlock, Exit.then])
      have F := Lib.hid (HR.out.fin hg (btC av cv ⟨(v1 : Int), (v4 : Int), (v5 : Int), (v2 : Int), (v3 : Int), strB t1, strB t2, strB t3, acc⟩))
      apply bodyPost_ret
      case hd => rfl
      case hr => exact results_cell_row rfl _ _ w.heap.size 98 _ (0, 0) _ rfl (setRow_heap _ _ _ _ _ _ HR.out.res) Tryz.underlying98 rfl (size9 _ _ _ _ _ _ _ _ _)
      case hR =>
        rw [HP.out]
        exact ⟨av, cv, rfl, ((HO.out.grown (w' := _) fun k h1 h2 => setRow_other _ _ k _ (by omega)).base (by omega)), F.out.1, F.out.2⟩
end

/- BtTake: What Take of package batch answers. -/
section
set_option maxRecDepth 100000
open Go.RowKit Go.ChangeShapes Go.WideShapes Go.ChangeAt

theorem takeBO_ok {s : Sc} (h1 : (takeB s).2.isNone = false) (h2 : rightBt (takeB s).1 = true) : takeBO s = (takeB s).1 ∧ (takeBV s).isSome = true := by
  have : (takeB s).2.isSome = true := by
    cases e : (takeB s).2 with
    | none => rw [e] at h1; cases h1
    | some _ => rfl
  unfold takeBO takeBV
  rw [this, h2]
  exact ⟨rfl, rfl⟩
theorem takeBO_no {s : Sc} (h : (takeB s).2.isNone = true ∨ rightBt (takeB s).1 = false) : takeBO s = noBt ∧ (takeBV s).isSome = false := by
  have : ((takeB s).2.isSome && rightBt (takeB s).1) = false := by
    rcases h with h | h
    · cases e : (takeB s).2 with
      | none => rfl
      | some _ => rw [e] at h; cases h
    · rw [h, Bool.and_false]
  unfold takeBO takeBV
  rw [this]
  exact ⟨rfl, rfl⟩

/-- Its texts are short, and its members few. -/
def FitsB (b : Bt) : Prop := (∀ x ∈ b.mem, x.size ≤ 32) ∧ b.mem.length ≤ 64 ∧ b.car.size ≤ 32 ∧ b.zone.size ≤ 32 ∧ b.serv.size ≤ 32
theorem takeB_fits {s : Sc} (h : BytesS s) : FitsB (takeB s).1 := by
  have b5 := numS_bytes (numS_bytes (numS_bytes (numS_bytes (numS_bytes h 1000000000000) 2) 3) 1000000000000) 1099511627776
  unfold FitsB takeB
  simp only
  generalize (numS 1099511627776 (numS 1000000000000 (numS 3 (numS 2 (numS 1000000000000 s).2).2).2).2).2 = t at *
  have b6 := groupS_bytes b5
  have b7 := numS_bytes b6 64
  refine ⟨textsS_size _ b7, by rw [textsS_len]; exact numS_le 64 _ b6, ?_, ?_, ?_⟩
  · exact textS_strB b5
  · exact textS_strB (textS_bytes b5 32).1
  · exact textS_strB (textS_bytes (textS_bytes b5 32).1 32).1
theorem btP_of {w : World} {a : Option Addr} {cap : Nat} {b : Bt} (h : StrsP w a cap b.mem) (hf : FitsB b) : BtP w a cap b := by
  obtain ⟨f1, _, f3, f4, f5⟩ := hf
  exact ⟨h, fun x hx => (by unfold maxLen; have := f1 x hx; omega), by unfold maxLen; omega, by unfold maxLen; omega, by unfold maxLen; omega⟩

/-- The batch that stands next, or none, and whether there is one, are answered; the Reader is further on. -/
def TakeBt (g : Nat) (s : Sc) (w : World) (e : Ending) (w' : World) : Prop :=
  ∃ a cap, e = .returned (.tuple #[btV a cap (takeBO s), .bool (takeBV s).isSome]) ∧ OwnT w' w.heap.size (.slice a (takeBO s).mem.length cap) (takeBO s).mem ∧ RdS w' g (takeB s).2 ∧ But g w w'

/-- Behind the store of the result. -/
theorem takeB_end {w w1 : World} {g : Nat} {t : Sc} {base : Nat} {v : Value} {l : List ByteArray} (hg : g < w.heap.size) (hS : RdS w1 g t) (hG : But g w w1) (hO : OwnT w1 base v l) (hb : w.heap.size < base) (cs : Array Value) :
    OwnT (w1.setRow w.heap.size cs) w.heap.size v l ∧ RdS (w1.setRow w.heap.size cs) g t ∧ But g w (w1.setRow w.heap.size cs) :=
  ⟨(hO.grown fun k h1 h2 => setRow_other _ _ k _ (by omega)).base (by omega), hS.other hg ((But.refl _ _).setRow cs), hG.new (Nat.le_refl _) ((But.refl _ _).setRow cs)⟩

set_option maxHeartbeats 4000000 in
theorem btTake_any (w : World) (g : Nat) (s : Sc) (h : RdS w g s) : Calls Tryz.prog 95 #[.pointer (some ⟨g, 0, none⟩)] w (TakeBt g s w) := by
  have hg := h.lt
  have hb := h.bytes
  have F := Lib.hid (takeB_fits hb)
  have B0 : Below w.heap.size w (w.alloc (.cells zB 98)) := (Below.refl _ _).alloc (Nat.le_refl _) _
  have C := Lib.hid (btRead_any (w.alloc (.cells zB 98)) g s (h.below B0))
  have R0 : Hid (Row (w.alloc (.cells zB 98)) w.heap.size 98 zB) := Lib.hid (heap_alloc_new _ _)
  have G0 := Lib.hid (But.of (g := g) B0)
  have hz : (w.alloc (.cells zB 98)).heap.size = w.heap.size + 1 := by simp
  have OK := Lib.hid (takeBO_ok (s := s))
  have NO := Lib.hid (takeBO_no (s := s))
  clear h hb B0
  unfold zB at C
  unfold ReadBt at C
  go_enter Tryz.func95, Tryz.ntmps95
  go_wp2_with fail
  refine C.out.mono ?_
  rintro e w1 ⟨a, cap, rfl, o1, r1, b1⟩
  rw [show (w.alloc (.cells #[.int .i64 0, .int .i64 0, .int .i64 0, .int .i64 0, .int .i64 0, .string ⟨#[]⟩, .string ⟨#[]⟩, .string ⟨#[]⟩, .slice none 0 0] 98)).heap.size = w.heap.size + 1 from hz] at o1
  have R1 := Lib.hid (R0.out.but b1 (by omega))
  have G1 := Lib.hid (G0.out.trans b1)
  have O1 := Lib.hid o1
  have S1 := Lib.hid r1
  clear o1 r1 b1 hz R0 G0 C
  generalize (takeB s).1 = b at *
  generalize ht : (takeB s).2 = t at *
  have HT := Lib.hid ht
  clear ht
  unfold btV
  go_wp2_with fail
  have B := Lib.hid ((Below.refl w1.heap.size w1).alloc (Nat.le_refl _) (.cells #[Value.int IntKind.i64 b.id, Value.int IntKind.i64 b.wt, Value.int IntKind.i64 b.born, Value.int IntKind.i64 b.kind, Value.int IntKind.i64 b.phase, Value.string b.car, Value.string b.zone, Value.string b.serv, Value.slice a b.mem.length cap] 98))
  have D2 : Hid (BtB (w1.alloc (.cells #[Value.int IntKind.i64 b.id, Value.int IntKind.i64 b.wt, Value.int IntKind.i64 b.born, Value.int IntKind.i64 b.kind, Value.int IntKind.i64 b.phase, Value.string b.car, Value.string b.zone, Value.string b.serv, Value.slice a b.mem.length cap] 98)) w1.heap.size a cap b) := Lib.hid (BtB.new w1 a cap b)
  have R2 := Lib.hid (R1.out.below B.out)
  have O2 := Lib.hid (O1.out.below B.out)
  have S2 := Lib.hid (S1.out.below B.out)
  have G2 := Lib.hid (G1.out.trans (But.of B.out))
  generalize w1.alloc (Obj.cells #[Value.int IntKind.i64 b.id, Value.int IntKind.i64 b.wt, Value.int IntKind.i64 b.born, Value.int IntKind.i64 b.kind, Value.int IntKind.i64 b.phase, Value.string b.car, Value.string b.zone, Value.string b.serv, Value.slice a b.mem.length cap] 98) = W at *
  have P2 := Lib.hid (btP_of O2.out.reads.2 F.out)
  clear R1 O1 S1 G1 B
  refine (rd_bad_any W g t S2.out).mono ?_
  rintro e w' ⟨rfl, rfl⟩
  cases hbad : t.isNone with
  | true =>
    have HE := Lib.hid (NO.out (.inl hbad))
    go_wp2_with (refine wpList_store_batch rfl _ _ rfl w.heap.size none 0 noBt _ (by rfl) rfl rfl R2.out ?_)
    (try simp only [Exit.inBlock, Exit.then])
    apply bodyPost_ret
    case hd => rfl
    case hr => exact results_cell_one rfl _ _ w.heap.size _ rfl (load9 (b := noBt) (setRow_heap _ _ _ _ _ _ R2.out))
    case hR =>
      obtain ⟨e1, e2, e3⟩ := takeB_end hg S2.out G2.out (OwnT.nil _ (w.heap.size + 1)) (by omega) (btC none 0 noBt)
      exact ⟨none, 0, by rw [HE.out.1, HE.out.2]; rfl, by rw [HE.out.1]; exact e1, by rw [HT.out]; exact e2, e3⟩
  | false =>
    obtain ⟨⟨c0, c1, c2, c3, c4⟩, c5, c6, c7, c8⟩ := BtB.cells (b := b) D2.out
    have CR := Lib.hid (btRight_any a cap b W P2.out)
    unfold btV at CR
    go_wp2_with fail
    refine CR.out.mono ?_
    rintro e w3 ⟨rfl, b3⟩
    have D3 := Lib.hid (D2.out.below b3)
    have R3 := Lib.hid (R2.out.below b3)
    have O3 := Lib.hid (O2.out.below b3)
    have S3 := Lib.hid (S2.out.below b3)
    have G3 := Lib.hid (G2.out.trans (But.of b3))
    clear c0 c1 c2 c3 c4 c5 c6 c7 c8 b3 D2 R2 O2 S2 G2 P2 CR
    cases hr : rightBt b with
    | false =>
      have HE := Lib.hid (NO.out (.inr hr))
      go_wp2_with (refine wpList_store_batch rfl _ _ rfl w.heap.size none 0 noBt _ (by rfl) rfl rfl R3.out ?_)
      (try simp only [Exit.inBlock, Exit.then])
      apply bodyPost_ret
      case hd => rfl
      case hr => exact results_cell_one rfl _ _ w.heap.size _ rfl (load9 (b := noBt) (setRow_heap _ _ _ _ _ _ R3.out))
      case hR =>
        obtain ⟨e1, e2, e3⟩ := takeB_end hg S3.out G3.out (OwnT.nil _ (w.heap.size + 1)) (by omega) (btC none 0 noBt)
        exact ⟨none, 0, by rw [HE.out.1, HE.out.2]; rfl, by rw [HE.out.1]; exact e1, by rw [HT.out]; exact e2, e3⟩
    | true =>
      have HE := Lib.hid (OK.out hbad hr)
      obtain ⟨⟨c0, c1, c2, c3, c4⟩, c5, c6, c7, c8⟩ := BtB.cells (b := b) D3.out
      go_wp2_with (refine wpList_store_batch rfl _ _ rfl w.heap.size a cap b _ (by rfl) rfl rfl R3.out ?_)
      (try simp only [Exit.inBlock, Exit.then])
      apply bodyPost_ret
      case hd => rfl
      case hr => exact results_cell_one rfl _ _ w.heap.size _ rfl (load9 (b := b) (setRow_heap _ _ _ _ _ _ R3.out))
      case hR =>
        obtain ⟨e1, e2, e3⟩ := takeB_end hg S3.out G3.out O3.out (by omega) (btC a cap b)
        exact ⟨a, cap, by rw [HE.out.1, HE.out.2]; rfl, by rw [HE.out.1]; exact e1, by rw [HT.out]; exact e2, e3⟩
end

/- BtPut: What Put of package batch answers, at every batch that can be. -/
section
set_option maxRecDepth 100000
open Go.RowKit Go.ChangeShapes Go.WideShapes Go.ChangeAt

/-- A batch is put: its block, then the bytes so far, in a row of the call's own. -/
structure PutB (w : World) (a : Option Addr) (cap : Nat) (b : Bt) (acc : List Nat) (v : Value) (W : World) : Prop where
  own : OwnB W (w.heap.size + 1) v acc
  bat : BtB W w.heap.size a cap b
  low : Below w.heap.size w W
  few : w.heap.size + 1 ≤ W.heap.size

theorem PutB.below {w W W' : World} {a : Option Addr} {cap : Nat} {b : Bt} {acc : List Nat} {v : Value} (h : PutB w a cap b acc v W) (bl : Below W.heap.size W W') : PutB w a cap b acc v W' :=
  ⟨h.own.below bl, BtB.below (b := b) h.bat bl, h.low.trans (bl.mono h.low.size), Nat.le_trans h.few bl.size⟩
theorem PutB.put {w W W' : World} {a : Option Addr} {cap : Nat} {b : Bt} {acc acc' : List Nat} {v v' : Value} (h : PutB w a cap b acc v W) (own : OwnB W' (w.heap.size + 1) v' acc') (g : W.grownBy W' v.ownBlock) : PutB w a cap b acc' v' W' := by
  have hr := h.own.row
  refine ⟨own, ?_, h.low.grown g h.low.size (fun k hk => by have := hr k hk; omega), Nat.le_trans h.few g.size⟩
  exact (g.block _ (BtB.lt (b := b) h.bat) (fun e => by have := hr _ e.symm; omega)).trans h.bat

theorem textsL_len : ∀ (l : List ByteArray), (∀ x ∈ l, x.size ≤ 32) → (textsL l).length ≤ 42 * l.length
  | [], _ => by simp [textsL]
  | x :: l, h => by
    have h1 := textL_32 (h x (by simp))
    have h2 := textsL_len l (fun y hy => h y (by simp [hy]))
    rw [textsL_cons, List.length_append, List.length_cons]
    omega
theorem wrap_tick (n : Int) (h0 : 0 ≤ n) (h1 : n ≤ 1099511627776) : ∃ m : Nat, IntKind.u64.wrap n = (m : Int) ∧ n.toNat = m ∧ m < 18446744073709551616 :=
  ⟨n.toNat, by rw [IntKind.wrap_u64]; omega, rfl, by omega⟩
theorem batchL_len {b : Bt} (h : rightBt b = true) : (batchL b).length ≤ 3000 := by
  obtain ⟨r1, r2, r3, r4, r5, r6, r7, r8, _⟩ := rightBt_of h
  obtain ⟨g1, g2, g3⟩ := groupB_of r6
  have t1 := numL_ten (show b.id.toNat < 18446744073709551616 by omega)
  have t2 := numL_ten (show b.kind.toNat < 18446744073709551616 by omega)
  have t3 := numL_ten (show b.phase.toNat < 18446744073709551616 by omega)
  have t4 := numL_ten (show b.wt.toNat < 18446744073709551616 by omega)
  have t5 := numL_ten (show b.born.toNat < 18446744073709551616 by omega)
  have t6 := textL_32 (right_32 g1)
  have t7 := textL_32 (right_32 g2)
  have t8 := textL_32 (right_32 g3)
  have t9 := numL_ten (show b.mem.length < 18446744073709551616 by omega)
  have t10 := textsL_len b.mem (fun x hx => right_32 (r8 x hx))
  unfold batchL
  simp only [List.length_append]
  omega

set_option maxHeartbeats 8000000 in
theorem btPut_any (a oa : Option Addr) (cap oc : Nat) (l : List Nat) (b : Bt) (w : World) (hB : BytesP w a cap l) (hO : StrsP w oa oc b.mem) (hr : rightBt b = true) (hl : l.length ≤ 1000000) :
    Calls Tryz.prog 66 #[.slice a l.length cap, btV oa oc b] w (OwnPost (l ++ batchL b) w) := by
  have B0 := (Below.refl w.heap.size w).alloc (Nat.le_refl _) (Obj.cells (btC oa oc b) 98)
  have P0 : Hid (PutB w oa oc b [] (.slice none 0 0) (w.alloc (.cells (btC oa oc b) 98))) := Lib.hid ⟨own_nil _ _, BtB.new _ _ _ _, B0, by simp⟩
  have HB := Lib.hid (hB.below B0)
  have hz : w.heap.size + 1 ≤ (w.alloc (.cells (btC oa oc b) 98)).heap.size := by simp
  obtain ⟨r1, r2, r3, r4, r5, r6, r7, r8, _⟩ := rightBt_of hr
  obtain ⟨g1, g2, g3⟩ := groupB_of r6
  have s4 := right_32 g1
  have s5 := right_32 g2
  have s6 := right_32 g3
  have s7 := fun x hx => right_32 (r8 x hx)
  have HT := Lib.hid hO
  obtain ⟨m1, e1, t1, q1⟩ := wrap_64 b.id (by omega) (by omega)
  obtain ⟨m2, e2, t2, q2⟩ := wrap_64 b.kind (by omega) (by omega)
  obtain ⟨m3, e3, t3, q3⟩ := wrap_64 b.phase (by omega) (by omega)
  obtain ⟨m4, e4, t4, q4⟩ := wrap_64 b.wt (by omega) (by omega)
  obtain ⟨m5, e5, t5, q5⟩ := wrap_tick b.born (by omega) (by omega)
  obtain ⟨y1, hy1⟩ : ∃ y, numsL [m1, m2, m3, m4, m5] = y := ⟨_, rfl⟩
  have hy1l : y1.length ≤ 50 := by
    rw [← hy1]
    exact numsL_len [m1, m2, m3, m4, m5] (by
      intro n hn
      simp only [List.mem_cons, List.not_mem_nil, or_false] at hn
      rcases hn with rfl | rfl | rfl | rfl | rfl <;> assumption)
  have C1 := Lib.hid (fun a2 c2 W h => numN a2 c2 [m1, m2, m3, m4, m5] W h (by simp) y1 hy1)
  have Y1 := Lib.hid (show Bytes y1 by rw [← hy1]; exact numsL_bytes _)
  have N5 := Lib.hid (fun W => nums_five m1 m2 m3 m4 m5 q1 q2 q3 q4 q5 W)
  obtain ⟨y2, hy2⟩ : ∃ y, textsL [b.car, b.zone, b.serv] = y := ⟨_, rfl⟩
  have hy2l : y2.length ≤ 126 := by
    rw [← hy2]
    exact textsL_len [b.car, b.zone, b.serv] (by intro x hx; simp at hx; rcases hx with rfl | rfl | rfl <;> assumption)
  have C2 := Lib.hid (fun a2 c2 W h => textN a2 c2 [b.car, b.zone, b.serv] W h (by simp) (by intro x hx; simp at hx; rcases hx with rfl | rfl | rfl <;> omega) y2 hy2)
  have Y2 := Lib.hid (show Bytes y2 by rw [← hy2]; exact textsL_bytes _)
  obtain ⟨y3, hy3⟩ : ∃ y, numsL [b.mem.length] = y := ⟨_, rfl⟩
  have hy3l : y3.length ≤ 10 := by rw [← hy3]; exact numsL_len [b.mem.length] (by intro n hn; simp at hn; omega)
  have C3 := Lib.hid (fun a2 c2 W h => numN a2 c2 [b.mem.length] W h (by simp) y3 hy3)
  have Y3 := Lib.hid (show Bytes y3 by rw [← hy3]; exact numsL_bytes _)
  obtain ⟨y4, hy4⟩ : ∃ y, textsL b.mem = y := ⟨_, rfl⟩
  have hy4l : y4.length ≤ 3000 := by
    have := textsL_len b.mem s7
    rw [← hy4]; omega
  have C4 := Lib.hid (fun a2 c2 W h => textN a2 c2 b.mem W h (by omega) (by intro x hx; have := s7 x hx; omega) y4 hy4)
  have Y4 := Lib.hid (show Bytes y4 by rw [← hy4]; exact textsL_bytes _)
  have HF := Lib.hid (show l ++ batchL b = (((l ++ y1) ++ y2) ++ y3) ++ y4 by
    rw [← hy1, ← hy2, ← hy3, ← hy4]
    simp [batchL, textsL, numsL, t1, t2, t3, t4, t5])
  have hn2 : IntKind.u64.wrap (b.mem.length : Int) = (b.mem.length : Int) := by rw [IntKind.wrap_u64]; omega
  clear hr r1 r2 r3 r4 r5 r6 r8 g1 g2 g3 hB hO hy1 hy2 hy3 hy4 s4 s5 s6 s7 B0 q1 q2 q3 q4 q5 t1 t2 t3 t4 t5
  unfold btV at *
  unfold btC at *
  go_enter Tryz.func66, Tryz.ntmps66
  go_wp2_with (at_builtin; go_must (refine wpList_append_bytes rfl _ _ rfl (w.heap.size + 1) (.slice none 0 0) [] l rfl P0.out.own a cap rfl HB.out (by simp; omega) hz ?_))
  rintro v1 w1 o1 g1
  have P1 := Lib.hid (P0.out.put o1 g1)
  clear o1 g1 P0 HB hz
  obtain ⟨⟨c0, c1, c2, c3, c4⟩, c5, c6, c7, c8⟩ := BtB.cells (b := b) P1.out.bat
  go_wp2_with fail
  clear c0 c1 c2 c3 c4 c5 c6 c7 c8
  have A2 := Lib.hid (P1.out.below ((Below.refl _ w1).alloc (Nat.le_refl _) (Obj.cells #[Value.int IntKind.u64 (m1 : Int), Value.int IntKind.u64 (m2 : Int), Value.int IntKind.u64 (m3 : Int), Value.int IntKind.u64 (m4 : Int), Value.int IntKind.u64 (m5 : Int)] 74)))
  have T2 := Lib.hid (N5.out w1)
  generalize w1.alloc (Obj.cells #[Value.int IntKind.u64 (m1 : Int), Value.int IntKind.u64 (m2 : Int), Value.int IntKind.u64 (m3 : Int), Value.int IntKind.u64 (m4 : Int), Value.int IntKind.u64 (m5 : Int)] 74) = W2 at *
  refine (C1.out _ _ _ T2.out).mono ?_
  rintro e x2 ⟨u2, rfl, q2, b2⟩
  obtain ⟨a2, p2, e2', h2⟩ := q2.bytes Y1.out
  subst e2'
  have D2 := Lib.hid (A2.out.below b2)
  have H2 := Lib.hid h2
  clear q2 b2 h2 A2 T2 P1
  go_wp2_with (at_builtin; go_must (refine wpList_append_bytes rfl _ _ rfl (w.heap.size + 1) v1 (l) y1 rfl D2.out.own a2 p2 rfl H2.out (by omega) D2.out.few ?_))
  rintro v2 w2 o2 g2
  have P2 := Lib.hid (D2.out.put o2 g2)
  clear o2 g2 D2 H2
  obtain ⟨⟨c0, c1, c2, c3, c4⟩, c5, c6, c7, c8⟩ := BtB.cells (b := b) P2.out.bat
  go_wp2_with fail
  clear c0 c1 c2 c3 c4 c5 c6 c7 c8
  have A3 := Lib.hid (P2.out.below ((Below.refl _ w2).alloc (Nat.le_refl _) (Obj.cells #[Value.string b.car, Value.string b.zone, Value.string b.serv] 9)))
  have T3 := Lib.hid (strs_three b.car b.zone b.serv w2)
  generalize w2.alloc (Obj.cells #[Value.string b.car, Value.string b.zone, Value.string b.serv] 9) = W3 at *
  refine (C2.out _ _ _ T3.out).mono ?_
  rintro e x3 ⟨u3, rfl, q3, b3⟩
  obtain ⟨a3, p3, e3', h3⟩ := q3.bytes Y2.out
  subst e3'
  have D3 := Lib.hid (A3.out.below b3)
  have H3 := Lib.hid h3
  clear q3 b3 h3 A3 T3 P2
  go_wp2_with (at_builtin; go_must (refine wpList_append_bytes rfl _ _ rfl (w.heap.size + 1) v2 (l ++ y1) y2 rfl D3.out.own a3 p3 rfl H3.out (by simp only [List.length_append]; omega) D3.out.few ?_))
  rintro v3 w3 o3 g3
  have P3 := Lib.hid (D3.out.put o3 g3)
  clear o3 g3 D3 H3
  obtain ⟨⟨c0, c1, c2, c3, c4⟩, c5, c6, c7, c8⟩ := BtB.cells (b := b) P3.out.bat
  go_wp2_with fail
  clear c0 c1 c2 c3 c4 c5 c6 c7 c8
  have A4 := Lib.hid (P3.out.below ((Below.refl _ w3).alloc (Nat.le_refl _) (Obj.cells #[Value.int IntKind.u64 (b.mem.length : Int)] 74)))
  have T4 := Lib.hid (nums_one b.mem.length (by omega) w3)
  generalize w3.alloc (Obj.cells #[Value.int IntKind.u64 (b.mem.length : Int)] 74) = W4 at *
  refine (C3.out _ _ _ T4.out).mono ?_
  rintro e x4 ⟨u4, rfl, q4, b4⟩
  obtain ⟨a4, p4, e4', h4⟩ := q4.bytes Y3.out
  subst e4'
  have D4 := Lib.hid (A4.out.below b4)
  have H4 := Lib.hid h4
  clear q4 b4 h4 A4 T4 P3
  go_wp2_with (at_builtin; go_must (refine wpList_append_bytes rfl _ _ rfl (w.heap.size + 1) v3 (l ++ (y1 ++ y2)) y3 rfl D4.out.own a4 p4 rfl H4.out (by simp only [List.length_append]; omega) D4.out.few ?_))
  rintro v4 w4 o4 g4
  have P4 := Lib.hid (D4.out.put o4 g4)
  clear o4 g4 D4 H4
  obtain ⟨⟨c0, c1, c2, c3, c4⟩, c5, c6, c7, c8⟩ := BtB.cells (b := b) P4.out.bat
  have T5 := Lib.hid (HT.out.below P4.out.low)
  go_wp2_with fail
  clear c0 c1 c2 c3 c4 c5 c6 c7 c8
  have A5 := P4
  refine (C4.out _ _ _ T5.out).mono ?_
  rintro e x5 ⟨u5, rfl, q5, b5⟩
  obtain ⟨a5, p5, e5', h5⟩ := q5.bytes Y4.out
  subst e5'
  have D5 := Lib.hid (A5.out.below b5)
  have H5 := Lib.hid h5
  clear q5 b5 h5 A5 T5 P4
  go_wp2_with (at_builtin; go_must (refine wpList_append_bytes rfl _ _ rfl (w.heap.size + 1) v4 (l ++ (y1 ++ (y2 ++ y3))) y4 rfl D5.out.own a5 p5 rfl H5.out (by simp only [List.length_append]; omega) D5.out.few ?_))
  rintro v5 w5 o5 g5
  have P5 := Lib.hid (D5.out.put o5 g5)
  clear o5 g5 D5 H5
  go_wp2_with fail
  go_ret
  refine ⟨_, rfl, ?_, P5.out.low⟩
  have := P5.out.own
  rw [HF.out]
  first | exact this.base (by omega) | (simp only [List.append_assoc] at *; exact this.base (by omega))
end

end Go.Proofs.YtfmpibmhhfmajaaGreatDoor
