/- OrRead, OrPut, OrPut2, OrTake, OrTake2: together. -/
import Derived.Test.YtfmpibmhhfmajaaGreatDoorMgOrders
import Derived.Test.YtfmpibmhhfmajaaGreatDoorPSc
import Derived.Test.YtfmpibmhhfmajaaGreatDoorMgLines
namespace Go.Proofs.YtfmpibmhhfmajaaGreatDoor

/- OrRead: What Number and Text of a Reader of package packet answer, as one state that is read on; what readLine, readGroup and readSaga of package order answer. -/
section
open Go.RowKit Go.ChangeShapes Go.WideShapes Go.ChangeAt

theorem sizeL (x0 x1 x2 : Value) : (Tryz.prog.info? 72).map (·.size) = some #[x0, x1, x2].size := by
  show _ = some 3
  kernel_rfl
theorem sizeS (x0 x1 x2 : Value) : (Tryz.prog.info? 91).map (·.size) = some #[x0, x1, x2].size := by
  show _ = some 3
  kernel_rfl

/-- A line is answered, and the Reader is further on. -/
def lineV (x : Ln) : Value := .agg #[.string x.sku, .int .i64 x.qty, .int .i64 x.wt]

set_option maxRecDepth 100000 in
set_option maxHeartbeats 4000000 in
theorem readLine_any (w : World) (g : Nat) (s : Sc) (h : RdS w g s) : Calls Tryz.prog 161 #[.pointer (some ⟨g, 0, none⟩)] w (ReadS g (lineV (lineS s).1) (lineS s).2 w) := by
  have hg := h.lt
  have K0 := Lib.hid (Rin.begin h 72 #[.string ⟨#[]⟩, .int .i64 0, .int .i64 0])
  have y1 := h.bytes
  rcases h1 : textS 32 s with ⟨v1, s1⟩
  have z1 : BytesS s1 := by have := (textS_bytes y1 32).1; rwa [h1] at this
  have C1 := Lib.hid (fun W hW => show Calls Tryz.prog 90 #[.pointer (some ⟨g, 0, none⟩), .int .i64 32] W (ReadS g (.string (strB v1)) s1 W) by have := rd_text W g s 32 hW (by decide); rwa [h1] at this)
  have y2 := z1
  rcases h2 : numS 1000 s1 with ⟨v2, s2⟩
  have z2 : BytesS s2 := by have := numS_bytes y2 1000; rwa [h2] at this
  have n2 : v2 ≤ 1000 := by have := numS_le 1000 s1 y2; rwa [h2] at this
  have C2 := Lib.hid (fun W hW => show Calls Tryz.prog 89 #[.pointer (some ⟨g, 0, none⟩), .int .u64 1000] W (ReadS g (.int .u64 (v2 : Int)) s2 W) by have := rd_num W g s1 1000 hW (by decide); rwa [h2] at this)
  have e2 : IntKind.i64.wrap (v2 : Int) = (v2 : Int) := by rw [IntKind.wrap_i64]; omega
  have y3 := z2
  rcases h3 : numS 100000 s2 with ⟨v3, s3⟩
  have z3 : BytesS s3 := by have := numS_bytes y3 100000; rwa [h3] at this
  have n3 : v3 ≤ 100000 := by have := numS_le 100000 s2 y3; rwa [h3] at this
  have C3 := Lib.hid (fun W hW => show Calls Tryz.prog 89 #[.pointer (some ⟨g, 0, none⟩), .int .u64 100000] W (ReadS g (.int .u64 (v3 : Int)) s3 W) by have := rd_num W g s2 100000 hW (by decide); rwa [h3] at this)
  have e3 : IntKind.i64.wrap (v3 : Int) = (v3 : Int) := by rw [IntKind.wrap_i64]; omega
  have HP := Lib.hid (show lineS s = (⟨strB v1, (v2 : Int), (v3 : Int)⟩, s3) by simp only [lineS, h1, h2, h3])
  clear h h1 h2 h3 y1 y2 y3 z1 z2 z3
  clear n2 n3
  go_enter Tryz.func161, Tryz.ntmps161
  go_wp2_with fail
  generalize (w.alloc (Obj.cells #[Value.string ⟨#[]⟩, Value.int IntKind.i64 0, Value.int IntKind.i64 0] 72)).alloc (Obj.cells #[Value.string ⟨#[]⟩, Value.int IntKind.i64 0, Value.int IntKind.i64 0] 72) = W0 at *
  refine (C1.out _ K0.out.rd).mono ?_
  rintro e w1 ⟨rfl, r1, b1⟩
  have J1 := Lib.hid (K0.out.call hg r1 b1)
  obtain ⟨⟨c0, c1, c2⟩, f0, f1, f2⟩ := cellsR3 J1.out.var
  clear r1 b1
  have K1 := Lib.hid (J1.out.set hg 0 (.string (strB v1)))
  go_wp2_with fail
  clear c0 c1 c2 f0 f1 f2
  generalize w1.setCell ⟨w.heap.size + 1, 0, none⟩ (.string (strB v1)) = W1 at *
  refine (C2.out _ K1.out.rd).mono ?_
  rintro e w2 ⟨rfl, r2, b2⟩
  have J2 := Lib.hid (K1.out.call hg r2 b2)
  obtain ⟨⟨c0, c1, c2⟩, f0, f1, f2⟩ := cellsR3 J2.out.var
  clear r2 b2
  have K2 := Lib.hid (J2.out.set hg 1 (.int .i64 (v2 : Int)))
  go_wp2_with fail
  clear c0 c1 c2 f0 f1 f2
  generalize w2.setCell ⟨w.heap.size + 1, 1, none⟩ (.int .i64 (v2 : Int)) = W2 at *
  refine (C3.out _ K2.out.rd).mono ?_
  rintro e w3 ⟨rfl, r3, b3⟩
  have J3 := Lib.hid (K2.out.call hg r3 b3)
  obtain ⟨⟨c0, c1, c2⟩, f0, f1, f2⟩ := cellsR3 J3.out.var
  clear r3 b3
  have K3 := Lib.hid (J3.out.set hg 2 (.int .i64 (v3 : Int)))
  go_wp2_with (refine wpList_store_row rfl 72 _ _ rfl w.heap.size #[.string (strB v1), .int .i64 (v2 : Int), .int .i64 (v3 : Int)] rfl rfl 72 #[.string ⟨#[]⟩, .int .i64 0, .int .i64 0] K3.out.res (sizeL _ _ _) rfl (by simp [Value.oneCell']) ?_)
  (try simp only [Exit.inBlock, Exit.then])
  refine bodyPost_ret (v := .agg #[.string (strB v1), .int .i64 (v2 : Int), .int .i64 (v3 : Int)]) ?_ rfl ⟨by rw [HP.out]; rfl, by rw [HP.out]; exact (K3.out.fin hg _).1, (K3.out.fin hg _).2⟩
  exact results_cell_row rfl _ _ w.heap.size 72 _ (0, 0) _ rfl (setRow_heap _ _ _ _ _ _ K3.out.res) Tryz.underlying72 rfl (sizeL _ _ _)

def sagaS (s : Sc) : (Nat × Nat × Nat) × Sc :=
  (((numS 12 s).1, (numS 1 (numS 12 s).2).1, (numS 1000000 (numS 1 (numS 12 s).2).2).1), (numS 1000000 (numS 1 (numS 12 s).2).2).2)
def sagaV (t : Nat × Nat × Nat) : Value := .agg #[.int .i64 (t.1 : Int), .bool (decide (t.2.1 = 1)), .int .i64 (t.2.2 : Int)]

set_option maxRecDepth 100000 in
set_option maxHeartbeats 4000000 in
theorem readGroup_any (w : World) (g : Nat) (s : Sc) (h : RdS w g s) : Calls Tryz.prog 162 #[.pointer (some ⟨g, 0, none⟩)] w (ReadS g (groupV (groupS s).1) (groupS s).2 w) := by
  have hg := h.lt
  have K0 := Lib.hid (Rin.begin h 24 #[.string ⟨#[]⟩, .string ⟨#[]⟩, .string ⟨#[]⟩])
  have y1 := h.bytes
  rcases h1 : textS 32 s with ⟨v1, s1⟩
  have z1 : BytesS s1 := by have := (textS_bytes y1 32).1; rwa [h1] at this
  have C1 := Lib.hid (fun W hW => show Calls Tryz.prog 90 #[.pointer (some ⟨g, 0, none⟩), .int .i64 32] W (ReadS g (.string (strB v1)) s1 W) by have := rd_text W g s 32 hW (by decide); rwa [h1] at this)
  have y2 := z1
  rcases h2 : textS 32 s1 with ⟨v2, s2⟩
  have z2 : BytesS s2 := by have := (textS_bytes y2 32).1; rwa [h2] at this
  have C2 := Lib.hid (fun W hW => show Calls Tryz.prog 90 #[.pointer (some ⟨g, 0, none⟩), .int .i64 32] W (ReadS g (.string (strB v2)) s2 W) by have := rd_text W g s1 32 hW (by decide); rwa [h2] at this)
  have y3 := z2
  rcases h3 : textS 32 s2 with ⟨v3, s3⟩
  have z3 : BytesS s3 := by have := (textS_bytes y3 32).1; rwa [h3] at this
  have C3 := Lib.hid (fun W hW => show Calls Tryz.prog 90 #[.pointer (some ⟨g, 0, none⟩), .int .i64 32] W (ReadS g (.string (strB v3)) s3 W) by have := rd_text W g s2 32 hW (by decide); rwa [h3] at this)
  have HP := Lib.hid (show groupS s = ((v1, v2, v3), s3) by simp only [groupS, h1, h2, h3])
  clear h h1 h2 h3 y1 y2 y3 z1 z2 z3
  go_enter Tryz.func162, Tryz.ntmps162
  go_wp2_with fail
  generalize (w.alloc (Obj.cells #[Value.string ⟨#[]⟩, Value.string ⟨#[]⟩, Value.string ⟨#[]⟩] 24)).alloc (Obj.cells #[Value.string ⟨#[]⟩, Value.string ⟨#[]⟩, Value.string ⟨#[]⟩] 24) = W0 at *
  refine (C1.out _ K0.out.rd).mono ?_
  rintro e w1 ⟨rfl, r1, b1⟩
  have J1 := Lib.hid (K0.out.call hg r1 b1)
  obtain ⟨⟨c0, c1, c2⟩, f0, f1, f2⟩ := cellsR3 J1.out.var
  clear r1 b1
  have K1 := Lib.hid (J1.out.set hg 0 (.string (strB v1)))
  go_wp2_with fail
  clear c0 c1 c2 f0 f1 f2
  generalize w1.setCell ⟨w.heap.size + 1, 0, none⟩ (.string (strB v1)) = W1 at *
  refine (C2.out _ K1.out.rd).mono ?_
  rintro e w2 ⟨rfl, r2, b2⟩
  have J2 := Lib.hid (K1.out.call hg r2 b2)
  obtain ⟨⟨c0, c1, c2⟩, f0, f1, f2⟩ := cellsR3 J2.out.var
  clear r2 b2
  have K2 := Lib.hid (J2.out.set hg 1 (.string (strB v2)))
  go_wp2_with fail
  clear c0 c1 c2 f0 f1 f2
  generalize w2.setCell ⟨w.heap.size + 1, 1, none⟩ (.string (strB v2)) = W2 at *
  refine (C3.out _ K2.out.rd).mono ?_
  rintro e w3 ⟨rfl, r3, b3⟩
  have J3 := Lib.hid (K2.out.call hg r3 b3)
  obtain ⟨⟨c0, c1, c2⟩, f0, f1, f2⟩ := cellsR3 J3.out.var
  clear r3 b3
  have K3 := Lib.hid (J3.out.set hg 2 (.string (strB v3)))
  go_wp2_with (refine wpList_store_row rfl 24 _ _ rfl w.heap.size #[.string (strB v1), .string (strB v2), .string (strB v3)] rfl rfl 24 #[.string ⟨#[]⟩, .string ⟨#[]⟩, .string ⟨#[]⟩] K3.out.res (sizeG _ _ _) rfl (by simp [Value.oneCell']) ?_)
  (try simp only [Exit.inBlock, Exit.then])
  refine bodyPost_ret (v := .agg #[.string (strB v1), .string (strB v2), .string (strB v3)]) ?_ rfl ⟨by rw [HP.out]; rfl, by rw [HP.out]; exact (K3.out.fin hg _).1, (K3.out.fin hg _).2⟩
  exact results_cell_row rfl _ _ w.heap.size 24 _ (0, 0) _ rfl (setRow_heap _ _ _ _ _ _ K3.out.res) Tryz.underlying24 rfl (sizeG _ _ _)

set_option maxRecDepth 100000 in
set_option maxHeartbeats 4000000 in
theorem readSaga_any (w : World) (g : Nat) (s : Sc) (h : RdS w g s) : Calls Tryz.prog 163 #[.pointer (some ⟨g, 0, none⟩)] w (ReadS g (sagaV (sagaS s).1) (sagaS s).2 w) := by
  have hg := h.lt
  have K0 := Lib.hid (Rin.begin h 91 #[.int .i64 0, .bool false, .int .i64 0])
  have y1 := h.bytes
  rcases h1 : numS 12 s with ⟨v1, s1⟩
  have z1 : BytesS s1 := by have := numS_bytes y1 12; rwa [h1] at this
  have n1 : v1 ≤ 12 := by have := numS_le 12 s y1; rwa [h1] at this
  have C1 := Lib.hid (fun W hW => show Calls Tryz.prog 89 #[.pointer (some ⟨g, 0, none⟩), .int .u64 12] W (ReadS g (.int .u64 (v1 : Int)) s1 W) by have := rd_num W g s 12 hW (by decide); rwa [h1] at this)
  have e1 : IntKind.i64.wrap (v1 : Int) = (v1 : Int) := by rw [IntKind.wrap_i64]; omega
  have y2 := z1
  rcases h2 : numS 1 s1 with ⟨v2, s2⟩
  have z2 : BytesS s2 := by have := numS_bytes y2 1; rwa [h2] at this
  have n2 : v2 ≤ 1 := by have := numS_le 1 s1 y2; rwa [h2] at this
  have C2 := Lib.hid (fun W hW => show Calls Tryz.prog 89 #[.pointer (some ⟨g, 0, none⟩), .int .u64 1] W (ReadS g (.int .u64 (v2 : Int)) s2 W) by have := rd_num W g s1 1 hW (by decide); rwa [h2] at this)
  have e2 : ((v2 : Int) == 1) = decide (v2 = 1) := by rw [Bool.eq_iff_iff]; simp; omega
  have y3 := z2
  rcases h3 : numS 1000000 s2 with ⟨v3, s3⟩
  have z3 : BytesS s3 := by have := numS_bytes y3 1000000; rwa [h3] at this
  have n3 : v3 ≤ 1000000 := by have := numS_le 1000000 s2 y3; rwa [h3] at this
  have C3 := Lib.hid (fun W hW => show Calls Tryz.prog 89 #[.pointer (some ⟨g, 0, none⟩), .int .u64 1000000] W (ReadS g (.int .u64 (v3 : Int)) s3 W) by have := rd_num W g s2 1000000 hW (by decide); rwa [h3] at this)
  have e3 : IntKind.i64.wrap (v3 : Int) = (v3 : Int) := by rw [IntKind.wrap_i64]; omega
  have HP := Lib.hid (show sagaS s = ((v1, v2, v3), s3) by simp only [sagaS, h1, h2, h3])
  clear h h1 h2 h3 y1 y2 y3 z1 z2 z3
  clear n1 n2 n3
  go_enter Tryz.func163, Tryz.ntmps163
  go_wp2_with fail
  generalize (w.alloc (Obj.cells #[Value.int IntKind.i64 0, Value.bool false, Value.int IntKind.i64 0] 91)).alloc (Obj.cells #[Value.int IntKind.i64 0, Value.bool false, Value.int IntKind.i64 0] 91) = W0 at *
  refine (C1.out _ K0.out.rd).mono ?_
  rintro e w1 ⟨rfl, r1, b1⟩
  have J1 := Lib.hid (K0.out.call hg r1 b1)
  obtain ⟨⟨c0, c1, c2⟩, f0, f1, f2⟩ := cellsR3 J1.out.var
  clear r1 b1
  have K1 := Lib.hid (J1.out.set hg 0 (.int .i64 (v1 : Int)))
  go_wp2_with fail
  clear c0 c1 c2 f0 f1 f2
  generalize w1.setCell ⟨w.heap.size + 1, 0, none⟩ (.int .i64 (v1 : Int)) = W1 at *
  refine (C2.out _ K1.out.rd).mono ?_
  rintro e w2 ⟨rfl, r2, b2⟩
  have J2 := Lib.hid (K1.out.call hg r2 b2)
  obtain ⟨⟨c0, c1, c2⟩, f0, f1, f2⟩ := cellsR3 J2.out.var
  clear r2 b2
  have K2 := Lib.hid (J2.out.set hg 1 (.bool (decide (v2 = 1))))
  go_wp2_with fail
  clear c0 c1 c2 f0 f1 f2
  generalize w2.setCell ⟨w.heap.size + 1, 1, none⟩ (.bool (decide (v2 = 1))) = W2 at *
  refine (C3.out _ K2.out.rd).mono ?_
  rintro e w3 ⟨rfl, r3, b3⟩
  have J3 := Lib.hid (K2.out.call hg r3 b3)
  obtain ⟨⟨c0, c1, c2⟩, f0, f1, f2⟩ := cellsR3 J3.out.var
  clear r3 b3
  have K3 := Lib.hid (J3.out.set hg 2 (.int .i64 (v3 : Int)))
  go_wp2_with (refine wpList_store_row rfl 91 _ _ rfl w.heap.size #[.int .i64 (v1 : Int), .bool (decide (v2 = 1)), .int .i64 (v3 : Int)] rfl rfl 91 #[.int .i64 0, .bool false, .int .i64 0] K3.out.res (sizeS _ _ _) rfl (by simp [Value.oneCell']) ?_)
  (try simp only [Exit.inBlock, Exit.then])
  refine bodyPost_ret (v := .agg #[.int .i64 (v1 : Int), .bool (decide (v2 = 1)), .int .i64 (v3 : Int)]) ?_ rfl ⟨by rw [HP.out]; rfl, by rw [HP.out]; exact (K3.out.fin hg _).1, (K3.out.fin hg _).2⟩
  exact results_cell_row rfl _ _ w.heap.size 91 _ (0, 0) _ rfl (setRow_heap _ _ _ _ _ _ K3.out.res) Tryz.underlying91 rfl (sizeS _ _ _)
end

/- OrPut: What numbers and Put of package order answer, at every order that can be. -/
section
open Go.RowKit Go.ChangeShapes Go.WideShapes Go.ChangeAt

def numsO (o : Od) : List Nat := [o.total.toNat, o.phase.toNat, givenN o.given, o.ref.toNat, o.batch.toNat]
/-- Numbers are answered, in memory of the call's own. -/
def NumsPost (l : List Nat) (w : World) (e : Ending) (w' : World) : Prop := ∃ a, e = .returned (.slice a l.length l.length) ∧ NumsP w' a l.length l ∧ Below w.heap.size w w'

set_option maxRecDepth 100000 in
set_option maxHeartbeats 4000000 in
theorem numbers_any (a : Option Addr) (cap : Nat) (o : Od) (w : World) (h : rightO o = true) : Calls Tryz.prog 118 #[odV a cap o] w (NumsPost (numsO o) w) := by
  obtain ⟨_, _, _, r4, r5, r6⟩ := rightO_of h
  obtain ⟨m1, e1, t1, q1⟩ := wrap_64 o.total r4.1 r4.2
  obtain ⟨m2, e2, t2, q2⟩ := wrap_64 o.phase (by omega) (by omega)
  obtain ⟨m3, e3, t3, q3⟩ := wrap_64 o.ref r5.2.1 (by omega)
  obtain ⟨m4, e4, t4, q4⟩ := wrap_64 o.batch r6.1 r6.2
  have HO := Lib.hid (show numsO o = [m1, m2, givenN o.given, m3, m4] by unfold numsO; rw [t1, t2, t3, t4])
  have H0 := Lib.hid (fun W => nums_five m1 m2 0 m3 m4 q1 q2 (by decide) q3 q4 W)
  have H1 := Lib.hid (fun W => nums_five m1 m2 1 m3 m4 q1 q2 (by decide) q3 q4 W)
  clear h r4 r5 r6 t1 t2 t3 t4 q1 q2 q3 q4
  rcases o with ⟨i, ls, c, z, s, t, p, g, r, b⟩
  dsimp only at *
  cases g with
  | false =>
    have B := Lib.hid ((Below.refl w.heap.size w).alloc (Nat.le_refl _) (Obj.cells #[.string i, .slice a ls.length cap, .string c, .string z, .string s, .int .i64 t, .int .i64 p, .bool false, .int .i64 r, .int .i64 b] 93))
    go_enter Tryz.func118, Tryz.ntmps118
    unfold odV
    go_wp2_with fail
    go_ret
    exact ⟨_, rfl, by rw [HO.out]; have := H0.out (w.alloc (Obj.cells #[.string i, .slice a ls.length cap, .string c, .string z, .string s, .int .i64 t, .int .i64 p, .bool false, .int .i64 r, .int .i64 b] 93)); rw [show (w.alloc (Obj.cells #[.string i, .slice a ls.length cap, .string c, .string z, .string s, .int .i64 t, .int .i64 p, .bool false, .int .i64 r, .int .i64 b] 93)).heap.size = w.heap.size + 1 by simp] at this; exact this, B.out.alloc B.out.size _⟩
  | true =>
    have B := Lib.hid ((Below.refl w.heap.size w).alloc (Nat.le_refl _) (Obj.cells #[.string i, .slice a ls.length cap, .string c, .string z, .string s, .int .i64 t, .int .i64 p, .bool true, .int .i64 r, .int .i64 b] 93))
    go_enter Tryz.func118, Tryz.ntmps118
    unfold odV
    go_wp2_with fail
    go_ret
    exact ⟨_, rfl, by rw [HO.out]; have := H1.out (w.alloc (Obj.cells #[.string i, .slice a ls.length cap, .string c, .string z, .string s, .int .i64 t, .int .i64 p, .bool true, .int .i64 r, .int .i64 b] 93)); rw [show (w.alloc (Obj.cells #[.string i, .slice a ls.length cap, .string c, .string z, .string s, .int .i64 t, .int .i64 p, .bool true, .int .i64 r, .int .i64 b] 93)).heap.size = w.heap.size + 1 by simp] at this; exact this, B.out.alloc B.out.size _⟩
end

/- OrPut2: What Put of package order answers, at every order that can be. -/
section
open Go.RowKit Go.ChangeShapes Go.WideShapes Go.ChangeAt

/-- An order is put: its block, then the bytes so far, in a row of the call's own. -/
structure PutI (w : World) (a : Option Addr) (cap : Nat) (o : Od) (acc : List Nat) (v : Value) (W : World) : Prop where
  own : OwnB W (w.heap.size + 1) v acc
  ord : OdB W w.heap.size a cap o
  low : Below w.heap.size w W
  few : w.heap.size + 1 ≤ W.heap.size

theorem PutI.below {w W W' : World} {a : Option Addr} {cap : Nat} {o : Od} {acc : List Nat} {v : Value} (h : PutI w a cap o acc v W) (b : Below W.heap.size W W') : PutI w a cap o acc v W' :=
  ⟨h.own.below b, h.ord.below b, h.low.trans (b.mono h.low.size), Nat.le_trans h.few b.size⟩
theorem PutI.put {w W W' : World} {a : Option Addr} {cap : Nat} {o : Od} {acc acc' : List Nat} {v v' : Value} (h : PutI w a cap o acc v W) (own : OwnB W' (w.heap.size + 1) v' acc') (g : W.grownBy W' v.ownBlock) : PutI w a cap o acc' v' W' := by
  have hr := h.own.row
  refine ⟨own, ?_, h.low.grown g h.low.size (fun k hk => by have := hr k hk; omega), Nat.le_trans h.few g.size⟩
  exact (g.block _ h.ord.lt (fun e => by have := hr _ e.symm; omega)).trans h.ord

set_option maxRecDepth 100000 in
set_option maxHeartbeats 8000000 in
theorem put_any (a oa : Option Addr) (cap oc : Nat) (l : List Nat) (o : Od) (w : World) (hB : BytesP w a cap l) (hO : OdP w oa oc o) (hr : rightO o = true) (hl : l.length ≤ 1000000) :
    Calls Tryz.prog 65 #[.slice a l.length cap, odV oa oc o] w (OwnPost (l ++ orderL o) w) := by
  have B0 := (Below.refl w.heap.size w).alloc (Nat.le_refl _) (Obj.cells (odC oa oc o) 93)
  have P0 : Hid (PutI w oa oc o [] (.slice none 0 0) (w.alloc (.cells (odC oa oc o) 93))) := Lib.hid ⟨own_nil _ _, OdB.new _ _ _ _, B0, by simp⟩
  have HB := Lib.hid (hB.below B0)
  have hz : w.heap.size + 1 ≤ (w.alloc (.cells (odC oa oc o) 93)).heap.size := by simp
  obtain ⟨k1, k2, k3, _, _, _⟩ := rightO_of hr
  obtain ⟨k4, k5, k6⟩ := groupB_of k2
  obtain ⟨⟨k7, k8⟩, k9, _⟩ := (rightLB_iff _).1 k3
  have s1 := right_32 k1
  have s4 := right_32 k4
  have s5 := right_32 k5
  have s6 := right_32 k6
  have HLN := Lib.hid hO.lns
  have HR := Lib.hid hr
  have HLB := Lib.hid k9
  obtain ⟨y1, hy1⟩ : ∃ y, textsL [o.id] = y := ⟨_, rfl⟩
  have hy1l : y1.length ≤ 42 := by rw [← hy1]; simp only [textsL, List.map_cons, List.map_nil, List.flatten_cons, List.flatten_nil, List.append_nil]; exact textL_32 s1
  have C1 := Lib.hid (fun a2 c2 W h => textN a2 c2 [o.id] W h (by simp) (by intro x hx; simp at hx; subst hx; omega) y1 hy1)
  have Y1 := Lib.hid (show Bytes y1 by rw [← hy1]; exact textsL_bytes _)
  obtain ⟨y2, hy2⟩ : ∃ y, numsL [o.ls.length] = y := ⟨_, rfl⟩
  have hy2l : y2.length ≤ 10 := by rw [← hy2]; exact numsL_len [o.ls.length] (by intro n hn; simp at hn; omega)
  have C2 := Lib.hid (fun a2 c2 W h => numN a2 c2 [o.ls.length] W h (by simp) y2 hy2)
  have Y2 := Lib.hid (show Bytes y2 by rw [← hy2]; exact numsL_bytes _)
  obtain ⟨y3, hy3⟩ : ∃ y, textsL [o.car, o.zone, o.serv] = y := ⟨_, rfl⟩
  have hy3l : y3.length ≤ 126 := by
    have t4 := textL_32 s4
    have t5 := textL_32 s5
    have t6 := textL_32 s6
    rw [← hy3]; simp only [textsL, List.map_cons, List.map_nil, List.flatten_cons, List.flatten_nil, List.append_nil, List.length_append]; omega
  have C3 := Lib.hid (fun a2 c2 W h => textN a2 c2 [o.car, o.zone, o.serv] W h (by simp) (by intro x hx; simp at hx; rcases hx with rfl | rfl | rfl <;> omega) y3 hy3)
  have Y3 := Lib.hid (show Bytes y3 by rw [← hy3]; exact textsL_bytes _)
  obtain ⟨y4, hy4⟩ : ∃ y, numsL (numsO o) = y := ⟨_, rfl⟩
  have Y4 := Lib.hid (show Bytes y4 by rw [← hy4]; exact numsL_bytes _)
  have hy4l : y4.length ≤ 50 := by
    obtain ⟨_, _, _, r4, r5, r6⟩ := rightO_of hr
    have q5 := givenN_le o.given
    rw [← hy4]
    exact numsL_len (numsO o) (by
      intro n hn
      simp only [numsO, List.mem_cons, List.not_mem_nil, or_false] at hn
      rcases hn with rfl | rfl | rfl | rfl | rfl <;> omega)
  have HF := Lib.hid (show l ++ orderL o = (((l ++ y1) ++ y2) ++ linesL o.ls) ++ y3 ++ y4 by
    rw [← hy1, ← hy2, ← hy3, ← hy4]
    simp [orderL, textsL, numsL, numsO])
  have C4 := Lib.hid (fun a2 c2 W h => numN a2 c2 (numsO o) W h (by simp [numsO]) y4 hy4)
  have CN := Lib.hid (fun W => numbers_any oa oc o W hr)
  clear hr k1 k2 k3 k4 k5 k6 k9 hB hO hy1 hy2 hy3 s1 s4 s5 s6 B0
  have hn2 : IntKind.u64.wrap (o.ls.length : Int) = (o.ls.length : Int) := by rw [IntKind.wrap_u64]; omega
  unfold odV at *
  unfold odC at *
  go_enter Tryz.func65, Tryz.ntmps65
  go_wp2_with (at_builtin; go_must (refine wpList_append_bytes rfl _ _ rfl (w.heap.size + 1) (.slice none 0 0) [] l rfl P0.out.own a cap rfl HB.out (by simp; omega) hz ?_))
  rintro v1 w1 o1 g1
  have P1 := Lib.hid (P0.out.put o1 g1)
  clear o1 g1 P0 HB hz
  obtain ⟨⟨c0, c1, c2, c3, c4⟩, c5, c6, c7, c8, c9⟩ := OdB.cells (o := o) P1.out.ord
  go_wp2_with fail
  clear c0 c1 c2 c3 c4 c5 c6 c7 c8 c9
  have A2 := Lib.hid (P1.out.below ((Below.refl _ w1).alloc (Nat.le_refl _) (Obj.cells #[Value.string o.id] 9)))
  have T2 := Lib.hid (strs_one o.id w1)
  generalize w1.alloc (Obj.cells #[Value.string o.id] 9) = W2 at *
  refine (C1.out _ _ _ T2.out).mono ?_
  rintro e x2 ⟨u2, rfl, q2, b2⟩
  obtain ⟨a2, p2, e2, h2⟩ := q2.bytes Y1.out
  subst e2
  have D2 := Lib.hid (A2.out.below b2)
  have H2 := Lib.hid h2
  clear q2 b2 h2 A2 T2 P1
  go_wp2_with (at_builtin; go_must (refine wpList_append_bytes rfl _ _ rfl (w.heap.size + 1) v1 (l) y1 rfl D2.out.own a2 p2 rfl H2.out (by omega) D2.out.few ?_))
  rintro v2 w2 o2 g2
  have P2 := Lib.hid (D2.out.put o2 g2)
  clear o2 g2 D2 H2
  obtain ⟨⟨c0, c1, c2, c3, c4⟩, c5, c6, c7, c8, c9⟩ := OdB.cells (o := o) P2.out.ord
  go_wp2_with fail
  clear c0 c1 c2 c3 c4 c5 c6 c7 c8 c9
  have A3 := Lib.hid (P2.out.below ((Below.refl _ w2).alloc (Nat.le_refl _) (Obj.cells #[Value.int IntKind.u64 (o.ls.length : Int)] 74)))
  have T3 := Lib.hid (nums_one o.ls.length (by omega) w2)
  generalize w2.alloc (Obj.cells #[Value.int IntKind.u64 (o.ls.length : Int)] 74) = W3 at *
  refine (C2.out _ _ _ T3.out).mono ?_
  rintro e x3 ⟨u3, rfl, q3, b3⟩
  obtain ⟨a3, p3, e3, h3⟩ := q3.bytes Y2.out
  subst e3
  have D3 := Lib.hid (A3.out.below b3)
  have H3 := Lib.hid h3
  clear q3 b3 h3 A3 T3 P2
  go_wp2_with (at_builtin; go_must (refine wpList_append_bytes rfl _ _ rfl (w.heap.size + 1) v2 (l ++ y1) y2 rfl D3.out.own a3 p3 rfl H3.out (by rw [List.length_append]; omega) D3.out.few ?_))
  rintro v3 w3 o3 g3
  have P3 := Lib.hid (D3.out.put o3 g3)
  clear o3 g3 D3 H3
  obtain ⟨⟨c0, c1, c2, c3, c4⟩, c5, c6, c7, c8, c9⟩ := OdB.cells (o := o) P3.out.ord
  have HL2 := Lib.hid (show ((l ++ y1) ++ y2).length ≤ 1000100 by rw [List.length_append, List.length_append]; omega)
  go_wp2_with fail
  clear c0 c1 c2 c3 c4 c5 c6 c7 c8 c9
  go_loopw [5, 27] (fun v i wr => ∃ (k : Nat) (acc : List Nat), k ≤ o.ls.length ∧ i = .int .i64 k ∧ Hid (PutI w oa oc o acc v wr) ∧ Hid (acc ++ linesL (o.ls.drop k) = ((l ++ y1) ++ y2) ++ linesL o.ls) ∧ acc.length ≤ 1000100 + 100 * k) (fun _ i _ => o.ls.length - (intOf i).toNat)
  case atStart => exact ⟨0, (l ++ y1) ++ y2, Nat.zero_le _, rfl, (by simpa only [List.append_assoc] using P3), Lib.hid rfl, HL2.out⟩
  case round =>
    obtain ⟨k, acc, hk, rfl, PR, HS, hac⟩ := hrel
    by_cases hlt : k < o.ls.length
    · have HLR := Lib.hid (HLN.out.below PR.out.low)
      obtain ⟨b, of, eo, hbl, r1, r2, r3, _⟩ := HLR.out.at k hlt
      subst eo
      have p1 := HLR.out.cap
      have hlb := HLB.out _ (List.getElem_mem hlt)
      obtain ⟨z0, z1, z2, z3, z4⟩ := lineB_of hlb
      have HD := Lib.hid (show linesL (o.ls.drop k) = lineL o.ls[k] ++ linesL (o.ls.drop (k + 1)) by rw [List.drop_eq_getElem_cons hlt, linesL_cons])
      generalize o.ls[k] = x at *
      have zs := right_32 (s := x.sku) z0
      obtain ⟨m1, e1, t1, q1⟩ := wrap_64 x.qty (by omega) (by omega)
      obtain ⟨m2, e2, t2, q2⟩ := wrap_64 x.wt (by omega) (by omega)
      obtain ⟨y5, hy5⟩ : ∃ y, textsL [x.sku] = y := ⟨_, rfl⟩
      have hy5l : y5.length ≤ 42 := by rw [← hy5]; simp only [textsL, List.map_cons, List.map_nil, List.flatten_cons, List.flatten_nil, List.append_nil]; exact textL_32 zs
      have C5 := Lib.hid (fun a2 c2 W h => textN a2 c2 [x.sku] W h (by simp) (by intro x hx; simp at hx; subst hx; omega) y5 hy5)
      have Y5 := Lib.hid (show Bytes y5 by rw [← hy5]; exact textsL_bytes _)
      obtain ⟨y6, hy6⟩ : ∃ y, numsL [m1, m2] = y := ⟨_, rfl⟩
      have hy6l : y6.length ≤ 20 := by rw [← hy6]; exact numsL_len [m1, m2] (by intro n hn; simp at hn; rcases hn with rfl | rfl <;> assumption)
      have C6 := Lib.hid (fun a2 c2 W h => numN a2 c2 [m1, m2] W h (by simp) y6 hy6)
      have Y6 := Lib.hid (show Bytes y6 by rw [← hy6]; exact numsL_bytes _)
      have HN := Lib.hid (show ((acc ++ y5) ++ y6) ++ linesL (o.ls.drop (k + 1)) = ((l ++ y1) ++ y2) ++ linesL o.ls by
        rw [← HS.out, HD.out, ← hy5, ← hy6]
        simp [lineL, textsL, numsL, t1, t2])
      have NT := Lib.hid (fun W => nums_two m1 m2 q1 q2 W)
      clear hy5 hy6 t1 t2 q1 q2 z0 z1 z2 z3 z4 zs hlb HD HS
      have PA := Lib.hid (PR.out.below ((Below.refl _ wr).alloc (Nat.le_refl _) (Obj.cells #[Value.string x.sku, Value.int IntKind.i64 x.qty, Value.int IntKind.i64 x.wt] 72)))
      have RX : Hid (Row (wr.alloc (Obj.cells #[Value.string x.sku, Value.int IntKind.i64 x.qty, Value.int IntKind.i64 x.wt] 72)) wr.heap.size 72 #[.string x.sku, .int .i64 x.qty, .int .i64 x.wt]) := Lib.hid (heap_alloc_new _ _)
      have T5 : Hid (StrsP ((wr.alloc (Obj.cells #[Value.string x.sku, Value.int IntKind.i64 x.qty, Value.int IntKind.i64 x.wt] 72)).alloc (Obj.cells #[Value.string x.sku] 9)) (some ⟨wr.heap.size + 1, 0, none⟩) 1 [x.sku]) := Lib.hid (by
        have := strs_one x.sku (wr.alloc (Obj.cells #[Value.string x.sku, Value.int IntKind.i64 x.qty, Value.int IntKind.i64 x.wt] 72))
        rwa [show (wr.alloc (Obj.cells #[Value.string x.sku, Value.int IntKind.i64 x.qty, Value.int IntKind.i64 x.wt] 72)).heap.size = wr.heap.size + 1 by simp] at this)
      have BX := (Below.refl _ (wr.alloc (Obj.cells #[Value.string x.sku, Value.int IntKind.i64 x.qty, Value.int IntKind.i64 x.wt] 72))).alloc (Nat.le_refl _) (Obj.cells #[Value.string x.sku] 9)
      have A5 := Lib.hid (PA.out.below BX)
      have RX5 := Lib.hid (RX.out.below BX)
      clear BX PA RX
      go_wp2_with fail
      generalize (wr.alloc (Obj.cells #[Value.string x.sku, Value.int IntKind.i64 x.qty, Value.int IntKind.i64 x.wt] 72)).alloc (Obj.cells #[Value.string x.sku] 9) = W5 at *
      refine (C5.out _ _ _ T5.out).mono ?_
      rintro e x5 ⟨u55, rfl, q5, b5⟩
      obtain ⟨a5, p5, e5, h5⟩ := q5.bytes Y5.out
      subst e5
      have D5 := Lib.hid (A5.out.below b5)
      have RX6 := Lib.hid (RX5.out.below b5)
      have H5 := Lib.hid h5
      clear q5 b5 h5 A5 T5 RX5
      go_wp2_with (at_builtin; go_must (refine wpList_append_bytes rfl _ _ rfl (w.heap.size + 1) u5 acc y5 rfl D5.out.own a5 p5 rfl H5.out (by omega) D5.out.few ?_))
      rintro v5 w5 o5 g5
      have P5 := Lib.hid (D5.out.put o5 g5)
      have RX7 : Hid (Row w5 wr.heap.size 72 #[.string x.sku, .int .i64 x.qty, .int .i64 x.wt]) := Lib.hid ((g5.block _ RX6.out.lt (fun e => by have := (World.ownsRow.lt PR.out.own _ e.symm).2; omega)).trans RX6.out)
      clear o5 g5 D5 H5 RX6
      obtain ⟨⟨c0, c1, c2⟩, f0, f1, f2⟩ := cellsR3 RX7.out
      go_wp2_with fail
      clear c0 c1 c2 f0 f1 f2
      have A6 := Lib.hid (P5.out.below ((Below.refl _ w5).alloc (Nat.le_refl _) (Obj.cells #[Value.int IntKind.u64 (m1 : Int), Value.int IntKind.u64 (m2 : Int)] 74)))
      have T6 := Lib.hid (NT.out w5)
      generalize w5.alloc (Obj.cells #[Value.int IntKind.u64 (m1 : Int), Value.int IntKind.u64 (m2 : Int)] 74) = W6 at *
      refine (C6.out _ _ _ T6.out).mono ?_
      rintro e x6 ⟨u66, rfl, q6, b6⟩
      obtain ⟨a6, p6, e6, h6⟩ := q6.bytes Y6.out
      subst e6
      have D6 := Lib.hid (A6.out.below b6)
      have H6 := Lib.hid h6
      clear q6 b6 h6 A6 T6 P5 RX7
      go_wp2_with (at_builtin; go_must (refine wpList_append_bytes rfl _ _ rfl (w.heap.size + 1) v5 (acc ++ y5) y6 rfl D6.out.own a6 p6 rfl H6.out (by rw [List.length_append]; omega) D6.out.few ?_))
      rintro v6 w6 o6 g6
      have P6 := Lib.hid (D6.out.put o6 g6)
      clear o6 g6 D6 H6
      have HL6 := Lib.hid (show ((acc ++ y5) ++ y6).length ≤ 1000100 + 100 * (k + 1) by rw [List.length_append, List.length_append]; omega)
      go_wp2_with fail
      go_roundw
      case rel => exact ⟨k + 1, (acc ++ y5) ++ y6, by omega, by go_num, (by simpa only [List.append_assoc] using P6), HN, HL6.out⟩
      case measure => simp [intOf]; omega
    · have HE := Lib.hid (show acc = ((l ++ y1) ++ y2) ++ linesL o.ls by
        have := HS.out
        rw [List.drop_eq_nil_of_le (by omega)] at this
        simpa [linesL] using this)
      obtain ⟨⟨c0, c1, c2, c3, c4⟩, c5, c6, c7, c8, c9⟩ := OdB.cells (o := o) PR.out.ord
      go_wp2_with fail
      clear c0 c1 c2 c3 c4 c5 c6 c7 c8 c9
      have A7 := Lib.hid (PR.out.below ((Below.refl _ wr).alloc (Nat.le_refl _) (Obj.cells #[Value.string o.car, Value.string o.zone, Value.string o.serv] 9)))
      have T7 := Lib.hid (strs_three o.car o.zone o.serv wr)
      generalize wr.alloc (Obj.cells #[Value.string o.car, Value.string o.zone, Value.string o.serv] 9) = W7 at *
      refine (C3.out _ _ _ T7.out).mono ?_
      rintro e x7 ⟨u7, rfl, q7, b7⟩
      obtain ⟨a7, p7, e7, h7⟩ := q7.bytes Y3.out
      subst e7
      have D7 := Lib.hid (A7.out.below b7)
      have H7 := Lib.hid h7
      clear q7 b7 h7 A7 T7 PR
      go_wp2_with (at_builtin; go_must (refine wpList_append_bytes rfl _ _ rfl (w.heap.size + 1) u5 (acc) y3 rfl D7.out.own a7 p7 rfl H7.out (by omega) D7.out.few ?_))
      rintro v7 w7 o7 g7
      have P7 := Lib.hid (D7.out.put o7 g7)
      clear o7 g7 D7 H7
      obtain ⟨⟨c0, c1, c2, c3, c4⟩, c5, c6, c7, c8, c9⟩ := OdB.cells (o := o) P7.out.ord
      go_wp2_with fail
      clear c0 c1 c2 c3 c4 c5 c6 c7 c8 c9
      refine (CN.out w7).mono ?_
      rintro e w8 ⟨an, rfl, n8, b8⟩
      have D8 := Lib.hid (P7.out.below b8)
      have N8 := Lib.hid n8
      clear n8 b8 P7
      go_wp2_with fail
      refine (C4.out _ _ _ N8.out).mono ?_
      rintro e x9 ⟨u99, rfl, q9, b9⟩
      obtain ⟨a9, p9, e9, h9⟩ := q9.bytes Y4.out
      subst e9
      have D9 := Lib.hid (D8.out.below b9)
      have H9 := Lib.hid h9
      clear q9 b9 h9 D8 N8
      go_wp2_with (at_builtin; go_must (refine wpList_append_bytes rfl _ _ rfl (w.heap.size + 1) v7 (acc ++ y3) y4 rfl D9.out.own a9 p9 rfl H9.out (by rw [List.length_append]; omega) D9.out.few ?_))
      rintro v9 w9 o9 g9
      have P9 := Lib.hid (D9.out.put o9 g9)
      clear g9 D9 H9
      go_wp2_with fail
      go_ret
      refine ⟨_, rfl, ?_, P9.out.low⟩
      have := P9.out.own
      rw [HF.out, ← HE.out]
      first | exact this.base (by omega) | (rw [List.append_assoc]; exact this.base (by omega))
end

/- OrTake: What read and Take of package order answer. -/
section
open Go.RowKit Go.ChangeShapes Go.WideShapes Go.ChangeAt

/-- An order is answered, whose lines are the call's own; the Reader is further on. -/
def ReadO (g : Nat) (o : Od) (s : Sc) (w : World) (e : Ending) (w' : World) : Prop :=
  ∃ a cap, e = .returned (odV a cap o) ∧ OwnL w' w.heap.size (.slice a o.ls.length cap) o.ls ∧ RdS w' g s ∧ But g w w'

abbrev zO : Array Value := #[.string ⟨#[]⟩, .slice none 0 0, .string ⟨#[]⟩, .string ⟨#[]⟩, .string ⟨#[]⟩, .int .i64 0, .int .i64 0, .bool false, .int .i64 0, .int .i64 0]
/-- An order's variable while its lines are read. -/
def vO (i : List Nat) (v : Value) : Array Value := #[.string (strB i), v, .string ⟨#[]⟩, .string ⟨#[]⟩, .string ⟨#[]⟩, .int .i64 0, .int .i64 0, .bool false, .int .i64 0, .int .i64 0]

theorem lineS_sku {s : Sc} (h : BytesS s) : (lineS s).1.sku.size ≤ 32 := by
  have := textS_le 32 h
  unfold lineS
  simp only [strB_size]
  exact this
theorem linesS_skus : ∀ (n : Nat) {s : Sc} (_ : BytesS s), ∀ x ∈ (linesS n s).1, x.sku.size ≤ 32
  | 0, _, _, x, hx => by simp [linesS] at hx
  | n + 1, s, h, x, hx => by
    rw [linesS] at hx
    rcases List.mem_cons.1 hx with rfl | hx
    · exact lineS_sku h
    · exact linesS_skus n (lineS_bytes h) x hx

theorem one_line (W : World) (x : Ln) (h : x.sku.size ≤ maxLen) : LnsP (W.alloc (.cells #[.string x.sku, .int .i64 x.qty, .int .i64 x.wt] 72)) (some ⟨W.heap.size, 0, none⟩) 1 [x] :=
  lns_block W [x] (by intro y hy; simp at hy; subst hy; exact h) (by unfold maxLen; simp)

theorem cellsR10 {w : World} {g : Nat} {T : TypeId} {a0 a1 a2 a3 a4 a5 a6 a7 a8 a9 : Value} (h : Row w g T #[a0, a1, a2, a3, a4, a5, a6, a7, a8, a9]) :
    ((w.cell? ⟨g, 0, none⟩ = some a0 ∧ w.cell? ⟨g, 1, none⟩ = some a1 ∧ w.cell? ⟨g, 2, none⟩ = some a2 ∧ w.cell? ⟨g, 3, none⟩ = some a3 ∧ w.cell? ⟨g, 4, none⟩ = some a4) ∧
     w.cell? ⟨g, 5, none⟩ = some a5 ∧ w.cell? ⟨g, 6, none⟩ = some a6 ∧ w.cell? ⟨g, 7, none⟩ = some a7 ∧ w.cell? ⟨g, 8, none⟩ = some a8 ∧ w.cell? ⟨g, 9, none⟩ = some a9) ∧ ∀ o, w.frozen? ⟨g, o, none⟩ = false :=
  ⟨⟨⟨h.cell 0, h.cell 1, h.cell 2, h.cell 3, h.cell 4⟩, h.cell 5, h.cell 6, h.cell 7, h.cell 8, h.cell 9⟩, h.free⟩

theorem takeS_of {s s1 s2 s3 s4 s5 s6 s7 : Sc} {v1 t1 t2 t3 : List Nat} {v2 v5 p q r v7 : Nat} {acc : List Ln} (h1 : textS 32 s = (v1, s1)) (h2 : numS 8 s1 = (v2, s2)) (h3 : linesS v2 s2 = (acc, s3)) (h4 : groupS s3 = ((t1, t2, t3), s4))
    (h5 : numS 1000000000000 s4 = (v5, s5)) (h6 : sagaS s5 = ((p, q, r), s6)) (h7 : numS 1000000000000 s6 = (v7, s7)) :
    takeS s = (⟨strB v1, acc, strB t1, strB t2, strB t3, (v5 : Int), (p : Int), decide (q = 1), (r : Int), (v7 : Int)⟩, s7) := by
  simp only [groupS, Prod.mk.injEq] at h4
  obtain ⟨⟨rfl, rfl, rfl⟩, rfl⟩ := h4
  simp only [sagaS, Prod.mk.injEq] at h6
  obtain ⟨⟨rfl, rfl, rfl⟩, rfl⟩ := h6
  simp only [takeS, h1, h2, h3, h5, h7]

theorem sizeO10 (x0 x1 x2 x3 x4 x5 x6 x7 x8 x9 : Value) : (Tryz.prog.info? 93).map (·.size) = some #[x0, x1, x2, x3, x4, x5, x6, x7, x8, x9].size := by
  show _ = some 10
  kernel_rfl

theorem one10 (a0 a2 a3 a4 : ByteArray) (a : Option Addr) (n c : Nat) (x5 x6 x8 x9 : Int) (b : Bool) : (#[Value.string a0, .slice a n c, .string a2, .string a3, .string a4, .int .i64 x5, .int .i64 x6, .bool b, .int .i64 x8, .int .i64 x9]).all (·.oneCell') = true := by simp [Value.oneCell']

theorem wpList_store_order {ops : Array Oper} {rest : List Oper} {o : Oper} {ac : Act} {w : World} {Q : Exit → Act → World → Prop} (hgd : o.guard = none) (x y : Operand) (ho : o.op = .store 93 x y)
    (g : Nat) (a0 a2 a3 a4 : ByteArray) (a : Option Addr) (n c : Nat) (x5 x6 x8 x9 : Int) (b : Bool) (hx : ac.eval x = .pointer (some ⟨g, 0, none⟩))
    (hy : ac.eval y = .agg #[.string a0, .slice a n c, .string a2, .string a3, .string a4, .int .i64 x5, .int .i64 x6, .bool b, .int .i64 x8, .int .i64 x9]) (hg : Row w g 93 zO)
    (h : wpList Tryz.prog ops Q rest (ac.put o.dst undef) (w.setRow g #[.string a0, .slice a n c, .string a2, .string a3, .string a4, .int .i64 x5, .int .i64 x6, .bool b, .int .i64 x8, .int .i64 x9])) : wpList Tryz.prog ops Q (o :: rest) ac w :=
  wpList_store_row hgd 93 x y ho g _ hx hy 93 zO hg (sizeO10 _ _ _ _ _ _ _ _ _ _) rfl (one10 _ _ _ _ _ _ _ _ _ _ _ _) h

theorem OwnL.cell {w : World} {base k : Nat} {v : Value} {ls : List Ln} (h : OwnL w base v ls) (hk : k < base) (o : Nat) (x : Value) : OwnL (w.setCell ⟨k, o, none⟩ x) base v ls :=
  h.grown fun i h1 h2 => ((But.refl k w).set o x).block i h2 (by omega)

set_option maxRecDepth 100000 in
set_option maxHeartbeats 8000000 in
theorem read_any (w : World) (g : Nat) (s : Sc) (h : RdS w g s) : Calls Tryz.prog 133 #[.pointer (some ⟨g, 0, none⟩)] w (ReadO g (takeS s).1 (takeS s).2 w) := by
  have hg := h.lt
  have K0 := Lib.hid (Rin.begin h 93 zO)
  have y1 := h.bytes
  rcases h1 : textS 32 s with ⟨v1, s1⟩
  have C1 := Lib.hid (fun W hW => show Calls Tryz.prog 90 #[.pointer (some ⟨g, 0, none⟩), .int .i64 32] W (ReadS g (.string (strB v1)) s1 W) by have := rd_text W g s 32 hW (by decide); rwa [h1] at this)
  have y2 : BytesS s1 := by have := (textS_bytes y1 32).1; rwa [h1] at this
  rcases h2 : numS 8 s1 with ⟨v2, s2⟩
  have C2 := Lib.hid (fun W hW => show Calls Tryz.prog 89 #[.pointer (some ⟨g, 0, none⟩), .int .u64 8] W (ReadS g (.int .u64 (v2 : Int)) s2 W) by have := rd_num W g s1 8 hW (by decide); rwa [h2] at this)
  have y3 : BytesS s2 := by have := numS_bytes y2 8; rwa [h2] at this
  have n2 : v2 ≤ 8 := by have := numS_le 8 s1 y2; rwa [h2] at this
  have H1 := Lib.hid h1
  have H2 := Lib.hid h2
  have Y3 := Lib.hid y3
  clear h1 h2 y1 y2 y3
  unfold zO at K0
  go_enter Tryz.func133, Tryz.ntmps133
  go_wp2_with fail
  generalize (w.alloc (Obj.cells #[Value.string ⟨#[]⟩, Value.slice none 0 0, Value.string ⟨#[]⟩, Value.string ⟨#[]⟩, Value.string ⟨#[]⟩, Value.int .i64 0, Value.int .i64 0, Value.bool false, Value.int .i64 0, Value.int .i64 0] 93)).alloc (Obj.cells #[Value.string ⟨#[]⟩, Value.slice none 0 0, Value.string ⟨#[]⟩, Value.string ⟨#[]⟩, Value.string ⟨#[]⟩, Value.int .i64 0, Value.int .i64 0, Value.bool false, Value.int .i64 0, Value.int .i64 0] 93) = W0 at *
  refine (C1.out _ K0.out.rd).mono ?_
  rintro e w1 ⟨rfl, r1, b1⟩
  have J1 := Lib.hid (K0.out.call hg r1 b1)
  obtain ⟨⟨⟨c0, c1, c2, c3, c4⟩, c5, c6, c7, c8, c9⟩, f⟩ := cellsR10 J1.out.var
  clear r1 b1
  have K1 := Lib.hid (J1.out.set hg 0 (.string (strB v1)))
  go_wp2_with fail
  clear c0 c1 c2 c3 c4 c5 c6 c7 c8 c9 f
  generalize w1.setCell ⟨w.heap.size + 1, 0, none⟩ (.string (strB v1)) = W1 at *
  refine (C2.out _ K1.out.rd).mono ?_
  rintro e w2 ⟨rfl, r2, b2⟩
  have K2 : Hid (Rin w g 93 zO (vO v1 (.slice none 0 0)) s2 w2) := Lib.hid (K1.out.call hg r2 b2)
  clear r2 b2 K0 J1 K1 C1 C2
  go_wp2_with fail
  go_loopw [9] (fun i wr => ∃ (k : Nat) (acc : List Ln) (vl : Value) (sk : Sc), k ≤ v2 ∧ i = .int .u64 k ∧ Hid (Rin w g 93 zO (vO v1 vl) sk wr) ∧ Hid (OwnL wr (w.heap.size + 2) vl acc) ∧ acc.length = k ∧ Hid (BytesS sk) ∧ Hid (linesS v2 s2 = (acc ++ (linesS (v2 - k) sk).1, (linesS (v2 - k) sk).2))) (fun i _ => v2 - (intOf i).toNat)
  case atStart => exact ⟨0, [], _, s2, Nat.zero_le _, rfl, K2, Lib.hid (OwnL.nil _ _), rfl, Y3, Lib.hid (by simp)⟩
  case round =>
    obtain ⟨k, acc, vl, sk, hk, rfl, HR, HO, hac, HB, HL⟩ := hrel
    by_cases hlt : k < v2
    · rcases hx : lineS sk with ⟨x, sx⟩
      have hsx : BytesS sx := by have := lineS_bytes HB.out; rwa [hx] at this
      have hsz : x.sku.size ≤ 32 := by have := lineS_sku HB.out; rwa [hx] at this
      have HN := Lib.hid (show linesS v2 s2 = ((acc ++ [x]) ++ (linesS (v2 - (k + 1)) sx).1, (linesS (v2 - (k + 1)) sx).2) by
        rw [HL.out, show v2 - k = (v2 - (k + 1)) + 1 by omega, linesS, hx]; simp)
      have HX := Lib.hid hsx
      have HK1 := Lib.hid (show (acc ++ [x]).length = k + 1 by rw [List.length_append, hac]; rfl)
      have HZ := Lib.hid (show x.sku.size ≤ maxLen by unfold maxLen; omega)
      have C := Lib.hid (fun W hW => show Calls Tryz.prog 161 #[.pointer (some ⟨g, 0, none⟩)] W (ReadS g (lineV x) sx W) by have := readLine_any W g sk hW; rwa [hx] at this)
      clear hx hsx
      unfold lineV at C
      obtain ⟨⟨⟨c0, c1, c2, c3, c4⟩, c5, c6, c7, c8, c9⟩, f⟩ := cellsR10 HR.out.var
      have RW := Lib.hid (HR.out.far hg (Nat.le_refl _) (But.drew _ _))
      have OW := Lib.hid (HO.out.grown (w' := wr.drew) fun _ _ _ => rfl)
      go_wp2_with fail
      go_region_law (first
        | (go_simp; go_at_call 161; refine (C.out _ RW.out.rd).mono ?_; rintro e w3 ⟨rfl, r3, b3⟩; have R3 := Lib.hid (RW.out.call hg r3 b3); have O3 := Lib.hid (OW.out.grown (w' := w3) fun k h1 h2 => b3.block k h2 (by omega)); have y1 : w3.cell? ⟨w.heap.size + 1, 1, none⟩ = some vl := R3.out.var.cell 1; have yz := R3.out.var.lt; clear r3 b3)
        | (refine step_append_lines rfl (.tmp 12) (.tmp 15) rfl (w.heap.size + 2) vl acc [x] (by simp [Act.eval]) (O3.out.below ((Below.refl _ _).alloc (Nat.le_refl _) _)) (some ⟨w3.heap.size, 0, none⟩) 1 (by simp [Act.eval]) (one_line w3 x HZ.out) (by simp; omega) (by have := R3.out.var.lt; simp; omega) ?_; intro v4 w4 o4 g4; obtain ⟨a4, p4, e4⟩ := o4.shape; rw [HK1.out] at e4; subst e4; obtain ⟨q, hq, bq⟩ := But.grown g4 O3.out.row; have R4 := Lib.hid ((R3.out.far hg (Nat.le_refl _) (But.alloc _ _ _)).far hg hq bq); have O4 := Lib.hid o4; have z1 : w4.cell? ⟨w.heap.size + 1, 1, none⟩ = some vl := R4.out.var.cell 1; have zf : w4.frozen? ⟨w.heap.size + 1, 1, none⟩ = false := R4.out.var.free 1; clear o4 g4 bq))
      all_goals
        have R5 := Lib.hid (R4.out.set hg 1 (.slice a4 (k + 1) p4))
        have O5 := Lib.hid (O4.out.cell (k := w.heap.size + 1) (by omega) 1 (.slice a4 (k + 1) p4))
        go_wp2_with fail
        go_roundw
        case rel => exact ⟨k + 1, acc ++ [x], _, sx, by omega, by go_num, R5, O5, HK1.out, HX, HN⟩
        case measure => simp [intOf]; omega
    · have HE := Lib.hid (show linesS v2 s2 = (acc, sk) by rw [HL.out, show v2 - k = 0 by omega, linesS]; simp)
      obtain ⟨av, cv, ev⟩ := HO.out.shape
      subst ev
      subst hac
      have hb := HB.out
      rcases h4 : groupS sk with ⟨⟨t1, t2, t3⟩, s4⟩
      have C4 := Lib.hid (fun W hW => show Calls Tryz.prog 162 #[.pointer (some ⟨g, 0, none⟩)] W (ReadS g (.agg #[.string (strB t1), .string (strB t2), .string (strB t3)]) s4 W) by have := readGroup_any W g sk hW; rwa [h4] at this)
      have y4 : BytesS s4 := by have := (textS_bytes (textS_bytes (textS_bytes hb 32).1 32).1 32).1; rw [show s4 = (groupS sk).2 by rw [h4]]; exact this
      rcases h5 : numS 1000000000000 s4 with ⟨v5, s5⟩
      have C5 := Lib.hid (fun W hW => show Calls Tryz.prog 89 #[.pointer (some ⟨g, 0, none⟩), .int .u64 1000000000000] W (ReadS g (.int .u64 (v5 : Int)) s5 W) by have := rd_num W g s4 1000000000000 hW (by decide); rwa [h5] at this)
      have y5 : BytesS s5 := by have := numS_bytes y4 1000000000000; rwa [h5] at this
      have n5 : v5 ≤ 1000000000000 := by have := numS_le 1000000000000 s4 y4; rwa [h5] at this
      have e5 : IntKind.i64.wrap (v5 : Int) = (v5 : Int) := by rw [IntKind.wrap_i64]; omega
      rcases h6 : sagaS s5 with ⟨⟨p, q, r⟩, s6⟩
      have C6 := Lib.hid (fun W hW => show Calls Tryz.prog 163 #[.pointer (some ⟨g, 0, none⟩)] W (ReadS g (.agg #[.int .i64 (p : Int), .bool (decide (q = 1)), .int .i64 (r : Int)]) s6 W) by have := readSaga_any W g s5 hW; rwa [h6] at this)
      have y6 : BytesS s6 := by have := numS_bytes (numS_bytes (numS_bytes y5 12) 1) 1000000; rw [show s6 = (sagaS s5).2 by rw [h6]]; exact this
      rcases h7 : numS 1000000000000 s6 with ⟨v7, s7⟩
      have C7 := Lib.hid (fun W hW => show Calls Tryz.prog 89 #[.pointer (some ⟨g, 0, none⟩), .int .u64 1000000000000] W (ReadS g (.int .u64 (v7 : Int)) s7 W) by have := rd_num W g s6 1000000000000 hW (by decide); rwa [h7] at this)
      have n7 : v7 ≤ 1000000000000 := by have := numS_le 1000000000000 s6 y6; rwa [h7] at this
      have e7 : IntKind.i64.wrap (v7 : Int) = (v7 : Int) := by rw [IntKind.wrap_i64]; omega
      have HP := Lib.hid (takeS_of H1.out H2.out HE.out h4 h5 h6 h7)
      clear h4 h5 h6 h7 y4 y5 y6 n5 n7 hb HL HE
      unfold vO at HR
      go_wp2_with fail
      refine (C4.out _ HR.out.rd).mono ?_
      rintro e w4 ⟨rfl, r4, b4⟩
      have J4 := Lib.hid (HR.out.call hg r4 b4)
      have P4 := Lib.hid (HO.out.grown (w' := w4) fun k h1 h2 => b4.block k h2 (by omega))
      obtain ⟨⟨⟨c0, c1, c2, c3, c4⟩, c5, c6, c7, c8, c9⟩, f⟩ := cellsR10 J4.out.var
      clear r4 b4 HR HO
      have K4 := Lib.hid (((J4.out.set hg 2 (.string (strB t1))).set hg 3 (.string (strB t2))).set hg 4 (.string (strB t3)))
      have Q4 := Lib.hid (((P4.out.cell (k := w.heap.size + 1) (by omega) 2 (.string (strB t1))).cell (k := w.heap.size + 1) (by omega) 3 (.string (strB t2))).cell (k := w.heap.size + 1) (by omega) 4 (.string (strB t3)))
      clear J4 P4
      go_wp2_with fail
      clear c0 c1 c2 c3 c4 c5 c6 c7 c8 c9 f
      generalize ((w4.setCell ⟨w.heap.size + 1, 2, none⟩ (.string (strB t1))).setCell ⟨w.heap.size + 1, 3, none⟩ (.string (strB t2))).setCell ⟨w.heap.size + 1, 4, none⟩ (.string (strB t3)) = W4 at *
      refine (C5.out _ K4.out.rd).mono ?_
      rintro e w5 ⟨rfl, r5, b5⟩
      have J5 := Lib.hid (K4.out.call hg r5 b5)
      have P5 := Lib.hid (Q4.out.grown (w' := w5) fun k h1 h2 => b5.block k h2 (by omega))
      obtain ⟨⟨⟨c0, c1, c2, c3, c4⟩, c5, c6, c7, c8, c9⟩, f⟩ := cellsR10 J5.out.var
      clear r5 b5 K4 Q4
      have K5 := Lib.hid (J5.out.set hg 5 (.int .i64 (v5 : Int)))
      have Q5 := Lib.hid (P5.out.cell (k := w.heap.size + 1) (by omega) 5 (.int .i64 (v5 : Int)))
      clear J5 P5
      go_wp2_with fail
      clear c0 c1 c2 c3 c4 c5 c6 c7 c8 c9 f
      generalize w5.setCell ⟨w.heap.size + 1, 5, none⟩ (.int .i64 (v5 : Int)) = W5 at *
      refine (C6.out _ K5.out.rd).mono ?_
      rintro e w6 ⟨rfl, r6, b6⟩
      have J6 := Lib.hid (K5.out.call hg r6 b6)
      have P6 := Lib.hid (Q5.out.grown (w' := w6) fun k h1 h2 => b6.block k h2 (by omega))
      obtain ⟨⟨⟨c0, c1, c2, c3, c4⟩, c5, c6, c7, c8, c9⟩, f⟩ := cellsR10 J6.out.var
      clear r6 b6 K5 Q5
      have K6 := Lib.hid (((J6.out.set hg 6 (.int .i64 (p : Int))).set hg 7 (.bool (decide (q = 1)))).set hg 8 (.int .i64 (r : Int)))
      have Q6 := Lib.hid (((P6.out.cell (k := w.heap.size + 1) (by omega) 6 (.int .i64 (p : Int))).cell (k := w.heap.size + 1) (by omega) 7 (.bool (decide (q = 1)))).cell (k := w.heap.size + 1) (by omega) 8 (.int .i64 (r : Int)))
      clear J6 P6
      go_wp2_with fail
      clear c0 c1 c2 c3 c4 c5 c6 c7 c8 c9 f
      generalize ((w6.setCell ⟨w.heap.size + 1, 6, none⟩ (.int .i64 (p : Int))).setCell ⟨w.heap.size + 1, 7, none⟩ (.bool (decide (q = 1)))).setCell ⟨w.heap.size + 1, 8, none⟩ (.int .i64 (r : Int)) = W6 at *
      refine (C7.out _ K6.out.rd).mono ?_
      rintro e w7 ⟨rfl, r7, b7⟩
      have J7 := Lib.hid (K6.out.call hg r7 b7)
      have P7 := Lib.hid (Q6.out.grown (w' := w7) fun k h1 h2 => b7.block k h2 (by omega))
      obtain ⟨⟨⟨c0, c1, c2, c3, c4⟩, c5, c6, c7, c8, c9⟩, f⟩ := cellsR10 J7.out.var
      clear r7 b7 K6 Q6
      have K7 := Lib.hid (J7.out.set hg 9 (.int .i64 (v7 : Int)))
      have Q7 := Lib.hid (P7.out.cell (k := w.heap.size + 1) (by omega) 9 (.int .i64 (v7 : Int)))
      clear J7 P7
      go_wp2_with (refine wpList_store_order rfl _ _ rfl w.heap.size (strB v1) (strB t1) (strB t2) (strB t3) av acc.length cv (v5 : Int) (p : Int) (r : Int) (v7 : Int) (decide (q = 1)) rfl rfl K7.out.res ?_)
      (try simp only [Exit.inBlock, Exit.then])
      have F := Lib.hid (K7.out.fin hg #[.string (strB v1), .slice av acc.length cv, .string (strB t1), .string (strB t2), .string (strB t3), .int .i64 (v5 : Int), .int .i64 (p : Int), .bool (decide (q = 1)), .int .i64 (r : Int), .int .i64 (v7 : Int)])
      apply bodyPost_ret
      case hd => rfl
      case hr => exact results_cell_row rfl _ _ w.heap.size 93 _ (0, 0) _ rfl (setRow_heap _ _ _ _ _ _ K7.out.res) Tryz.underlying93 rfl (sizeO10 _ _ _ _ _ _ _ _ _ _)
      case hR =>
        rw [HP.out]
        exact ⟨av, cv, rfl, ((Q7.out.grown (w' := _) fun k h1 h2 => setRow_other _ _ k _ (by omega)).base (by omega)), F.out.1, F.out.2⟩
end

/- OrTake2: What Take of package order answers. -/
section
open Go.RowKit Go.ChangeShapes Go.WideShapes Go.ChangeAt

/-- No order. -/
def noO : Od := ⟨⟨#[]⟩, [], ⟨#[]⟩, ⟨#[]⟩, ⟨#[]⟩, 0, 0, false, 0, 0⟩
def takeO (s : Sc) : Od := (takeV s).getD noO
def takeE (s : Sc) : Int := if (takeV s).isSome then 0 else 101
theorem takeO_ok {s : Sc} (h1 : (takeS s).2.isNone = false) (h2 : rightO (takeS s).1 = true) : takeO s = (takeS s).1 ∧ takeE s = 0 := by
  have : (takeS s).2.isSome = true := by
    cases e : (takeS s).2 with
    | none => rw [e] at h1; cases h1
    | some _ => rfl
  unfold takeO takeE takeV
  rw [this, h2]
  exact ⟨rfl, rfl⟩
theorem takeO_no {s : Sc} (h : (takeS s).2.isNone = true ∨ rightO (takeS s).1 = false) : takeO s = noO ∧ takeE s = 101 := by
  have : ((takeS s).2.isSome && rightO (takeS s).1) = false := by
    rcases h with h | h
    · cases e : (takeS s).2 with
      | none => rfl
      | some _ => rw [e] at h; cases h
    · rw [h, Bool.and_false]
  unfold takeO takeE takeV
  rw [this]
  exact ⟨rfl, rfl⟩

theorem takeS_fits {s : Sc} (h : BytesS s) : (∀ x ∈ (takeS s).1.ls, x.sku.size ≤ 32) ∧ (takeS s).1.ls.length ≤ 8 ∧ (takeS s).1.id.size ≤ 32 ∧ (takeS s).1.car.size ≤ 32 ∧ (takeS s).1.zone.size ≤ 32 ∧ (takeS s).1.serv.size ≤ 32 := by
  unfold takeS
  simp only [strB_size]
  have b1 := (textS_bytes h 32).1
  have b2 := numS_bytes b1 8
  have b3 := linesS_bytes (numS 8 (textS 32 s).2).1 b2
  have b4 := (textS_bytes b3 32).1
  have b5 := (textS_bytes b4 32).1
  exact ⟨linesS_skus _ b2, by rw [linesS_len]; exact numS_le 8 _ b1, textS_le 32 h, textS_le 32 b3, textS_le 32 b4, textS_le 32 b5⟩

/-- The order that stands next, or none, and the error's number are answered; the Reader is further on. -/
def TakeO (g : Nat) (s : Sc) (w : World) (e : Ending) (w' : World) : Prop :=
  ∃ a cap, e = .returned (.tuple #[odV a cap (takeO s), .int .i64 (takeE s)]) ∧ OwnL w' w.heap.size (.slice a (takeO s).ls.length cap) (takeO s).ls ∧ RdS w' g (takeS s).2 ∧ But g w w'

theorem odP_own {w : World} {base : Nat} {a : Option Addr} {cap : Nat} {o : Od} (h : OwnL w base (.slice a o.ls.length cap) o.ls) (hf : (∀ x ∈ o.ls, x.sku.size ≤ 32) ∧ o.ls.length ≤ 8 ∧ o.id.size ≤ 32 ∧ o.car.size ≤ 32 ∧ o.zone.size ≤ 32 ∧ o.serv.size ≤ 32) : OdP w a cap o := by
  obtain ⟨f1, f2, f3, f4, f5, f6⟩ := hf
  obtain ⟨a', c', e, h1⟩ := h.lns (fun x hx => by unfold maxLen; have := f1 x hx; omega)
  injection e with e1 e2 e3
  subst e1 e3
  exact ⟨h1, by unfold maxLen; omega, by unfold maxLen; omega, by unfold maxLen; omega, by unfold maxLen; omega, by unfold maxLen; omega⟩

theorem loadO10 {w : World} {g : Nat} {x0 x1 x2 x3 x4 x5 x6 x7 x8 x9 : Value} (hg : Row w g 93 #[x0, x1, x2, x3, x4, x5, x6, x7, x8, x9]) : (loadVar 93 ⟨g, 0, none⟩).run Tryz.prog w = .ok (.agg #[x0, x1, x2, x3, x4, x5, x6, x7, x8, x9]) w :=
  run_loadVar_row w g 93 93 _ (0, 0) _ hg Tryz.underlying93 rfl (sizeO10 _ _ _ _ _ _ _ _ _ _)

/-- Behind the store of the result. -/
theorem take_end {w w1 : World} {g : Nat} {t : Sc} {base : Nat} {v : Value} {l : List Ln} (hg : g < w.heap.size) (hS : RdS w1 g t) (hG : But g w w1) (hO : OwnL w1 base v l) (hb : w.heap.size < base) (cs : Array Value) :
    OwnL (w1.setRow w.heap.size cs) w.heap.size v l ∧ RdS (w1.setRow w.heap.size cs) g t ∧ But g w (w1.setRow w.heap.size cs) :=
  ⟨(hO.grown fun k h1 h2 => setRow_other _ _ k _ (by omega)).base (by omega), hS.other hg ((But.refl _ _).setRow cs), hG.new (Nat.le_refl _) ((But.refl _ _).setRow cs)⟩

set_option maxRecDepth 100000 in
set_option maxHeartbeats 4000000 in
theorem take_any (w : World) (g : Nat) (s : Sc) (h : RdS w g s) : Calls Tryz.prog 94 #[.pointer (some ⟨g, 0, none⟩)] w (TakeO g s w) := by
  have hg := h.lt
  have hb := h.bytes
  have F := Lib.hid (takeS_fits hb)
  have B0 : Below w.heap.size w (w.alloc (.cells zO 93)) := (Below.refl _ _).alloc (Nat.le_refl _) _
  have C := Lib.hid (read_any (w.alloc (.cells zO 93)) g s (h.below B0))
  have R0 : Hid (Row (w.alloc (.cells zO 93)) w.heap.size 93 zO) := Lib.hid (heap_alloc_new _ _)
  have G0 := Lib.hid (But.of (g := g) B0)
  have hz : (w.alloc (.cells zO 93)).heap.size = w.heap.size + 1 := by simp
  have OK := Lib.hid (takeO_ok (s := s))
  have NO := Lib.hid (takeO_no (s := s))
  clear h hb B0
  unfold zO at C
  unfold ReadO at C
  go_enter Tryz.func94, Tryz.ntmps94
  go_wp2_with fail
  refine C.out.mono ?_
  rintro e w1 ⟨a, cap, rfl, o1, r1, b1⟩
  rw [show (w.alloc (.cells #[.string ⟨#[]⟩, .slice none 0 0, .string ⟨#[]⟩, .string ⟨#[]⟩, .string ⟨#[]⟩, .int .i64 0, .int .i64 0, .bool false, .int .i64 0, .int .i64 0] 93)).heap.size = w.heap.size + 1 from hz] at o1
  have R1 := Lib.hid (R0.out.but b1 (by omega))
  have G1 := Lib.hid (G0.out.trans b1)
  have O1 := Lib.hid o1
  have S1 := Lib.hid r1
  clear o1 r1 b1 hz R0 G0 C
  generalize (takeS s).1 = o at *
  generalize ht : (takeS s).2 = t at *
  have HT := Lib.hid ht
  clear ht
  unfold odV
  go_wp2_with fail
  have B := Lib.hid ((Below.refl w1.heap.size w1).alloc (Nat.le_refl _) (.cells #[Value.string o.id, Value.slice a o.ls.length cap, Value.string o.car, Value.string o.zone, Value.string o.serv, Value.int IntKind.i64 o.total, Value.int IntKind.i64 o.phase, Value.bool o.given, Value.int IntKind.i64 o.ref, Value.int IntKind.i64 o.batch] 93))
  have D2 : Hid (OdB (w1.alloc (.cells #[Value.string o.id, Value.slice a o.ls.length cap, Value.string o.car, Value.string o.zone, Value.string o.serv, Value.int IntKind.i64 o.total, Value.int IntKind.i64 o.phase, Value.bool o.given, Value.int IntKind.i64 o.ref, Value.int IntKind.i64 o.batch] 93)) w1.heap.size a cap o) := Lib.hid (OdB.new w1 a cap o)
  have R2 := Lib.hid (R1.out.below B.out)
  have O2 := Lib.hid (O1.out.below B.out)
  have S2 := Lib.hid (S1.out.below B.out)
  have G2 := Lib.hid (G1.out.trans (But.of B.out))
  generalize w1.alloc (Obj.cells #[Value.string o.id, Value.slice a o.ls.length cap, Value.string o.car, Value.string o.zone, Value.string o.serv, Value.int IntKind.i64 o.total, Value.int IntKind.i64 o.phase, Value.bool o.given, Value.int IntKind.i64 o.ref, Value.int IntKind.i64 o.batch] 93) = W at *
  have P2 := Lib.hid (odP_own O2.out F.out)
  clear R1 O1 S1 G1 B
  refine (rd_bad_any W g t S2.out).mono ?_
  rintro e w' ⟨rfl, rfl⟩
  cases hbad : t.isNone with
  | true =>
    have HE := Lib.hid (NO.out (.inl hbad))
    go_wp2_with (refine wpList_store_order rfl _ _ rfl w.heap.size ⟨#[]⟩ ⟨#[]⟩ ⟨#[]⟩ ⟨#[]⟩ none 0 0 0 0 0 0 false rfl rfl R2.out ?_)
    (try simp only [Exit.inBlock, Exit.then])
    apply bodyPost_ret
    case hd => rfl
    case hr => exact results_cell_one rfl _ _ w.heap.size _ rfl (loadO10 (setRow_heap _ _ _ _ _ _ R2.out))
    case hR =>
      obtain ⟨e1, e2, e3⟩ := take_end hg S2.out G2.out (OwnL.nil _ (w.heap.size + 1)) (by omega) #[.string ⟨#[]⟩, .slice none 0 0, .string ⟨#[]⟩, .string ⟨#[]⟩, .string ⟨#[]⟩, .int .i64 0, .int .i64 0, .bool false, .int .i64 0, .int .i64 0]
      exact ⟨none, 0, by rw [HE.out.1, HE.out.2]; rfl, by rw [HE.out.1]; exact e1, by rw [HT.out]; exact e2, e3⟩

  | false =>
    obtain ⟨⟨c0, c1, c2, c3, c4⟩, c5, c6, c7, c8, c9⟩ := OdB.cells (o := o) D2.out
    have CR := Lib.hid (oRight_any a cap o W P2.out)
    unfold odV at CR
    go_wp2_with fail
    refine CR.out.mono ?_
    rintro e w3 ⟨rfl, b3⟩
    have D3 := Lib.hid (D2.out.below b3)
    have R3 := Lib.hid (R2.out.below b3)
    have O3 := Lib.hid (O2.out.below b3)
    have S3 := Lib.hid (S2.out.below b3)
    have G3 := Lib.hid (G2.out.trans (But.of b3))
    clear c0 c1 c2 c3 c4 c5 c6 c7 c8 c9 b3 D2 R2 O2 S2 G2 P2 CR
    cases hr : rightO o with
    | false =>
      have HE := Lib.hid (NO.out (.inr hr))
      go_wp2_with (refine wpList_store_order rfl _ _ rfl w.heap.size ⟨#[]⟩ ⟨#[]⟩ ⟨#[]⟩ ⟨#[]⟩ none 0 0 0 0 0 0 false rfl rfl R3.out ?_)
      (try simp only [Exit.inBlock, Exit.then])
      apply bodyPost_ret
      case hd => rfl
      case hr => exact results_cell_one rfl _ _ w.heap.size _ rfl (loadO10 (setRow_heap _ _ _ _ _ _ R3.out))
      case hR =>
        obtain ⟨e1, e2, e3⟩ := take_end hg S3.out G3.out (OwnL.nil _ (w.heap.size + 1)) (by omega) #[.string ⟨#[]⟩, .slice none 0 0, .string ⟨#[]⟩, .string ⟨#[]⟩, .string ⟨#[]⟩, .int .i64 0, .int .i64 0, .bool false, .int .i64 0, .int .i64 0]
        exact ⟨none, 0, by rw [HE.out.1, HE.out.2]; rfl, by rw [HE.out.1]; exact e1, by rw [HT.out]; exact e2, e3⟩

    | true =>
      have HE := Lib.hid (OK.out hbad hr)
      obtain ⟨⟨c0, c1, c2, c3, c4⟩, c5, c6, c7, c8, c9⟩ := OdB.cells (o := o) D3.out
      go_wp2_with (refine wpList_store_order rfl _ _ rfl w.heap.size o.id o.car o.zone o.serv a o.ls.length cap o.total o.phase o.ref o.batch o.given rfl rfl R3.out ?_)
      (try simp only [Exit.inBlock, Exit.then])
      apply bodyPost_ret
      case hd => rfl
      case hr => exact results_cell_one rfl _ _ w.heap.size _ rfl (loadO10 (setRow_heap _ _ _ _ _ _ R3.out))
      case hR =>
        obtain ⟨e1, e2, e3⟩ := take_end hg S3.out G3.out O3.out (by omega) #[Value.string o.id, Value.slice a o.ls.length cap, Value.string o.car, Value.string o.zone, Value.string o.serv, Value.int IntKind.i64 o.total, Value.int IntKind.i64 o.phase, Value.bool o.given, Value.int IntKind.i64 o.ref, Value.int IntKind.i64 o.batch]
        exact ⟨a, cap, by rw [HE.out.1, HE.out.2]; rfl, by rw [HE.out.1]; exact e1, by rw [HT.out]; exact e2, e3⟩
end

end Go.Proofs.YtfmpibmhhfmajaaGreatDoor
