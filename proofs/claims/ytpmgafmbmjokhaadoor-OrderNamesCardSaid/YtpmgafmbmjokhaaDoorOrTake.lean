/- What read and Take of package order answer. -/
import Derived.Test.YtpmgafmbmjokhaaDoorOrRead
import Derived.Test.YtpmgafmbmjokhaaDoorOrRight
import Derived.Test.YtpmgafmbmjokhaaDoorLnOwn
namespace Go.Proofs.YtpmgafmbmjokhaaDoor
open Go.RowKit Go.ChangeShapes Go.WideShapes Go.ChangeAt

/-- An order is answered, whose lines are the call's own; the Reader is further on. -/
def ReadO (g : Nat) (o : Od) (s : Sc) (w : World) (e : Ending) (w' : World) : Prop :=
  ∃ a cap, e = .returned (odV a cap o) ∧ OwnL w' w.heap.size (.slice a o.ls.length cap) o.ls ∧ RdS w' g s ∧ But g w w'

abbrev zO : Array Value := #[.string ⟨#[]⟩, .slice none 0 0, .string ⟨#[]⟩, .string ⟨#[]⟩, .string ⟨#[]⟩, .int .i64 0, .int .i64 0, .bool false, .int .i64 0, .int .i64 0]
/-- An order's variable while its lines are read. -/
def vO (i : List Nat) (v : Value) : Array Value := #[.string (strB i), v, .string ⟨#[]⟩, .string ⟨#[]⟩, .string ⟨#[]⟩, .int .i64 0, .int .i64 0, .bool false, .int .i64 0, .int .i64 0]

theorem textS_le (m : Nat) {s : Sc} (h : BytesS s) : (textS m s).1.length ≤ m := by
  have hn := numS_le m s h
  rw [textS_eq]
  cases (numS m s).2 with
  | none => simp
  | some r =>
    simp only
    split
    · simp
    · rw [List.length_take]; omega
theorem lineS_sku {s : Sc} (h : BytesS s) : (lineS s).1.sku.size ≤ 32 := by
  have := textS_le 32 h
  unfold lineS
  simp only [strB_size]
  exact this
theorem linesS_skus : ∀ (n : Nat) {s : Sc} (_ : BytesS s), ∀ x ∈ (linesS n s).1, x.sku.size ≤ 32
  | 0, _, _, x, hx => by simp [linesS] at hx
  | n + 1, s, h, x, hx => by
    rw [linesS] at hx
    rcases List.mem_cons.1 hx with rfl | hx
    · exact lineS_sku h
    · exact linesS_skus n (lineS_bytes h) x hx

theorem one_line (W : World) (x : Ln) (h : x.sku.size ≤ maxLen) : LnsP (W.alloc (.cells #[.string x.sku, .int .i64 x.qty, .int .i64 x.wt] 49)) (some ⟨W.heap.size, 0, none⟩) 1 [x] :=
  lns_block W [x] (by intro y hy; simp at hy; subst hy; exact h) (by unfold maxLen; simp)

theorem cellsR10 {w : World} {g : Nat} {T : TypeId} {a0 a1 a2 a3 a4 a5 a6 a7 a8 a9 : Value} (h : Row w g T #[a0, a1, a2, a3, a4, a5, a6, a7, a8, a9]) :
    ((w.cell? ⟨g, 0, none⟩ = some a0 ∧ w.cell? ⟨g, 1, none⟩ = some a1 ∧ w.cell? ⟨g, 2, none⟩ = some a2 ∧ w.cell? ⟨g, 3, none⟩ = some a3 ∧ w.cell? ⟨g, 4, none⟩ = some a4) ∧
     w.cell? ⟨g, 5, none⟩ = some a5 ∧ w.cell? ⟨g, 6, none⟩ = some a6 ∧ w.cell? ⟨g, 7, none⟩ = some a7 ∧ w.cell? ⟨g, 8, none⟩ = some a8 ∧ w.cell? ⟨g, 9, none⟩ = some a9) ∧ ∀ o, w.frozen? ⟨g, o, none⟩ = false :=
  ⟨⟨⟨h.cell 0, h.cell 1, h.cell 2, h.cell 3, h.cell 4⟩, h.cell 5, h.cell 6, h.cell 7, h.cell 8, h.cell 9⟩, h.free⟩

theorem takeS_of {s s1 s2 s3 s4 s5 s6 s7 : Sc} {v1 t1 t2 t3 : List Nat} {v2 v5 p q r v7 : Nat} {acc : List Ln} (h1 : textS 32 s = (v1, s1)) (h2 : numS 8 s1 = (v2, s2)) (h3 : linesS v2 s2 = (acc, s3)) (h4 : groupS s3 = ((t1, t2, t3), s4))
    (h5 : numS 1000000000000 s4 = (v5, s5)) (h6 : sagaS s5 = ((p, q, r), s6)) (h7 : numS 1000000000000 s6 = (v7, s7)) :
    takeS s = (⟨strB v1, acc, strB t1, strB t2, strB t3, (v5 : Int), (p : Int), decide (q = 1), (r : Int), (v7 : Int)⟩, s7) := by
  simp only [groupS, Prod.mk.injEq] at h4
  obtain ⟨⟨rfl, rfl, rfl⟩, rfl⟩ := h4
  simp only [sagaS, Prod.mk.injEq] at h6
  obtain ⟨⟨rfl, rfl, rfl⟩, rfl⟩ := h6
  simp only [takeS, h1, h2, h3, h5, h7]

theorem size10 (x0 x1 x2 x3 x4 x5 x6 x7 x8 x9 : Value) : (Tryd.prog.info? 36).map (·.size) = some #[x0, x1, x2, x3, x4, x5, x6, x7, x8, x9].size := by
  show _ = some 10
  kernel_rfl

theorem one10 (a0 a2 a3 a4 : ByteArray) (a : Option Addr) (n c : Nat) (x5 x6 x8 x9 : Int) (b : Bool) : (#[Value.string a0, .slice a n c, .string a2, .string a3, .string a4, .int .i64 x5, .int .i64 x6, .bool b, .int .i64 x8, .int .i64 x9]).all (·.oneCell') = true := by simp [Value.oneCell']

theorem wpList_store_order {ops : Array Oper} {rest : List Oper} {o : Oper} {ac : Act} {w : World} {Q : Exit → Act → World → Prop} (hgd : o.guard = none) (x y : Operand) (ho : o.op = .store 36 x y)
    (g : Nat) (a0 a2 a3 a4 : ByteArray) (a : Option Addr) (n c : Nat) (x5 x6 x8 x9 : Int) (b : Bool) (hx : ac.eval x = .pointer (some ⟨g, 0, none⟩))
    (hy : ac.eval y = .agg #[.string a0, .slice a n c, .string a2, .string a3, .string a4, .int .i64 x5, .int .i64 x6, .bool b, .int .i64 x8, .int .i64 x9]) (hg : Row w g 36 zO)
    (h : wpList Tryd.prog ops Q rest (ac.put o.dst undef) (w.setRow g #[.string a0, .slice a n c, .string a2, .string a3, .string a4, .int .i64 x5, .int .i64 x6, .bool b, .int .i64 x8, .int .i64 x9])) : wpList Tryd.prog ops Q (o :: rest) ac w :=
  wpList_store_row hgd 36 x y ho g _ hx hy 36 zO hg (size10 _ _ _ _ _ _ _ _ _ _) rfl (one10 _ _ _ _ _ _ _ _ _ _ _ _) h

theorem OwnL.cell {w : World} {base k : Nat} {v : Value} {ls : List Ln} (h : OwnL w base v ls) (hk : k < base) (o : Nat) (x : Value) : OwnL (w.setCell ⟨k, o, none⟩ x) base v ls :=
  h.grown fun i h1 h2 => ((But.refl k w).set o x).block i h2 (by omega)

set_option maxRecDepth 100000 in
set_option maxHeartbeats 8000000 in
theorem read_any (w : World) (g : Nat) (s : Sc) (h : RdS w g s) : Calls Tryd.prog 19 #[.pointer (some ⟨g, 0, none⟩)] w (ReadO g (takeS s).1 (takeS s).2 w) := by
  have hg := h.lt
  have K0 := Lib.hid (Rin.begin h 36 zO)
  have y1 := h.bytes
  rcases h1 : textS 32 s with ⟨v1, s1⟩
  have C1 := Lib.hid (fun W hW => show Calls Tryd.prog 30 #[.pointer (some ⟨g, 0, none⟩), .int .i64 32] W (ReadS g (.string (strB v1)) s1 W) by have := rd_text W g s 32 hW (by decide); rwa [h1] at this)
  have y2 : BytesS s1 := by have := (textS_bytes y1 32).1; rwa [h1] at this
  rcases h2 : numS 8 s1 with ⟨v2, s2⟩
  have C2 := Lib.hid (fun W hW => show Calls Tryd.prog 31 #[.pointer (some ⟨g, 0, none⟩), .int .u64 8] W (ReadS g (.int .u64 (v2 : Int)) s2 W) by have := rd_num W g s1 8 hW (by decide); rwa [h2] at this)
  have y3 : BytesS s2 := by have := numS_bytes y2 8; rwa [h2] at this
  have n2 : v2 ≤ 8 := by have := numS_le 8 s1 y2; rwa [h2] at this
  have H1 := Lib.hid h1
  have H2 := Lib.hid h2
  have Y3 := Lib.hid y3
  clear h1 h2 y1 y2 y3
  unfold zO at K0
  go_enter Tryd.func19, Tryd.ntmps19
  go_wp2_with fail
  generalize (w.alloc (Obj.cells #[Value.string ⟨#[]⟩, Value.slice none 0 0, Value.string ⟨#[]⟩, Value.string ⟨#[]⟩, Value.string ⟨#[]⟩, Value.int .i64 0, Value.int .i64 0, Value.bool false, Value.int .i64 0, Value.int .i64 0] 36)).alloc (Obj.cells #[Value.string ⟨#[]⟩, Value.slice none 0 0, Value.string ⟨#[]⟩, Value.string ⟨#[]⟩, Value.string ⟨#[]⟩, Value.int .i64 0, Value.int .i64 0, Value.bool false, Value.int .i64 0, Value.int .i64 0] 36) = W0 at *
  refine (C1.out _ K0.out.rd).mono ?_
  rintro e w1 ⟨rfl, r1, b1⟩
  have J1 := Lib.hid (K0.out.call hg r1 b1)
  obtain ⟨⟨⟨c0, c1, c2, c3, c4⟩, c5, c6, c7, c8, c9⟩, f⟩ := cellsR10 J1.out.var
  clear r1 b1
  have K1 := Lib.hid (J1.out.set hg 0 (.string (strB v1)))
  go_wp2_with fail
  clear c0 c1 c2 c3 c4 c5 c6 c7 c8 c9 f
  generalize w1.setCell ⟨w.heap.size + 1, 0, none⟩ (.string (strB v1)) = W1 at *
  refine (C2.out _ K1.out.rd).mono ?_
  rintro e w2 ⟨rfl, r2, b2⟩
  have K2 : Hid (Rin w g 36 zO (vO v1 (.slice none 0 0)) s2 w2) := Lib.hid (K1.out.call hg r2 b2)
  clear r2 b2 K0 J1 K1 C1 C2
  go_wp2_with fail
  go_loopw [9] (fun i wr => ∃ (k : Nat) (acc : List Ln) (vl : Value) (sk : Sc), k ≤ v2 ∧ i = .int .u64 k ∧ Hid (Rin w g 36 zO (vO v1 vl) sk wr) ∧ Hid (OwnL wr (w.heap.size + 2) vl acc) ∧ acc.length = k ∧ Hid (BytesS sk) ∧ Hid (linesS v2 s2 = (acc ++ (linesS (v2 - k) sk).1, (linesS (v2 - k) sk).2))) (fun i _ => v2 - (intOf i).toNat)
  case atStart => exact ⟨0, [], _, s2, Nat.zero_le _, rfl, K2, Lib.hid (OwnL.nil _ _), rfl, Y3, Lib.hid (by simp)⟩
  case round =>
    obtain ⟨k, acc, vl, sk, hk, rfl, HR, HO, hac, HB, HL⟩ := hrel
    by_cases hlt : k < v2
    · rcases hx : lineS sk with ⟨x, sx⟩
      have hsx : BytesS sx := by have := lineS_bytes HB.out; rwa [hx] at this
      have hsz : x.sku.size ≤ 32 := by have := lineS_sku HB.out; rwa [hx] at this
      have HN := Lib.hid (show linesS v2 s2 = ((acc ++ [x]) ++ (linesS (v2 - (k + 1)) sx).1, (linesS (v2 - (k + 1)) sx).2) by
        rw [HL.out, show v2 - k = (v2 - (k + 1)) + 1 by omega, linesS, hx]; simp)
      have HX := Lib.hid hsx
      have HK1 := Lib.hid (show (acc ++ [x]).length = k + 1 by rw [List.length_append, hac]; rfl)
      have HZ := Lib.hid (show x.sku.size ≤ maxLen by unfold maxLen; omega)
      have C := Lib.hid (fun W hW => show Calls Tryd.prog 32 #[.pointer (some ⟨g, 0, none⟩)] W (ReadS g (lineV x) sx W) by have := readLine_any W g sk hW; rwa [hx] at this)
      clear hx hsx
      unfold lineV at C
      obtain ⟨⟨⟨c0, c1, c2, c3, c4⟩, c5, c6, c7, c8, c9⟩, f⟩ := cellsR10 HR.out.var
      have RW := Lib.hid (HR.out.far hg (Nat.le_refl _) (But.drew _ _))
      have OW := Lib.hid (HO.out.grown (w' := wr.drew) fun _ _ _ => rfl)
      go_wp2_with fail
      go_region_law (first
        | (go_simp; go_at_call 32; refine (C.out _ RW.out.rd).mono ?_; rintro e w3 ⟨rfl, r3, b3⟩; have R3 := Lib.hid (RW.out.call hg r3 b3); have O3 := Lib.hid (OW.out.grown (w' := w3) fun k h1 h2 => b3.block k h2 (by omega)); have y1 : w3.cell? ⟨w.heap.size + 1, 1, none⟩ = some vl := R3.out.var.cell 1; have yz := R3.out.var.lt; clear r3 b3)
        | (refine step_append_lines rfl (.tmp 12) (.tmp 15) rfl (w.heap.size + 2) vl acc [x] (by simp [Act.eval]) (O3.out.below ((Below.refl _ _).alloc (Nat.le_refl _) _)) (some ⟨w3.heap.size, 0, none⟩) 1 (by simp [Act.eval]) (one_line w3 x HZ.out) (by simp; omega) (by have := R3.out.var.lt; simp; omega) ?_; intro v4 w4 o4 g4; obtain ⟨a4, p4, e4⟩ := o4.shape; rw [HK1.out] at e4; subst e4; obtain ⟨q, hq, bq⟩ := But.grown g4 O3.out.row; have R4 := Lib.hid ((R3.out.far hg (Nat.le_refl _) (But.alloc _ _ _)).far hg hq bq); have O4 := Lib.hid o4; have z1 : w4.cell? ⟨w.heap.size + 1, 1, none⟩ = some vl := R4.out.var.cell 1; have zf : w4.frozen? ⟨w.heap.size + 1, 1, none⟩ = false := R4.out.var.free 1; clear o4 g4 bq))
      all_goals
        have R5 := Lib.hid (R4.out.set hg 1 (.slice a4 (k + 1) p4))
        have O5 := Lib.hid (O4.out.cell (k := w.heap.size + 1) (by omega) 1 (.slice a4 (k + 1) p4))
        go_wp2_with fail
        go_roundw
        case rel => exact ⟨k + 1, acc ++ [x], _, sx, by omega, by go_num, R5, O5, HK1.out, HX, HN⟩
        case measure => simp [intOf]; omega
    · have HE := Lib.hid (show linesS v2 s2 = (acc, sk) by rw [HL.out, show v2 - k = 0 by omega, linesS]; simp)
      obtain ⟨av, cv, ev⟩ := HO.out.shape
      subst ev
      subst hac
      have hb := HB.out
      rcases h4 : groupS sk with ⟨⟨t1, t2, t3⟩, s4⟩
      have C4 := Lib.hid (fun W hW => show Calls Tryd.prog 33 #[.pointer (some ⟨g, 0, none⟩)] W (ReadS g (.agg #[.string (strB t1), .string (strB t2), .string (strB t3)]) s4 W) by have := readGroup_any W g sk hW; rwa [h4] at this)
      have y4 : BytesS s4 := by have := (textS_bytes (textS_bytes (textS_bytes hb 32).1 32).1 32).1; rw [show s4 = (groupS sk).2 by rw [h4]]; exact this
      rcases h5 : numS 1000000000000 s4 with ⟨v5, s5⟩
      have C5 := Lib.hid (fun W hW => show Calls Tryd.prog 31 #[.pointer (some ⟨g, 0, none⟩), .int .u64 1000000000000] W (ReadS g (.int .u64 (v5 : Int)) s5 W) by have := rd_num W g s4 1000000000000 hW (by decide); rwa [h5] at this)
      have y5 : BytesS s5 := by have := numS_bytes y4 1000000000000; rwa [h5] at this
      have n5 : v5 ≤ 1000000000000 := by have := numS_le 1000000000000 s4 y4; rwa [h5] at this
      have e5 : IntKind.i64.wrap (v5 : Int) = (v5 : Int) := by rw [IntKind.wrap_i64]; omega
      rcases h6 : sagaS s5 with ⟨⟨p, q, r⟩, s6⟩
      have C6 := Lib.hid (fun W hW => show Calls Tryd.prog 34 #[.pointer (some ⟨g, 0, none⟩)] W (ReadS g (.agg #[.int .i64 (p : Int), .bool (decide (q = 1)), .int .i64 (r : Int)]) s6 W) by have := readSaga_any W g s5 hW; rwa [h6] at this)
      have y6 : BytesS s6 := by have := numS_bytes (numS_bytes (numS_bytes y5 12) 1) 1000000; rw [show s6 = (sagaS s5).2 by rw [h6]]; exact this
      rcases h7 : numS 1000000000000 s6 with ⟨v7, s7⟩
      have C7 := Lib.hid (fun W hW => show Calls Tryd.prog 31 #[.pointer (some ⟨g, 0, none⟩), .int .u64 1000000000000] W (ReadS g (.int .u64 (v7 : Int)) s7 W) by have := rd_num W g s6 1000000000000 hW (by decide); rwa [h7] at this)
      have n7 : v7 ≤ 1000000000000 := by have := numS_le 1000000000000 s6 y6; rwa [h7] at this
      have e7 : IntKind.i64.wrap (v7 : Int) = (v7 : Int) := by rw [IntKind.wrap_i64]; omega
      have HP := Lib.hid (takeS_of H1.out H2.out HE.out h4 h5 h6 h7)
      clear h4 h5 h6 h7 y4 y5 y6 n5 n7 hb HL HE
      unfold vO at HR
      go_wp2_with fail
      refine (C4.out _ HR.out.rd).mono ?_
      rintro e w4 ⟨rfl, r4, b4⟩
      have J4 := Lib.hid (HR.out.call hg r4 b4)
      have P4 := Lib.hid (HO.out.grown (w' := w4) fun k h1 h2 => b4.block k h2 (by omega))
      obtain ⟨⟨⟨c0, c1, c2, c3, c4⟩, c5, c6, c7, c8, c9⟩, f⟩ := cellsR10 J4.out.var
      clear r4 b4 HR HO
      have K4 := Lib.hid (((J4.out.set hg 2 (.string (strB t1))).set hg 3 (.string (strB t2))).set hg 4 (.string (strB t3)))
      have Q4 := Lib.hid (((P4.out.cell (k := w.heap.size + 1) (by omega) 2 (.string (strB t1))).cell (k := w.heap.size + 1) (by omega) 3 (.string (strB t2))).cell (k := w.heap.size + 1) (by omega) 4 (.string (strB t3)))
      clear J4 P4
      go_wp2_with fail
      clear c0 c1 c2 c3 c4 c5 c6 c7 c8 c9 f
      generalize ((w4.setCell ⟨w.heap.size + 1, 2, none⟩ (.string (strB t1))).setCell ⟨w.heap.size + 1, 3, none⟩ (.string (strB t2))).setCell ⟨w.heap.size + 1, 4, none⟩ (.string (strB t3)) = W4 at *
      refine (C5.out _ K4.out.rd).mono ?_
      rintro e w5 ⟨rfl, r5, b5⟩
      have J5 := Lib.hid (K4.out.call hg r5 b5)
      have P5 := Lib.hid (Q4.out.grown (w' := w5) fun k h1 h2 => b5.block k h2 (by omega))
      obtain ⟨⟨⟨c0, c1, c2, c3, c4⟩, c5, c6, c7, c8, c9⟩, f⟩ := cellsR10 J5.out.var
      clear r5 b5 K4 Q4
      have K5 := Lib.hid (J5.out.set hg 5 (.int .i64 (v5 : Int)))
      have Q5 := Lib.hid (P5.out.cell (k := w.heap.size + 1) (by omega) 5 (.int .i64 (v5 : Int)))
      clear J5 P5
      go_wp2_with fail
      clear c0 c1 c2 c3 c4 c5 c6 c7 c8 c9 f
      generalize w5.setCell ⟨w.heap.size + 1, 5, none⟩ (.int .i64 (v5 : Int)) = W5 at *
      refine (C6.out _ K5.out.rd).mono ?_
      rintro e w6 ⟨rfl, r6, b6⟩
      have J6 := Lib.hid (K5.out.call hg r6 b6)
      have P6 := Lib.hid (Q5.out.grown (w' := w6) fun k h1 h2 => b6.block k h2 (by omega))
      obtain ⟨⟨⟨c0, c1, c2, c3, c4⟩, c5, c6, c7, c8, c9⟩, f⟩ := cellsR10 J6.out.var
      clear r6 b6 K5 Q5
      have K6 := Lib.hid (((J6.out.set hg 6 (.int .i64 (p : Int))).set hg 7 (.bool (decide (q = 1)))).set hg 8 (.int .i64 (r : Int)))
      have Q6 := Lib.hid (((P6.out.cell (k := w.heap.size + 1) (by omega) 6 (.int .i64 (p : Int))).cell (k := w.heap.size + 1) (by omega) 7 (.bool (decide (q = 1)))).cell (k := w.heap.size + 1) (by omega) 8 (.int .i64 (r : Int)))
      clear J6 P6
      go_wp2_with fail
      clear c0 c1 c2 c3 c4 c5 c6 c7 c8 c9 f
      generalize ((w6.setCell ⟨w.heap.size + 1, 6, none⟩ (.int .i64 (p : Int))).setCell ⟨w.heap.size + 1, 7, none⟩ (.bool (decide (q = 1)))).setCell ⟨w.heap.size + 1, 8, none⟩ (.int .i64 (r : Int)) = W6 at *
      refine (C7.out _ K6.out.rd).mono ?_
      rintro e w7 ⟨rfl, r7, b7⟩
      have J7 := Lib.hid (K6.out.call hg r7 b7)
      have P7 := Lib.hid (Q6.out.grown (w' := w7) fun k h1 h2 => b7.block k h2 (by omega))
      obtain ⟨⟨⟨c0, c1, c2, c3, c4⟩, c5, c6, c7, c8, c9⟩, f⟩ := cellsR10 J7.out.var
      clear r7 b7 K6 Q6
      have K7 := Lib.hid (J7.out.set hg 9 (.int .i64 (v7 : Int)))
      have Q7 := Lib.hid (P7.out.cell (k := w.heap.size + 1) (by omega) 9 (.int .i64 (v7 : Int)))
      clear J7 P7
      go_wp2_with (refine wpList_store_order rfl _ _ rfl w.heap.size (strB v1) (strB t1) (strB t2) (strB t3) av acc.length cv (v5 : Int) (p : Int) (r : Int) (v7 : Int) (decide (q = 1)) rfl rfl K7.out.res ?_)
      (try simp only [Exit.inBlock, Exit.then])
      have F := Lib.hid (K7.out.fin hg #[.string (strB v1), .slice av acc.length cv, .string (strB t1), .string (strB t2), .string (strB t3), .int .i64 (v5 : Int), .int .i64 (p : Int), .bool (decide (q = 1)), .int .i64 (r : Int), .int .i64 (v7 : Int)])
      apply bodyPost_ret
      case hd => rfl
      case hr => exact results_cell_row rfl _ _ w.heap.size 36 _ (0, 0) _ rfl (setRow_heap _ _ _ _ _ _ K7.out.res) Tryd.underlying36 rfl (size10 _ _ _ _ _ _ _ _ _ _)
      case hR =>
        rw [HP.out]
        exact ⟨av, cv, rfl, ((Q7.out.grown (w' := _) fun k h1 h2 => setRow_other _ _ k _ (by omega)).base (by omega)), F.out.1, F.out.2⟩

end Go.Proofs.YtpmgafmbmjokhaaDoor
