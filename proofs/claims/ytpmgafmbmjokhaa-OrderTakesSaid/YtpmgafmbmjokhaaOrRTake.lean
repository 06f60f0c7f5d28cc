/- What the document's Take of a Scan answers. -/
import Derived.Test.YtpmgafmbmjokhaaOrScan
import Derived.Test.YtpmgafmbmjokhaaOrRight2
namespace Go.Proofs.Ytpmgafmbmjokhaa
open Go.RowKit Go.ChangeShapes Go.WideShapes Go.ChangeAt

/-- A call that reads an order by a Scan: its result's block, then the order's at m. -/
structure Sin (w : World) (g m : Nat) (cs : Array Value) (s : Sc) (w' : World) : Prop where
  rd : SnS w' g s
  but : But g w w'
  res : Row w' w.heap.size 28 zO
  var : Row w' m 28 cs
  hm : w.heap.size < m

theorem Sin.call {w w1 w2 : World} {g m : Nat} {cs : Array Value} {s t : Sc} (h : Sin w g m cs s w1) (hg : g < w.heap.size) (r : SnS w2 g t) (b : But g w1 w2) : Sin w g m cs t w2 :=
  ⟨r, h.but.trans b, h.res.but b (by omega), h.var.but b (by have := h.hm; omega), h.hm⟩
theorem Sin.set {w w1 : World} {g m : Nat} {cs : Array Value} {s : Sc} (h : Sin w g m cs s w1) (hg : g < w.heap.size) (o : Nat) (v : Value) : Sin w g m (cs.setIfInBounds o v) s (w1.setCell ⟨m, o, none⟩ v) :=
  ⟨h.rd.other (k := m) (by have := h.hm; omega) ((But.refl _ _).set o v), h.but.new (k := m) (by have := h.hm; omega) ((But.refl _ _).set o v), h.res.but (g := m) ((But.refl _ _).set o v) (by have := h.hm; omega), h.var.set o v, h.hm⟩
theorem Sin.far {w w1 w2 : World} {g m k : Nat} {cs : Array Value} {s : Sc} (h : Sin w g m cs s w1) (hg : g < w.heap.size) (hk : m < k) (b : But k w1 w2) : Sin w g m cs s w2 := by
  have := h.hm
  exact ⟨h.rd.other (by omega) b, h.but.new (by omega) b, h.res.but b (by omega), h.var.but b (by omega), h.hm⟩

/-- While a line is read: all that the call has made ahead of it stays. -/
structure LnI (w W : World) (g : Nat) (cs : Array Value) (s : Sc) (w' : World) : Prop where
  rd : SnS w' g s
  but : But g w w'
  old : ∀ k, w.heap.size ≤ k → k < W.heap.size → w'.heap[k]? = W.heap[k]?
  line : Row w' W.heap.size 34 cs

theorem LnI.call {w W w1 w2 : World} {g : Nat} {cs : Array Value} {s t : Sc} (h : LnI w W g cs s w1) (hg : g < w.heap.size) (hW : w.heap.size ≤ W.heap.size) (r : SnS w2 g t) (b : But g w1 w2) : LnI w W g cs t w2 :=
  ⟨r, h.but.trans b, fun k h1 h2 => (b.block k (by have := h.line.lt; omega) (by omega)).trans (h.old k h1 h2), h.line.but b (by omega)⟩
theorem LnI.set {w W w1 : World} {g : Nat} {cs : Array Value} {s : Sc} (h : LnI w W g cs s w1) (hg : g < w.heap.size) (hW : w.heap.size ≤ W.heap.size) (o : Nat) (v : Value) : LnI w W g (cs.setIfInBounds o v) s (w1.setCell ⟨W.heap.size, o, none⟩ v) :=
  ⟨h.rd.other (k := W.heap.size) (by omega) ((But.refl _ _).set o v), h.but.new hW ((But.refl _ _).set o v), fun k h1 h2 => (((But.refl W.heap.size w1).set o v).block k (by have := h.line.lt; omega) (by omega)).trans (h.old k h1 h2), h.line.set o v⟩
/-- Behind it. -/
theorem LnI.sin {w W w1 : World} {g m : Nat} {cs ds : Array Value} {s t : Sc} (h : LnI w W g cs s w1) (k : Sin w g m ds t W) : Sin w g m ds s w1 :=
  ⟨h.rd, h.but, (h.old _ (Nat.le_refl _) k.res.lt).trans k.res, (h.old _ (Nat.le_of_lt k.hm) k.var.lt).trans k.var, k.hm⟩
theorem LnI.own {w W w1 : World} {g base : Nat} {cs : Array Value} {s : Sc} {v : Value} {ls : List Ln} (h : LnI w W g cs s w1) (k : OwnL W base v ls) (hb : w.heap.size ≤ base) : OwnL w1 base v ls :=
  k.grown fun i h1 h2 => h.old i (by omega) h2

/-- Behind the store of the result. -/
theorem scan_end {w w1 : World} {g : Nat} {t : Sc} {base : Nat} {v : Value} {l : List Ln} (hg : g < w.heap.size) (hS : SnS w1 g t) (hG : But g w w1) (hO : OwnL w1 base v l) (hb : w.heap.size < base) (cs : Array Value) :
    OwnL (w1.setRow w.heap.size cs) w.heap.size v l ∧ SnS (w1.setRow w.heap.size cs) g t ∧ But g w (w1.setRow w.heap.size cs) :=
  ⟨(hO.grown fun k h1 h2 => setRow_other _ _ k _ (by omega)).base (by omega), hS.other hg ((But.refl _ _).setRow cs), hG.new (Nat.le_refl _) ((But.refl _ _).setRow cs)⟩

/-- An order's variable while its lines are read. -/
def cO (i : List Nat) (v : Value) : Array Value := vO i v

set_option maxRecDepth 100000 in
set_option maxHeartbeats 16000000 in
theorem refTakeO_any (w : World) (g : Nat) (s : Sc) (h : SnS w g s) : Calls Try.prog 19 #[.pointer (some ⟨g, 0, none⟩)] w (fun e w' =>
    ∃ a cap, e = .returned (.tuple #[odV a cap (takeO s), .int .i64 (takeE s)]) ∧ OwnL w' w.heap.size (.slice a (takeO s).ls.length cap) (takeO s).ls ∧ SnS w' g (takeS s).2 ∧ But g w w') := by
  have hg := h.lt
  have y0 := h.bytes
  have F := Lib.hid (takeS_fits y0)
  have OK := Lib.hid (takeO_ok (s := s))
  have NO := Lib.hid (takeO_no (s := s))
  rcases h1 : textS 32 s with ⟨v1, s1⟩
  have C1 := Lib.hid (fun W hW => show Calls Try.prog 42 #[.pointer (some ⟨g, 0, none⟩), .int .u64 32] W (ScanS g (.string (strB v1)) s1 W) by have := scan_text W g s 32 hW (by decide); rwa [h1] at this)
  have y1 : BytesS s1 := by have := (textS_bytes y0 32).1; rwa [h1] at this
  rcases h2 : numS 8 s1 with ⟨v2, s2⟩
  have C2 := Lib.hid (fun W hW => show Calls Try.prog 43 #[.pointer (some ⟨g, 0, none⟩), .int .u64 8] W (ScanS g (.int .i64 (v2 : Int)) s2 W) by have := scan_num W g s1 8 hW (by decide); rwa [h2] at this)
  have y2 : BytesS s2 := by have := numS_bytes y1 8; rwa [h2] at this
  have n2 : v2 ≤ 8 := by have := numS_le 8 s1 y1; rwa [h2] at this
  have H1 := Lib.hid h1
  have H2 := Lib.hid h2
  have Y2 := Lib.hid y2
  have B0 : Below w.heap.size w (w.alloc (.cells zO 28)) := (Below.refl _ _).alloc (Nat.le_refl _) _
  have S0 := Lib.hid (h.below B0)
  have R0 : Hid (Row (w.alloc (.cells zO 28)) w.heap.size 28 zO) := Lib.hid (heap_alloc_new _ _)
  have G0 := Lib.hid (But.of (g := g) B0)
  clear h y0 y1 y2 h1 h2 B0
  unfold zO at S0 R0 G0
  go_enter Try.func19, Try.ntmps19
  go_wp2_with fail
  generalize w.alloc (Obj.cells #[Value.string ⟨#[]⟩, Value.slice none 0 0, Value.string ⟨#[]⟩, Value.string ⟨#[]⟩, Value.string ⟨#[]⟩, Value.int .i64 0, Value.int .i64 0, Value.bool false, Value.int .i64 0, Value.int .i64 0] 28) = W0 at *
  refine (C1.out _ S0.out).mono ?_
  rintro e w1 ⟨rfl, r1, b1⟩
  have hm : w.heap.size < w1.heap.size := Nat.lt_of_lt_of_le R0.out.lt b1.size
  have K1 : Hid (Sin w g w1.heap.size (vO v1 (.slice none 0 0)) s1 (w1.alloc (.cells (vO v1 (.slice none 0 0)) 28))) := Lib.hid (by
    have b := (Below.refl w1.heap.size w1).alloc (Nat.le_refl _) (.cells (vO v1 (.slice none 0 0)) 28)
    exact ⟨r1.below b, (G0.out.trans b1).trans (.of b), (R0.out.but b1 (by omega)).below b, heap_alloc_new _ _, hm⟩)
  clear r1 b1 S0 R0 G0 C1
  unfold vO at K1
  go_wp2_with fail
  generalize w1.alloc (Obj.cells #[Value.string (strB v1), Value.slice none 0 0, Value.string ⟨#[]⟩, Value.string ⟨#[]⟩, Value.string ⟨#[]⟩, Value.int .i64 0, Value.int .i64 0, Value.bool false, Value.int .i64 0, Value.int .i64 0] 28) = W1 at *
  generalize w1.heap.size = m at *
  refine (C2.out _ K1.out.rd).mono ?_
  rintro e w2 ⟨rfl, r2, b2⟩
  have K2 : Hid (Sin w g m (vO v1 (.slice none 0 0)) s2 w2) := Lib.hid (K1.out.call hg r2 b2)
  clear r2 b2 K1 C2
  go_wp2_with fail
  go_loopw [6] (fun i wr => ∃ (k : Nat) (acc : List Ln) (vl : Value) (sk : Sc), k ≤ v2 ∧ i = .int .i64 k ∧ Hid (Sin w g m (vO v1 vl) sk wr) ∧ Hid (OwnL wr (m + 1) vl acc) ∧ acc.length = k ∧ Hid (BytesS sk) ∧ Hid (linesS v2 s2 = (acc ++ (linesS (v2 - k) sk).1, (linesS (v2 - k) sk).2))) (fun i _ => v2 - (intOf i).toNat)
  case atStart => exact ⟨0, [], _, s2, Nat.zero_le _, rfl, K2, Lib.hid (OwnL.nil _ _), rfl, Y2, Lib.hid (by simp)⟩
  case round =>
    obtain ⟨k, acc, vl, sk, hk, rfl, HR, HO, hac, HB, HL⟩ := hrel
    by_cases hlt : k < v2
    · have yk := HB.out
      rcases h3 : textS 32 sk with ⟨v3, s3⟩
      have C3 := Lib.hid (fun W hW => show Calls Try.prog 42 #[.pointer (some ⟨g, 0, none⟩), .int .u64 32] W (ScanS g (.string (strB v3)) s3 W) by have := scan_text W g sk 32 hW (by decide); rwa [h3] at this)
      have y3 : BytesS s3 := by have := (textS_bytes yk 32).1; rwa [h3] at this
      rcases h4 : numS 1000 s3 with ⟨v4, s4⟩
      have C4 := Lib.hid (fun W hW => show Calls Try.prog 43 #[.pointer (some ⟨g, 0, none⟩), .int .u64 1000] W (ScanS g (.int .i64 (v4 : Int)) s4 W) by have := scan_num W g s3 1000 hW (by decide); rwa [h4] at this)
      have y4 : BytesS s4 := by have := numS_bytes y3 1000; rwa [h4] at this
      rcases h5 : numS 100000 s4 with ⟨v5, s5⟩
      have C5 := Lib.hid (fun W hW => show Calls Try.prog 43 #[.pointer (some ⟨g, 0, none⟩), .int .u64 100000] W (ScanS g (.int .i64 (v5 : Int)) s5 W) by have := scan_num W g s4 100000 hW (by decide); rwa [h5] at this)
      have y5 : BytesS s5 := by have := numS_bytes y4 100000; rwa [h5] at this
      have hsz : (strB v3).size ≤ 32 := by have := textS_le 32 yk; rw [h3] at this; rw [strB_size]; exact this
      have HX := Lib.hid y5
      have hx : lineS sk = (⟨strB v3, (v4 : Int), (v5 : Int)⟩, s5) := by simp only [lineS, h3, h4, h5]
      have HN := Lib.hid (show linesS v2 s2 = ((acc ++ [⟨strB v3, (v4 : Int), (v5 : Int)⟩]) ++ (linesS (v2 - (k + 1)) s5).1, (linesS (v2 - (k + 1)) s5).2) by
        rw [HL.out, show v2 - k = (v2 - (k + 1)) + 1 by omega, linesS, hx]; simp)
      have HK1 := Lib.hid (show (acc ++ [(⟨strB v3, (v4 : Int), (v5 : Int)⟩ : Ln)]).length = k + 1 by rw [List.length_append, hac]; rfl)
      have HZ := Lib.hid (show (strB v3).size ≤ maxLen by unfold maxLen; omega)
      clear yk h3 h4 h5 y3 y4 y5 hx hsz
      go_wp2_with fail
      refine (C3.out _ HR.out.rd).mono ?_
      rintro e w3 ⟨rfl, r3, b3⟩
      have K3 := Lib.hid (HR.out.call hg r3 b3)
      have hmw := K3.out.hm
      have hmz := K3.out.var.lt
      have O3 := Lib.hid (HO.out.grown (w' := w3) fun k h1 h2 => b3.block k h2 (by omega))
      have J3 : Hid (LnI w w3 g #[.string (strB v3), .int .i64 0, .int .i64 0] s3 (w3.alloc (.cells #[.string (strB v3), .int .i64 0, .int .i64 0] 34))) := Lib.hid (by
        have b := (Below.refl w3.heap.size w3).alloc (Nat.le_refl _) (.cells #[.string (strB v3), .int .i64 0, .int .i64 0] 34)
        exact ⟨r3.below b, K3.out.but.trans (.of b), fun k _ h2 => b.block k h2, heap_alloc_new _ _⟩)
      clear r3 b3
      go_wp2_with fail
      generalize w3.alloc (Obj.cells #[Value.string (strB v3), Value.int .i64 0, Value.int .i64 0] 34) = W3 at *
      refine (C4.out _ J3.out.rd).mono ?_
      rintro e w4 ⟨rfl, r4, b4⟩
      have J4 := Lib.hid (J3.out.call hg (by omega) r4 b4)
      obtain ⟨⟨c0, c1, c2⟩, f0, f1, f2⟩ := cellsR3 J4.out.line
      have L4 := Lib.hid (J4.out.set hg (by omega) 1 (.int .i64 (v4 : Int)))
      clear r4 b4 J3
      go_wp2_with fail
      clear c0 c1 c2 f0 f1 f2
      generalize w4.setCell ⟨w3.heap.size, 1, none⟩ (.int .i64 (v4 : Int)) = W4 at *
      refine (C5.out _ L4.out.rd).mono ?_
      rintro e w5 ⟨rfl, r5, b5⟩
      have J5 := Lib.hid (L4.out.call hg (by omega) r5 b5)
      obtain ⟨⟨c0, c1, c2⟩, f0, f1, f2⟩ := cellsR3 J5.out.line
      have L5 := Lib.hid (J5.out.set hg (by omega) 2 (.int .i64 (v5 : Int)))
      clear r5 b5 J4 L4
      have S5 := Lib.hid (L5.out.sin K3.out)
      have O5 := Lib.hid (L5.out.own O3.out (by omega))
      obtain ⟨⟨d0, d1, d2⟩, _⟩ := cellsR3 L5.out.line
      have dv : (w5.setCell ⟨w3.heap.size, 2, none⟩ (.int .i64 (v5 : Int))).cell? ⟨m, 1, none⟩ = some vl := S5.out.var.cell 1
      have T6 : Hid (LnsP ((w5.setCell ⟨w3.heap.size, 2, none⟩ (.int .i64 (v5 : Int))).alloc (.cells #[.string (strB v3), .int .i64 (v4 : Int), .int .i64 (v5 : Int)] 34)) (some ⟨w5.heap.size, 0, none⟩) 1 [(⟨strB v3, (v4 : Int), (v5 : Int)⟩ : Ln)]) := Lib.hid (by
        have := one_line (w5.setCell ⟨w3.heap.size, 2, none⟩ (.int .i64 (v5 : Int))) ⟨strB v3, (v4 : Int), (v5 : Int)⟩ HZ.out
        rwa [show (w5.setCell ⟨w3.heap.size, 2, none⟩ (.int .i64 (v5 : Int))).heap.size = w5.heap.size by simp [World.setCell]] at this)
      have O6 := Lib.hid (O5.out.below ((Below.refl _ _).alloc (Nat.le_refl _) (.cells #[.string (strB v3), .int .i64 (v4 : Int), .int .i64 (v5 : Int)] 34)))
      have S6 := Lib.hid (S5.out.far hg (Nat.lt_succ_self m) (But.alloc _ _ (.cells #[.string (strB v3), .int .i64 (v4 : Int), .int .i64 (v5 : Int)] 34)))
      have hz6 : m + 1 ≤ ((w5.setCell ⟨w3.heap.size, 2, none⟩ (.int .i64 (v5 : Int))).alloc (.cells #[.string (strB v3), .int .i64 (v4 : Int), .int .i64 (v5 : Int)] 34)).heap.size := S6.out.var.lt
      have hl6 : acc.length + 1 ≤ 1000000 := by omega
      clear O5 S5 L5 J5 O3 K3
      go_wp2_with (at_builtin; go_must (refine wpList_append_lines rfl _ _ rfl (m + 1) vl acc [(⟨strB v3, (v4 : Int), (v5 : Int)⟩ : Ln)] rfl O6.out (some ⟨w5.heap.size, 0, none⟩) 1 rfl T6.out hl6 hz6 ?_))
      rintro v6 w6 o6 g6
      obtain ⟨a6, p6, e6⟩ := o6.shape
      rw [HK1.out] at e6
      subst e6
      obtain ⟨q, hq, bq⟩ := But.grown g6 O6.out.row
      have S7 := Lib.hid (S6.out.far hg (by omega) bq)
      have O7 := Lib.hid o6
      have z1 : w6.cell? ⟨m, 1, none⟩ = some vl := S7.out.var.cell 1
      have zf : w6.frozen? ⟨m, 1, none⟩ = false := S7.out.var.free 1
      clear o6 g6 bq O6 S6 T6 hz6 c0 c1 c2 f0 f1 f2 d0 d1 d2 dv
      have S8 := Lib.hid (S7.out.set hg 1 (.slice a6 (k + 1) p6))
      have O8 := Lib.hid (O7.out.cell (k := m) (by omega) 1 (.slice a6 (k + 1) p6))
      go_wp2_with fail
      go_roundw
      case rel => exact ⟨k + 1, acc ++ [(⟨strB v3, (v4 : Int), (v5 : Int)⟩ : Ln)], _, s5, by omega, by go_num, S8, O8, HK1.out, HX, HN⟩
      case measure => simp [intOf]; omega
    · have HE := Lib.hid (show linesS v2 s2 = (acc, sk) by rw [HL.out, show v2 - k = 0 by omega, linesS]; simp)
      obtain ⟨av, cv, ev⟩ := HO.out.shape
      subst ev
      subst hac
      have y12 := HB.out
      rcases h13 : textS 32 sk with ⟨v13, s13⟩
      have C13 := Lib.hid (fun W hW => show Calls Try.prog 42 #[.pointer (some ⟨g, 0, none⟩), .int .u64 32] W (ScanS g (.string (strB v13)) s13 W) by have := scan_text W g sk 32 hW (by decide); rwa [h13] at this)
      have y13 : BytesS s13 := by have := (textS_bytes y12 32).1; rwa [h13] at this
      rcases h14 : textS 32 s13 with ⟨v14, s14⟩
      have C14 := Lib.hid (fun W hW => show Calls Try.prog 42 #[.pointer (some ⟨g, 0, none⟩), .int .u64 32] W (ScanS g (.string (strB v14)) s14 W) by have := scan_text W g s13 32 hW (by decide); rwa [h14] at this)
      have y14 : BytesS s14 := by have := (textS_bytes y13 32).1; rwa [h14] at this
      rcases h15 : textS 32 s14 with ⟨v15, s15⟩
      have C15 := Lib.hid (fun W hW => show Calls Try.prog 42 #[.pointer (some ⟨g, 0, none⟩), .int .u64 32] W (ScanS g (.string (strB v15)) s15 W) by have := scan_text W g s14 32 hW (by decide); rwa [h15] at this)
      have y15 : BytesS s15 := by have := (textS_bytes y14 32).1; rwa [h15] at this
      rcases h16 : numS 1000000000000 s15 with ⟨v16, s16⟩
      have C16 := Lib.hid (fun W hW => show Calls Try.prog 43 #[.pointer (some ⟨g, 0, none⟩), .int .u64 1000000000000] W (ScanS g (.int .i64 (v16 : Int)) s16 W) by have := scan_num W g s15 1000000000000 hW (by decide); rwa [h16] at this)
      have y16 : BytesS s16 := by have := numS_bytes y15 1000000000000; rwa [h16] at this
      rcases h17 : numS 12 s16 with ⟨v17, s17⟩
      have C17 := Lib.hid (fun W hW => show Calls Try.prog 43 #[.pointer (some ⟨g, 0, none⟩), .int .u64 12] W (ScanS g (.int .i64 (v17 : Int)) s17 W) by have := scan_num W g s16 12 hW (by decide); rwa [h17] at this)
      have y17 : BytesS s17 := by have := numS_bytes y16 12; rwa [h17] at this
      rcases h18 : numS 1 s17 with ⟨v18, s18⟩
      have C18 := Lib.hid (fun W hW => show Calls Try.prog 43 #[.pointer (some ⟨g, 0, none⟩), .int .u64 1] W (ScanS g (.int .i64 (v18 : Int)) s18 W) by have := scan_num W g s17 1 hW (by decide); rwa [h18] at this)
      have y18 : BytesS s18 := by have := numS_bytes y17 1; rwa [h18] at this
      have e18 : ((v18 : Int) == 1) = decide (v18 = 1) := by rw [Bool.eq_iff_iff]; simp; omega
      rcases h19 : numS 1000000 s18 with ⟨v19, s19⟩
      have C19 := Lib.hid (fun W hW => show Calls Try.prog 43 #[.pointer (some ⟨g, 0, none⟩), .int .u64 1000000] W (ScanS g (.int .i64 (v19 : Int)) s19 W) by have := scan_num W g s18 1000000 hW (by decide); rwa [h19] at this)
      have y19 : BytesS s19 := by have := numS_bytes y18 1000000; rwa [h19] at this
      rcases h20 : numS 1000000000000 s19 with ⟨v20, s20⟩
      have C20 := Lib.hid (fun W hW => show Calls Try.prog 43 #[.pointer (some ⟨g, 0, none⟩), .int .u64 1000000000000] W (ScanS g (.int .i64 (v20 : Int)) s20 W) by have := scan_num W g s19 1000000000000 hW (by decide); rwa [h20] at this)
      have y20 : BytesS s20 := by have := numS_bytes y19 1000000000000; rwa [h20] at this
      have HP := Lib.hid (takeS_of H1.out H2.out HE.out (show groupS sk = ((v13, v14, v15), s15) by simp only [groupS, h13, h14, h15]) h16 (show sagaS s16 = ((v17, v18, v19), s19) by simp only [sagaS, h17, h18, h19]) h20)
      clear h13 h14 h15 h16 h17 h18 h19 h20 y12 y13 y14 y15 y16 y17 y18 y19 y20 HL HE
      unfold vO at HR
      go_wp2_with fail
      refine (C13.out _ HR.out.rd).mono ?_
      rintro e w13 ⟨rfl, r13, b13⟩
      have J13 := Lib.hid (HR.out.call hg r13 b13)
      have mm13 := J13.out.hm
      have P13 := Lib.hid (HO.out.grown (w' := w13) fun k h1 h2 => b13.block k h2 (by omega))
      obtain ⟨⟨⟨c0, c1, c2, c3, c4⟩, c5, c6, c7, c8, c9⟩, f⟩ := cellsR10 J13.out.var
      clear r13 b13 mm13 HR HO
      have K13 := Lib.hid (J13.out.set hg 2 (.string (strB v13)))
      have Q13 := Lib.hid (P13.out.cell (k := m) (by omega) 2 (.string (strB v13)))
      clear J13 P13
      go_wp2_with fail
      clear c0 c1 c2 c3 c4 c5 c6 c7 c8 c9 f
      generalize w13.setCell ⟨m, 2, none⟩ (.string (strB v13)) = W13 at *
      refine (C14.out _ K13.out.rd).mono ?_
      rintro e w14 ⟨rfl, r14, b14⟩
      have J14 := Lib.hid (K13.out.call hg r14 b14)
      have mm14 := J14.out.hm
      have P14 := Lib.hid (Q13.out.grown (w' := w14) fun k h1 h2 => b14.block k h2 (by omega))
      obtain ⟨⟨⟨c0, c1, c2, c3, c4⟩, c5, c6, c7, c8, c9⟩, f⟩ := cellsR10 J14.out.var
      clear r14 b14 mm14 K13 Q13
      have K14 := Lib.hid (J14.out.set hg 3 (.string (strB v14)))
      have Q14 := Lib.hid (P14.out.cell (k := m) (by omega) 3 (.string (strB v14)))
      clear J14 P14
      go_wp2_with fail
      clear c0 c1 c2 c3 c4 c5 c6 c7 c8 c9 f
      generalize w14.setCell ⟨m, 3, none⟩ (.string (strB v14)) = W14 at *
      refine (C15.out _ K14.out.rd).mono ?_
      rintro e w15 ⟨rfl, r15, b15⟩
      have J15 := Lib.hid (K14.out.call hg r15 b15)
      have mm15 := J15.out.hm
      have P15 := Lib.hid (Q14.out.grown (w' := w15) fun k h1 h2 => b15.block k h2 (by omega))
      obtain ⟨⟨⟨c0, c1, c2, c3, c4⟩, c5, c6, c7, c8, c9⟩, f⟩ := cellsR10 J15.out.var
      clear r15 b15 mm15 K14 Q14
      have K15 := Lib.hid (J15.out.set hg 4 (.string (strB v15)))
      have Q15 := Lib.hid (P15.out.cell (k := m) (by omega) 4 (.string (strB v15)))
      clear J15 P15
      go_wp2_with fail
      clear c0 c1 c2 c3 c4 c5 c6 c7 c8 c9 f
      generalize w15.setCell ⟨m, 4, none⟩ (.string (strB v15)) = W15 at *
      refine (C16.out _ K15.out.rd).mono ?_
      rintro e w16 ⟨rfl, r16, b16⟩
      have J16 := Lib.hid (K15.out.call hg r16 b16)
      have mm16 := J16.out.hm
      have P16 := Lib.hid (Q15.out.grown (w' := w16) fun k h1 h2 => b16.block k h2 (by omega))
      obtain ⟨⟨⟨c0, c1, c2, c3, c4⟩, c5, c6, c7, c8, c9⟩, f⟩ := cellsR10 J16.out.var
      clear r16 b16 mm16 K15 Q15
      have K16 := Lib.hid (J16.out.set hg 5 (.int .i64 (v16 : Int)))
      have Q16 := Lib.hid (P16.out.cell (k := m) (by omega) 5 (.int .i64 (v16 : Int)))
      clear J16 P16
      go_wp2_with fail
      clear c0 c1 c2 c3 c4 c5 c6 c7 c8 c9 f
      generalize w16.setCell ⟨m, 5, none⟩ (.int .i64 (v16 : Int)) = W16 at *
      refine (C17.out _ K16.out.rd).mono ?_
      rintro e w17 ⟨rfl, r17, b17⟩
      have J17 := Lib.hid (K16.out.call hg r17 b17)
      have mm17 := J17.out.hm
      have P17 := Lib.hid (Q16.out.grown (w' := w17) fun k h1 h2 => b17.block k h2 (by omega))
      obtain ⟨⟨⟨c0, c1, c2, c3, c4⟩, c5, c6, c7, c8, c9⟩, f⟩ := cellsR10 J17.out.var
      clear r17 b17 mm17 K16 Q16
      have K17 := Lib.hid (J17.out.set hg 6 (.int .i64 (v17 : Int)))
      have Q17 := Lib.hid (P17.out.cell (k := m) (by omega) 6 (.int .i64 (v17 : Int)))
      clear J17 P17
      go_wp2_with fail
      clear c0 c1 c2 c3 c4 c5 c6 c7 c8 c9 f
      generalize w17.setCell ⟨m, 6, none⟩ (.int .i64 (v17 : Int)) = W17 at *
      refine (C18.out _ K17.out.rd).mono ?_
      rintro e w18 ⟨rfl, r18, b18⟩
      have J18 := Lib.hid (K17.out.call hg r18 b18)
      have mm18 := J18.out.hm
      have P18 := Lib.hid (Q17.out.grown (w' := w18) fun k h1 h2 => b18.block k h2 (by omega))
      obtain ⟨⟨⟨c0, c1, c2, c3, c4⟩, c5, c6, c7, c8, c9⟩, f⟩ := cellsR10 J18.out.var
      clear r18 b18 mm18 K17 Q17
      have K18 := Lib.hid (J18.out.set hg 7 (.bool (decide (v18 = 1))))
      have Q18 := Lib.hid (P18.out.cell (k := m) (by omega) 7 (.bool (decide (v18 = 1))))
      clear J18 P18
      go_wp2_with fail
      clear c0 c1 c2 c3 c4 c5 c6 c7 c8 c9 f
      generalize w18.setCell ⟨m, 7, none⟩ (.bool (decide (v18 = 1))) = W18 at *
      refine (C19.out _ K18.out.rd).mono ?_
      rintro e w19 ⟨rfl, r19, b19⟩
      have J19 := Lib.hid (K18.out.call hg r19 b19)
      have mm19 := J19.out.hm
      have P19 := Lib.hid (Q18.out.grown (w' := w19) fun k h1 h2 => b19.block k h2 (by omega))
      obtain ⟨⟨⟨c0, c1, c2, c3, c4⟩, c5, c6, c7, c8, c9⟩, f⟩ := cellsR10 J19.out.var
      clear r19 b19 mm19 K18 Q18
      have K19 := Lib.hid (J19.out.set hg 8 (.int .i64 (v19 : Int)))
      have Q19 := Lib.hid (P19.out.cell (k := m) (by omega) 8 (.int .i64 (v19 : Int)))
      clear J19 P19
      go_wp2_with fail
      clear c0 c1 c2 c3 c4 c5 c6 c7 c8 c9 f
      generalize w19.setCell ⟨m, 8, none⟩ (.int .i64 (v19 : Int)) = W19 at *
      refine (C20.out _ K19.out.rd).mono ?_
      rintro e w20 ⟨rfl, r20, b20⟩
      have J20 := Lib.hid (K19.out.call hg r20 b20)
      have mm20 := J20.out.hm
      have P20 := Lib.hid (Q19.out.grown (w' := w20) fun k h1 h2 => b20.block k h2 (by omega))
      obtain ⟨⟨⟨c0, c1, c2, c3, c4⟩, c5, c6, c7, c8, c9⟩, f⟩ := cellsR10 J20.out.var
      clear r20 b20 mm20 K19 Q19
      have K20 := Lib.hid (J20.out.set hg 9 (.int .i64 (v20 : Int)))
      have Q20 := Lib.hid (P20.out.cell (k := m) (by omega) 9 (.int .i64 (v20 : Int)))
      clear J20 P20
      have mm20 := K20.out.hm
      have HT := Lib.hid (show (takeS s).2 = s20 by rw [HP.out])
      rw [HP.out] at F
      have PO := Lib.hid (odP_own (o := ⟨strB v1, acc, strB v13, strB v14, strB v15, (v16 : Int), (v17 : Int), decide (v18 = 1), (v19 : Int), (v20 : Int)⟩) Q20.out F.out)
      obtain ⟨sa, sc, sl, ok, r1, r2, r3, r4⟩ := K20.out.rd
      obtain ⟨⟨_, d1⟩, _⟩ := cellsR2 r1
      clear r1 r2 r3
      cases ok with
      | false =>
        have HX := Lib.hid (NO.out (.inl (by rw [HP.out, r4]; rfl)))
        go_wp2_with (refine wpList_store_order rfl _ _ rfl w.heap.size ⟨#[]⟩ ⟨#[]⟩ ⟨#[]⟩ ⟨#[]⟩ none 0 0 0 0 0 0 false rfl rfl K20.out.res ?_)
        (try simp only [Exit.inBlock, Exit.then])
        apply bodyPost_ret
        case hd => rfl
        case hr => exact results_cell_one rfl _ _ w.heap.size _ rfl (load10 (setRow_heap _ _ _ _ _ _ K20.out.res))
        case hR =>
          obtain ⟨e1, e2, e3⟩ := scan_end hg K20.out.rd K20.out.but (OwnL.nil _ (w.heap.size + 1)) (by omega) #[.string ⟨#[]⟩, .slice none 0 0, .string ⟨#[]⟩, .string ⟨#[]⟩, .string ⟨#[]⟩, .int .i64 0, .int .i64 0, .bool false, .int .i64 0, .int .i64 0]
          exact ⟨none, 0, by rw [HX.out.1, HX.out.2]; rfl, by rw [HX.out.1]; exact e1, by rw [HT.out]; exact e2, e3⟩
      | true =>
        have h4 := Lib.hid (show (takeS s).2.isNone = false by rw [HP.out, r4]; rfl)
        clear r4
        obtain ⟨⟨⟨x0, x1, x2, x3, x4⟩, x5, x6, x7, x8, x9⟩, _⟩ := cellsR10 K20.out.var
        have CR := Lib.hid (refORight_any av cv ⟨strB v1, acc, strB v13, strB v14, strB v15, (v16 : Int), (v17 : Int), decide (v18 = 1), (v19 : Int), (v20 : Int)⟩ (w20.setCell ⟨m, 9, none⟩ (.int .i64 (v20 : Int))) PO.out)
        unfold odV at CR
        dsimp only at CR
        go_wp2_with fail
        clear c0 c1 c2 c3 c4 c5 c6 c7 c8 c9 f d1 x0 x1 x2 x3 x4 x5 x6 x7 x8 x9 PO
        generalize w20.setCell ⟨m, 9, none⟩ (.int .i64 (v20 : Int)) = W20 at *
        refine CR.out.mono ?_
        rintro e w21 ⟨rfl, b21⟩
        have V21 := Lib.hid (K20.out.var.below b21)
        have R21 := Lib.hid (K20.out.res.below b21)
        have O21 := Lib.hid (Q20.out.below b21)
        have S21 := Lib.hid (K20.out.rd.below b21)
        have G21 := Lib.hid (K20.out.but.trans (But.of b21))
        clear b21 K20 Q20 CR
        cases hr : rightO ⟨strB v1, acc, strB v13, strB v14, strB v15, (v16 : Int), (v17 : Int), decide (v18 = 1), (v19 : Int), (v20 : Int)⟩ with
        | false =>
          have HX := Lib.hid (NO.out (.inr (by rw [HP.out]; exact hr)))
          go_wp2_with (refine wpList_store_order rfl _ _ rfl w.heap.size ⟨#[]⟩ ⟨#[]⟩ ⟨#[]⟩ ⟨#[]⟩ none 0 0 0 0 0 0 false rfl rfl R21.out ?_)
          (try simp only [Exit.inBlock, Exit.then])
          apply bodyPost_ret
          case hd => rfl
          case hr => exact results_cell_one rfl _ _ w.heap.size _ rfl (load10 (setRow_heap _ _ _ _ _ _ R21.out))
          case hR =>
            obtain ⟨e1, e2, e3⟩ := scan_end hg S21.out G21.out (OwnL.nil _ (w.heap.size + 1)) (by omega) #[.string ⟨#[]⟩, .slice none 0 0, .string ⟨#[]⟩, .string ⟨#[]⟩, .string ⟨#[]⟩, .int .i64 0, .int .i64 0, .bool false, .int .i64 0, .int .i64 0]
            exact ⟨none, 0, by rw [HX.out.1, HX.out.2]; rfl, by rw [HX.out.1]; exact e1, by rw [HT.out]; exact e2, e3⟩
        | true =>
          have HX := Lib.hid (OK.out h4.out (by rw [HP.out]; exact hr))
          obtain ⟨⟨⟨x0, x1, x2, x3, x4⟩, x5, x6, x7, x8, x9⟩, _⟩ := cellsR10 V21.out
          go_wp2_with (refine wpList_store_order rfl _ _ rfl w.heap.size (strB v1) (strB v13) (strB v14) (strB v15) av acc.length cv (v16 : Int) (v17 : Int) (v19 : Int) (v20 : Int) (decide (v18 = 1)) rfl rfl R21.out ?_)
          (try simp only [Exit.inBlock, Exit.then])
          apply bodyPost_ret
          case hd => rfl
          case hr => exact results_cell_one rfl _ _ w.heap.size _ rfl (load10 (setRow_heap _ _ _ _ _ _ R21.out))
          case hR =>
            obtain ⟨e1, e2, e3⟩ := scan_end hg S21.out G21.out O21.out (by omega) #[.string (strB v1), .slice av acc.length cv, .string (strB v13), .string (strB v14), .string (strB v15), .int .i64 (v16 : Int), .int .i64 (v17 : Int), .bool (decide (v18 = 1)), .int .i64 (v19 : Int), .int .i64 (v20 : Int)]
            exact ⟨av, cv, by rw [HX.out.1, HX.out.2, HP.out]; rfl, by rw [HX.out.1, HP.out]; exact e1, by rw [HT.out]; exact e2, e3⟩

end Go.Proofs.Ytpmgafmbmjokhaa
