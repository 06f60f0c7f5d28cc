/- What the document's Take of a batch answers. -/
import Derived.Test.YtieoihmndpkdoaaScScan
import Derived.Test.YtieoihmndpkdoaaBtTake
import Derived.Test.YtieoihmndpkdoaaBtRight2
namespace Go.Proofs.Ytieoihmndpkdoaa
set_option maxRecDepth 100000
open Go.RowKit Go.ChangeShapes Go.WideShapes Go.ChangeAt

/-- A call that reads a batch by a Scan: its result's block, then the batch's. -/
structure Sbn (w : World) (g : Nat) (cs : Array Value) (s : Sc) (w' : World) : Prop where
  rd : SnS w' g s
  but : But g w w'
  res : Row w' w.heap.size 28 zB
  var : Row w' (w.heap.size + 1) 28 cs

theorem Sbn.call {w w1 w2 : World} {g : Nat} {cs : Array Value} {s t : Sc} (h : Sbn w g cs s w1) (hg : g < w.heap.size) (r : SnS w2 g t) (b : But g w1 w2) : Sbn w g cs t w2 :=
  ⟨r, h.but.trans b, h.res.but b (by omega), h.var.but b (by omega)⟩
theorem Sbn.set {w w1 : World} {g : Nat} {cs : Array Value} {s : Sc} (h : Sbn w g cs s w1) (hg : g < w.heap.size) (o : Nat) (v : Value) : Sbn w g (cs.setIfInBounds o v) s (w1.setCell ⟨w.heap.size + 1, o, none⟩ v) :=
  ⟨h.rd.other (k := w.heap.size + 1) (by omega) ((But.refl _ _).set o v), h.but.new (k := w.heap.size + 1) (by omega) ((But.refl _ _).set o v), h.res.but (g := w.heap.size + 1) ((But.refl _ _).set o v) (by omega), h.var.set o v⟩
theorem Sbn.far {w w1 w2 : World} {g k : Nat} {cs : Array Value} {s : Sc} (h : Sbn w g cs s w1) (hg : g < w.heap.size) (hk : w.heap.size + 2 ≤ k) (b : But k w1 w2) : Sbn w g cs s w2 :=
  ⟨h.rd.other (by omega) b, h.but.new (by omega) b, h.res.but b (by omega), h.var.but b (by omega)⟩
theorem Sbn.begin {w : World} {g : Nat} {s : Sc} (h : SnS w g s) : Sbn w g zB s ((w.alloc (.cells zB 28)).alloc (.cells zB 28)) := by
  have b : Below w.heap.size w ((w.alloc (.cells zB 28)).alloc (.cells zB 28)) := ((Below.refl _ _).alloc (Nat.le_refl _) _).alloc (by simp) _
  refine ⟨h.below b, .of b, ?_, heap_alloc2_new _ _ _⟩
  show _ = _
  rw [heap_alloc_old _ _ (by simp)]
  exact heap_alloc_new _ _
theorem scanB_end {w w1 : World} {g : Nat} {t : Sc} {base : Nat} {v : Value} {l : List ByteArray} (hg : g < w.heap.size) (hS : SnS w1 g t) (hG : But g w w1) (hO : OwnT w1 base v l) (hb : w.heap.size < base) (cs : Array Value) :
    OwnT (w1.setRow w.heap.size cs) w.heap.size v l ∧ SnS (w1.setRow w.heap.size cs) g t ∧ But g w (w1.setRow w.heap.size cs) :=
  ⟨(hO.grown fun k h1 h2 => setRow_other _ _ k _ (by omega)).base (by omega), hS.other hg ((But.refl _ _).setRow cs), hG.new (Nat.le_refl _) ((But.refl _ _).setRow cs)⟩

/-- The batch that stands next, or none, and whether there is one, are answered; the Scan is further on. -/
def ScanBt (g : Nat) (s : Sc) (w : World) (e : Ending) (w' : World) : Prop :=
  ∃ a cap, e = .returned (.tuple #[btV a cap (takeBO s), .bool (takeBV s).isSome]) ∧ OwnT w' w.heap.size (.slice a (takeBO s).mem.length cap) (takeBO s).mem ∧ SnS w' g (takeB s).2 ∧ But g w w'

set_option maxHeartbeats 8000000 in
theorem refBtTake_any (w : World) (g : Nat) (s : Sc) (h : SnS w g s) : Calls Try.prog 26 #[.pointer (some ⟨g, 0, none⟩)] w (ScanBt g s w) := by
  have hg := h.lt
  have K0 := Lib.hid (Sbn.begin h)
  have y1 := h.bytes
  have F := Lib.hid (takeB_fits y1)
  have OK := Lib.hid (takeBO_ok (s := s))
  have NO := Lib.hid (takeBO_no (s := s))
  rcases h1 : numS 1000000000000 s with ⟨v1, s1⟩
  have C1 := Lib.hid (fun W hW => show Calls Try.prog 53 #[.pointer (some ⟨g, 0, none⟩), .int .u64 1000000000000] W (ScanS g (.int .i64 (v1 : Int)) s1 W) by have := scan_num W g s 1000000000000 hW (by decide); rwa [h1] at this)
  have y2 : BytesS s1 := by have := numS_bytes y1 1000000000000; rwa [h1] at this
  rcases h2 : numS 2 s1 with ⟨v2, s2⟩
  have C2 := Lib.hid (fun W hW => show Calls Try.prog 53 #[.pointer (some ⟨g, 0, none⟩), .int .u64 2] W (ScanS g (.int .i64 (v2 : Int)) s2 W) by have := scan_num W g s1 2 hW (by decide); rwa [h2] at this)
  have y3 : BytesS s2 := by have := numS_bytes y2 2; rwa [h2] at this
  rcases h3 : numS 3 s2 with ⟨v3, s3⟩
  have C3 := Lib.hid (fun W hW => show Calls Try.prog 53 #[.pointer (some ⟨g, 0, none⟩), .int .u64 3] W (ScanS g (.int .i64 (v3 : Int)) s3 W) by have := scan_num W g s2 3 hW (by decide); rwa [h3] at this)
  have y4 : BytesS s3 := by have := numS_bytes y3 3; rwa [h3] at this
  rcases h4 : numS 1000000000000 s3 with ⟨v4, s4⟩
  have C4 := Lib.hid (fun W hW => show Calls Try.prog 53 #[.pointer (some ⟨g, 0, none⟩), .int .u64 1000000000000] W (ScanS g (.int .i64 (v4 : Int)) s4 W) by have := scan_num W g s3 1000000000000 hW (by decide); rwa [h4] at this)
  have y5 : BytesS s4 := by have := numS_bytes y4 1000000000000; rwa [h4] at this
  rcases h5 : numS 1099511627776 s4 with ⟨v5, s5⟩
  have C5 := Lib.hid (fun W hW => show Calls Try.prog 53 #[.pointer (some ⟨g, 0, none⟩), .int .u64 1099511627776] W (ScanS g (.int .i64 (v5 : Int)) s5 W) by have := scan_num W g s4 1099511627776 hW (by decide); rwa [h5] at this)
  have y6 : BytesS s5 := by have := numS_bytes y5 1099511627776; rwa [h5] at this
  rcases h6 : textS 32 s5 with ⟨v6, s6⟩
  have C6 := Lib.hid (fun W hW => show Calls Try.prog 54 #[.pointer (some ⟨g, 0, none⟩), .int .u64 32] W (ScanS g (.string (strB v6)) s6 W) by have := scan_text W g s5 32 hW (by decide); rwa [h6] at this)
  have y7 : BytesS s6 := by have := (textS_bytes y6 32).1; rwa [h6] at this
  rcases h7 : textS 32 s6 with ⟨v7, s7⟩
  have C7 := Lib.hid (fun W hW => show Calls Try.prog 54 #[.pointer (some ⟨g, 0, none⟩), .int .u64 32] W (ScanS g (.string (strB v7)) s7 W) by have := scan_text W g s6 32 hW (by decide); rwa [h7] at this)
  have y8 : BytesS s7 := by have := (textS_bytes y7 32).1; rwa [h7] at this
  rcases h8 : textS 32 s7 with ⟨v8, s8⟩
  have C8 := Lib.hid (fun W hW => show Calls Try.prog 54 #[.pointer (some ⟨g, 0, none⟩), .int .u64 32] W (ScanS g (.string (strB v8)) s8 W) by have := scan_text W g s7 32 hW (by decide); rwa [h8] at this)
  have y9 : BytesS s8 := by have := (textS_bytes y8 32).1; rwa [h8] at this
  rcases h9 : numS 64 s8 with ⟨v9, s9⟩
  have C9 := Lib.hid (fun W hW => show Calls Try.prog 53 #[.pointer (some ⟨g, 0, none⟩), .int .u64 64] W (ScanS g (.int .i64 (v9 : Int)) s9 W) by have := scan_num W g s8 64 hW (by decide); rwa [h9] at this)
  have y10 : BytesS s9 := by have := numS_bytes y9 64; rwa [h9] at this
  have n9 : v9 ≤ 64 := by have := numS_le 64 s8 y9; rwa [h9] at this
  have HH := Lib.hid (And.intro h1 (And.intro h2 (And.intro h3 (And.intro h4 (And.intro h5 (And.intro (show groupS s5 = ((v6, v7, v8), s8) by simp only [groupS, h6, h7, h8]) h9))))))
  have Y10 := Lib.hid y10
  clear h h1 h2 h3 h4 h5 h6 h7 h8 h9 y1 y2 y3 y4 y5 y6 y7 y8 y9 y10
  unfold zB at K0
  go_enter Try.func26, Try.ntmps26
  go_wp2_with fail
  generalize (w.alloc (Obj.cells #[Value.int .i64 0, Value.int .i64 0, Value.int .i64 0, Value.int .i64 0, Value.int .i64 0, Value.string ⟨#[]⟩, Value.string ⟨#[]⟩, Value.string ⟨#[]⟩, Value.slice none 0 0] 28)).alloc (Obj.cells #[Value.int .i64 0, Value.int .i64 0, Value.int .i64 0, Value.int .i64 0, Value.int .i64 0, Value.string ⟨#[]⟩, Value.string ⟨#[]⟩, Value.string ⟨#[]⟩, Value.slice none 0 0] 28) = W0 at *
  refine (C1.out _ K0.out.rd).mono ?_
  rintro e w1 ⟨rfl, r1, b1⟩
  have J1 := Lib.hid (K0.out.call hg r1 b1)
  obtain ⟨⟨⟨c0, c1, c2, c3, c4⟩, c5, c6, c7, c8⟩, f⟩ := cellsR9 J1.out.var
  clear r1 b1 K0
  have K1 := Lib.hid (J1.out.set hg 0 (.int .i64 (v1 : Int)))
  clear J1
  go_wp2_with fail
  clear c0 c1 c2 c3 c4 c5 c6 c7 c8 f
  generalize w1.setCell ⟨w.heap.size + 1, 0, none⟩ (.int .i64 (v1 : Int)) = W1 at *
  refine (C2.out _ K1.out.rd).mono ?_
  rintro e w2 ⟨rfl, r2, b2⟩
  have J2 := Lib.hid (K1.out.call hg r2 b2)
  obtain ⟨⟨⟨c0, c1, c2, c3, c4⟩, c5, c6, c7, c8⟩, f⟩ := cellsR9 J2.out.var
  clear r2 b2 K1
  have K2 := Lib.hid (J2.out.set hg 3 (.int .i64 (v2 : Int)))
  clear J2
  go_wp2_with fail
  clear c0 c1 c2 c3 c4 c5 c6 c7 c8 f
  generalize w2.setCell ⟨w.heap.size + 1, 3, none⟩ (.int .i64 (v2 : Int)) = W2 at *
  refine (C3.out _ K2.out.rd).mono ?_
  rintro e w3 ⟨rfl, r3, b3⟩
  have J3 := Lib.hid (K2.out.call hg r3 b3)
  obtain ⟨⟨⟨c0, c1, c2, c3, c4⟩, c5, c6, c7, c8⟩, f⟩ := cellsR9 J3.out.var
  clear r3 b3 K2
  have K3 := Lib.hid (J3.out.set hg 4 (.int .i64 (v3 : Int)))
  clear J3
  go_wp2_with fail
  clear c0 c1 c2 c3 c4 c5 c6 c7 c8 f
  generalize w3.setCell ⟨w.heap.size + 1, 4, none⟩ (.int .i64 (v3 : Int)) = W3 at *
  refine (C4.out _ K3.out.rd).mono ?_
  rintro e w4 ⟨rfl, r4, b4⟩
  have J4 := Lib.hid (K3.out.call hg r4 b4)
  obtain ⟨⟨⟨c0, c1, c2, c3, c4⟩, c5, c6, c7, c8⟩, f⟩ := cellsR9 J4.out.var
  clear r4 b4 K3
  have K4 := Lib.hid (J4.out.set hg 1 (.int .i64 (v4 : Int)))
  clear J4
  go_wp2_with fail
  clear c0 c1 c2 c3 c4 c5 c6 c7 c8 f
  generalize w4.setCell ⟨w.heap.size + 1, 1, none⟩ (.int .i64 (v4 : Int)) = W4 at *
  refine (C5.out _ K4.out.rd).mono ?_
  rintro e w5 ⟨rfl, r5, b5⟩
  have J5 := Lib.hid (K4.out.call hg r5 b5)
  obtain ⟨⟨⟨c0, c1, c2, c3, c4⟩, c5, c6, c7, c8⟩, f⟩ := cellsR9 J5.out.var
  clear r5 b5 K4
  have K5 := Lib.hid (J5.out.set hg 2 (.int .i64 (v5 : Int)))
  clear J5
  go_wp2_with fail
  clear c0 c1 c2 c3 c4 c5 c6 c7 c8 f
  generalize w5.setCell ⟨w.heap.size + 1, 2, none⟩ (.int .i64 (v5 : Int)) = W5 at *
  refine (C6.out _ K5.out.rd).mono ?_
  rintro e w6 ⟨rfl, r6, b6⟩
  have J6 := Lib.hid (K5.out.call hg r6 b6)
  obtain ⟨⟨⟨c0, c1, c2, c3, c4⟩, c5, c6, c7, c8⟩, f⟩ := cellsR9 J6.out.var
  clear r6 b6 K5
  have K6 := Lib.hid (J6.out.set hg 5 (.string (strB v6)))
  clear J6
  go_wp2_with fail
  clear c0 c1 c2 c3 c4 c5 c6 c7 c8 f
  generalize w6.setCell ⟨w.heap.size + 1, 5, none⟩ (.string (strB v6)) = W6 at *
  refine (C7.out _ K6.out.rd).mono ?_
  rintro e w7 ⟨rfl, r7, b7⟩
  have J7 := Lib.hid (K6.out.call hg r7 b7)
  obtain ⟨⟨⟨c0, c1, c2, c3, c4⟩, c5, c6, c7, c8⟩, f⟩ := cellsR9 J7.out.var
  clear r7 b7 K6
  have K7 := Lib.hid (J7.out.set hg 6 (.string (strB v7)))
  clear J7
  go_wp2_with fail
  clear c0 c1 c2 c3 c4 c5 c6 c7 c8 f
  generalize w7.setCell ⟨w.heap.size + 1, 6, none⟩ (.string (strB v7)) = W7 at *
  refine (C8.out _ K7.out.rd).mono ?_
  rintro e w8 ⟨rfl, r8, b8⟩
  have J8 := Lib.hid (K7.out.call hg r8 b8)
  obtain ⟨⟨⟨c0, c1, c2, c3, c4⟩, c5, c6, c7, c8⟩, f⟩ := cellsR9 J8.out.var
  clear r8 b8 K7
  have K8 := Lib.hid (J8.out.set hg 7 (.string (strB v8)))
  clear J8
  go_wp2_with fail
  clear c0 c1 c2 c3 c4 c5 c6 c7 c8 f
  generalize w8.setCell ⟨w.heap.size + 1, 7, none⟩ (.string (strB v8)) = W8 at *
  refine (C9.out _ K8.out.rd).mono ?_
  rintro e w9 ⟨rfl, r9, b9⟩
  have K9 : Hid (Sbn w g (vB v1 v2 v3 v4 v5 v6 v7 v8 (.slice none 0 0)) s9 w9) := Lib.hid (K8.out.call hg r9 b9)
  clear r9 b9 K8 C1 C2 C3 C4 C5 C6 C7 C8 C9
  go_wp2_with fail
  go_loopw [6] (fun i wr => ∃ (k : Nat) (acc : List ByteArray) (vl : Value) (sk : Sc), k ≤ v9 ∧ i = .int .i64 k ∧ Hid (Sbn w g (vB v1 v2 v3 v4 v5 v6 v7 v8 vl) sk wr) ∧ Hid (OwnT wr (w.heap.size + 2) vl acc) ∧ acc.length = k ∧ Hid (BytesS sk) ∧ Hid (textsS v9 s9 = (acc ++ (textsS (v9 - k) sk).1, (textsS (v9 - k) sk).2))) (fun i _ => v9 - (intOf i).toNat)
  case atStart => exact ⟨0, [], _, s9, Nat.zero_le _, rfl, K9, Lib.hid (OwnT.nil _ _), rfl, Y10, Lib.hid (by simp)⟩
  case round =>
    obtain ⟨k, acc, vl, sk, hk, rfl, HR, HO, hac, HB, HL⟩ := hrel
    by_cases hlt : k < v9
    · rcases hx : textS 32 sk with ⟨x, sx⟩
      have hsx : BytesS sx := by have := (textS_bytes HB.out 32).1; rwa [hx] at this
      have HN := Lib.hid (show textsS v9 s9 = ((acc ++ [strB x]) ++ (textsS (v9 - (k + 1)) sx).1, (textsS (v9 - (k + 1)) sx).2) by
        rw [HL.out, show v9 - k = (v9 - (k + 1)) + 1 by omega, textsS, hx]; simp)
      have HX := Lib.hid hsx
      have HK1 := Lib.hid (show (acc ++ [strB x]).length = k + 1 by rw [List.length_append, hac]; rfl)
      have C := Lib.hid (fun W hW => show Calls Try.prog 54 #[.pointer (some ⟨g, 0, none⟩), .int .u64 32] W (ScanS g (.string (strB x)) sx W) by have := scan_text W g sk 32 hW (by decide); rwa [hx] at this)
      clear hx hsx
      generalize strB x = xb at *
      obtain ⟨⟨⟨c0, c1, c2, c3, c4⟩, c5, c6, c7, c8⟩, f⟩ := cellsR9 HR.out.var
      have RW := Lib.hid (HR.out.far hg (Nat.le_refl _) (But.drew _ _))
      have OW := Lib.hid (HO.out.grown (w' := wr.drew) fun _ _ _ => rfl)
      go_wp2_with fail
      go_region_law (first
        | (go_simp; go_at_call 54; refine (C.out _ RW.out.rd).mono ?_; rintro e w3 ⟨rfl, r3, b3⟩; have R3 := Lib.hid (RW.out.call hg r3 b3); have O3 := Lib.hid (OW.out.grown (w' := w3) fun k h1 h2 => b3.block k h2 (by omega)); have y1 : w3.cell? ⟨w.heap.size + 1, 8, none⟩ = some vl := R3.out.var.cell 8; have yz := R3.out.var.lt; clear r3 b3)
        | (refine step_append_texts rfl (.tmp 43) (.tmp 46) rfl (w.heap.size + 2) vl acc [xb] (by simp [Act.eval]) (O3.out.below ((Below.refl _ _).alloc (Nat.le_refl _) _)) (some ⟨w3.heap.size, 0, none⟩) 1 (by simp [Act.eval]) (strs_block1 w3 xb) (by simp; omega) (by have := R3.out.var.lt; simp; omega) ?_; intro v4 w4 o4 g4; obtain ⟨a4, p4, e4⟩ := o4.shape; rw [HK1.out] at e4; subst e4; obtain ⟨q, hq, bq⟩ := But.grown g4 O3.out.row; have R4 := Lib.hid ((R3.out.far hg (Nat.le_refl _) (But.alloc _ _ _)).far hg hq bq); have O4 := Lib.hid o4; have z1 : w4.cell? ⟨w.heap.size + 1, 8, none⟩ = some vl := R4.out.var.cell 8; have zf : w4.frozen? ⟨w.heap.size + 1, 8, none⟩ = false := R4.out.var.free 8; clear o4 g4 bq))
      all_goals
        have R5 := Lib.hid (R4.out.set hg 8 (.slice a4 (k + 1) p4))
        have O5 := Lib.hid (O4.out.cell (k := w.heap.size + 1) (by omega) 8 (.slice a4 (k + 1) p4))
        go_wp2_with fail
        go_roundw
        case rel => exact ⟨k + 1, acc ++ [xb], _, sx, by omega, by go_num, R5, O5, HK1.out, HX, HN⟩
        case measure => simp [intOf]; omega
    · have HE := Lib.hid (show textsS v9 s9 = (acc, sk) by rw [HL.out, show v9 - k = 0 by omega, textsS]; simp)
      obtain ⟨av, cv, ev⟩ := HO.out.shape
      subst ev
      subst hac
      have HP := Lib.hid (takeB_of HH.out.1 HH.out.2.1 HH.out.2.2.1 HH.out.2.2.2.1 HH.out.2.2.2.2.1 HH.out.2.2.2.2.2.1 HH.out.2.2.2.2.2.2 HE.out)
      have HT := Lib.hid (show (takeB s).2 = sk by rw [HP.out])
      rw [HP.out] at F
      have PO := Lib.hid (btP_of (b := (⟨(v1 : Int), (v4 : Int), (v5 : Int), (v2 : Int), (v3 : Int), strB v6, strB v7, strB v8, acc⟩ : Bt)) HO.out.reads.2 F.out)
      clear HL HE HH
      unfold vB at HR
      obtain ⟨sa, sc, sl, ok, r1, r2, r3, r4⟩ := HR.out.rd
      obtain ⟨⟨_, d1⟩, _⟩ := cellsR2 r1
      clear r1 r2 r3
      cases ok with
      | false =>
        have HX := Lib.hid (NO.out (.inl (by rw [HP.out, r4]; rfl)))
        go_wp2_with (refine wpList_store_batch rfl _ _ rfl w.heap.size none 0 noBt _ (by rfl) rfl rfl HR.out.res ?_)
        (try simp only [Exit.inBlock, Exit.then])
        apply bodyPost_ret
        case hd => rfl
        case hr => exact results_cell_one rfl _ _ w.heap.size _ rfl (load9 (b := noBt) (setRow_heap _ _ _ _ _ _ HR.out.res))
        case hR =>
          obtain ⟨e1, e2, e3⟩ := scanB_end hg HR.out.rd HR.out.but (OwnT.nil _ (w.heap.size + 1)) (by omega) (btC none 0 noBt)
          exact ⟨none, 0, by rw [HX.out.1, HX.out.2]; rfl, by rw [HX.out.1]; exact e1, by rw [HT.out]; exact e2, e3⟩
      | true =>
        have h4 := Lib.hid (show (takeB s).2.isNone = false by rw [HP.out, r4]; rfl)
        clear r4
        obtain ⟨⟨⟨c0, c1, c2, c3, c4⟩, c5, c6, c7, c8⟩, f⟩ := cellsR9 HR.out.var
        have CR := Lib.hid (refBtRight_any av cv (⟨(v1 : Int), (v4 : Int), (v5 : Int), (v2 : Int), (v3 : Int), strB v6, strB v7, strB v8, acc⟩ : Bt) wr PO.out)
        unfold btV at CR
        dsimp only at CR
        go_wp2_with fail
        clear c0 c1 c2 c3 c4 c5 c6 c7 c8 f
        refine CR.out.mono ?_
        rintro e w21 ⟨rfl, b21⟩
        have V21 := Lib.hid (HR.out.var.below b21)
        have R21 := Lib.hid (HR.out.res.below b21)
        have O21 := Lib.hid (HO.out.below b21)
        have S21 := Lib.hid (HR.out.rd.below b21)
        have G21 := Lib.hid (HR.out.but.trans (But.of b21))
        clear b21 HR HO CR d1 PO
        cases hr : rightBt (⟨(v1 : Int), (v4 : Int), (v5 : Int), (v2 : Int), (v3 : Int), strB v6, strB v7, strB v8, acc⟩ : Bt) with
        | false =>
          have HX := Lib.hid (NO.out (.inr (by rw [HP.out]; exact hr)))
          go_wp2_with (refine wpList_store_batch rfl _ _ rfl w.heap.size none 0 noBt _ (by rfl) rfl rfl R21.out ?_)
          (try simp only [Exit.inBlock, Exit.then])
          apply bodyPost_ret
          case hd => rfl
          case hr => exact results_cell_one rfl _ _ w.heap.size _ rfl (load9 (b := noBt) (setRow_heap _ _ _ _ _ _ R21.out))
          case hR =>
            obtain ⟨e1, e2, e3⟩ := scanB_end hg S21.out G21.out (OwnT.nil _ (w.heap.size + 1)) (by omega) (btC none 0 noBt)
            exact ⟨none, 0, by rw [HX.out.1, HX.out.2]; rfl, by rw [HX.out.1]; exact e1, by rw [HT.out]; exact e2, e3⟩
        | true =>
          have HX := Lib.hid (OK.out h4.out (by rw [HP.out]; exact hr))
          obtain ⟨⟨⟨c0, c1, c2, c3, c4⟩, c5, c6, c7, c8⟩, f⟩ := cellsR9 V21.out
          go_wp2_with (refine wpList_store_batch rfl _ _ rfl w.heap.size av cv (⟨(v1 : Int), (v4 : Int), (v5 : Int), (v2 : Int), (v3 : Int), strB v6, strB v7, strB v8, acc⟩ : Bt) _ (by rfl) rfl rfl R21.out ?_)
          (try simp only [Exit.inBlock, Exit.then])
          apply bodyPost_ret
          case hd => rfl
          case hr => exact results_cell_one rfl _ _ w.heap.size _ rfl (load9 (b := (⟨(v1 : Int), (v4 : Int), (v5 : Int), (v2 : Int), (v3 : Int), strB v6, strB v7, strB v8, acc⟩ : Bt)) (setRow_heap _ _ _ _ _ _ R21.out))
          case hR =>
            obtain ⟨e1, e2, e3⟩ := scanB_end hg S21.out G21.out O21.out (by omega) (btC av cv (⟨(v1 : Int), (v4 : Int), (v5 : Int), (v2 : Int), (v3 : Int), strB v6, strB v7, strB v8, acc⟩ : Bt))
            exact ⟨av, cv, by rw [HX.out.1, HX.out.2, HP.out]; rfl, by rw [HX.out.1, HP.out]; exact e1, by rw [HT.out]; exact e2, e3⟩

end Go.Proofs.Ytieoihmndpkdoaa
