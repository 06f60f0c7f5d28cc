/- What the document's Take of an outbox answers. -/
import Derived.Test.YtciijkognhdddaaObTake2
import Derived.Test.YtciijkognhdddaaObRef
import Derived.Test.YtciijkognhdddaaScScan
namespace Go.Proofs.Ytciijkognhdddaa
set_option maxRecDepth 100000
open Go.RowKit Go.ChangeShapes Go.WideShapes Go.ChangeAt
attribute [local go_sem ↓] ldEf stEf alEf bxEf eqEf bdEf bsEf
attribute [local go_sem] al_ef bx_ef st_new bd_ef bs_ef bs_ef0

/-- An effect is read by a Scan, into a variable that came later. -/
structure Rv (wr : World) (g : Nat) (cs : Array Value) (s : Sc) (W : World) : Prop where
  rd : SnS W g s
  var : Row W wr.heap.size 27 cs
  but : But g wr W
theorem Rv.begin {wr : World} {g : Nat} {s : Sc} (h : SnS wr g s) (cs : Array Value) : Rv wr g cs s (wr.alloc (.cells cs 27)) :=
  ⟨h.below ((Below.refl _ _).alloc (Nat.le_refl _) _), Row.new _ _ _, But.alloc g wr _⟩
theorem Rv.call {wr w1 w2 : World} {g : Nat} {cs : Array Value} {s t : Sc} (h : Rv wr g cs s w1) (hg : g < wr.heap.size) (r : SnS w2 g t) (b : But g w1 w2) : Rv wr g cs t w2 :=
  ⟨r, h.var.but b (by omega), h.but.trans b⟩
theorem Rv.set {wr w1 : World} {g : Nat} {cs : Array Value} {s : Sc} (h : Rv wr g cs s w1) (hg : g < wr.heap.size) (o : Nat) (v : Value) : Rv wr g (cs.setIfInBounds o v) s (w1.setCell ⟨wr.heap.size, o, none⟩ v) :=
  ⟨h.rd.other (k := wr.heap.size) hg ((But.refl _ _).set o v), h.var.set o v, h.but.new (k := wr.heap.size) (Nat.le_refl _) ((But.refl _ _).set o v)⟩

/-- The outbox that stands next, or none, and whether there is one, are answered. -/
def TakeD (g : Nat) (s : Sc) (w : World) (e : Ending) (w' : World) : Prop :=
  ∃ v, e = .returned (.tuple #[v, .bool (boxO s).isSome]) ∧ OwnS LE w' w.heap.size v (boxV s) ∧ But g w w'
theorem effsS_stop {k n : Nat} (h : k ≤ n) {s : Sc} (e : (effsS k s).2 = none) : (effsS n s).2 = none := by
  obtain ⟨j, rfl⟩ : ∃ j, n = k + j := ⟨n - k, by omega⟩
  rw [effsS_add]
  simp only [e]
  exact effsS_none j

set_option maxHeartbeats 2000000 in
theorem refTake_any13 (w : World) (g : Nat) (s : Sc) (h : SnS w g s) : Calls Try.prog 26 #[.pointer (some ⟨g, 0, none⟩)] w (TakeD g s w) := by
  have hg := h.lt
  have hb := h.bytes
  have B0 := Lib.hid ((Below.refl w.heap.size w).alloc (Nat.le_refl _) (.cells #[] 27))
  have O0 := Lib.hid (OwnS.fresh (L := LE) w w.heap.size (Nat.le_refl _))
  have O0 : Hid (OwnS LE (w.alloc (.cells #[] 27)) w.heap.size (.slice (some ⟨w.heap.size, 0, none⟩) 0 0) []) := O0
  have C0 := Lib.hid (scan_num (w.alloc (.cells #[] 27)) g s 1048576 (h.below B0.out) (by decide))
  have hb1 := numS_bytes hb 1048576
  have hn := numS_le 1048576 s hb
  have HB := Lib.hid (show boxS s = effsS (numS 1048576 s).1 (numS 1048576 s).2 from rfl)
  have HO := Lib.hid (fun k => effsS_order k hb1)
  clear h hb
  generalize (numS 1048576 s).1 = n at *
  generalize (numS 1048576 s).2 = S at *
  go_enter Try.func26, Try.ntmps26
  go_wp2_with fail
  generalize w.alloc (.cells #[] 27) = W0 at *
  refine C0.out.mono ?_
  rintro e w1 ⟨rfl, r1, b1⟩
  have R1 := Lib.hid r1
  have B1 := Lib.hid ((But.of (g := g) B0.out).trans b1)
  have O1 := Lib.hid (O0.out.but b1 hg)
  clear C0 r1 b1 O0 B0
  go_wp2_with fail
  go_loopw [4, 6] (fun s4 i wr => ∃ (k : Nat) (acc : List Ef) (sc : Sc), k ≤ n ∧ i = .int .i64 k ∧ Hid (OwnS LE wr w.heap.size s4 acc) ∧ Hid (effsS k S = (acc, sc)) ∧ acc.length ≤ k ∧ Hid (SnS wr g sc) ∧ Hid (But g w wr)) (fun _ i _ => n - (intOf i).toNat)
  case atStart => exact ⟨0, [], S, Nat.zero_le _, rfl, O1, Lib.hid rfl, by simp, R1, B1⟩
  case round =>
    clear R1 B1 O1
    obtain ⟨k, acc, sc, hk, rfl, HW, HE, hal, R, B⟩ := hrel
    have hgr := R.out.lt
    have HSB := Lib.hid R.out.bytes
    have RR := Lib.hid R.out
    obtain ⟨sa, sq, sl, ok, r1, r2, r3, r4⟩ := R.out
    obtain ⟨⟨_, d1⟩, _⟩ := cellsR2 r1
    have R4 := Lib.hid r4
    clear r1 r2 r3 r4 R
    cases ok with
    | false =>
      have hsc : sc = none := R4.out
      have HX := Lib.hid (box_no (box_none (s := s) (.inl (by rw [HB.out]; exact effsS_stop hk (by rw [HE.out]; exact hsc)))))
      clear R4 hsc
      by_cases hlt : k < n
      all_goals
        go_wp2_with fail
        go_ret2
        exact ⟨_, by rw [HX.out.2]; rfl, by rw [HX.out.1]; exact OwnS.nil _ _, B.out⟩
    | true =>
      have hsc : sc.isNone = false := by rw [R4.out]; rfl
      clear R4
      by_cases hlt : k < n
      · have HS := Lib.hid (effsS_snoc k S)
        rw [HE.out] at HS
        have K0 := Lib.hid (Rv.begin RR.out (efC noEf))
        have y1 := HSB.out
        rcases h1 : numS 1000000000000 sc with ⟨v1, s1⟩
        have C1 := Lib.hid (fun W hW => show Calls Try.prog 41 #[.pointer (some ⟨g, 0, none⟩), .int .u64 1000000000000] W (ScanS g (.int .i64 (v1 : Int)) s1 W) by have := scan_num W g sc 1000000000000 hW (by decide); rwa [h1] at this)
        have y2 : BytesS s1 := by have := numS_bytes y1 1000000000000; rwa [h1] at this
        rcases h2 : numS 7 s1 with ⟨v2, s2⟩
        have C2 := Lib.hid (fun W hW => show Calls Try.prog 41 #[.pointer (some ⟨g, 0, none⟩), .int .u64 7] W (ScanS g (.int .i64 (v2 : Int)) s2 W) by have := scan_num W g s1 7 hW (by decide); rwa [h2] at this)
        have y3 : BytesS s2 := by have := numS_bytes y2 7; rwa [h2] at this
        rcases h3 : numS 1000000 s2 with ⟨v3, s3⟩
        have C3 := Lib.hid (fun W hW => show Calls Try.prog 41 #[.pointer (some ⟨g, 0, none⟩), .int .u64 1000000] W (ScanS g (.int .i64 (v3 : Int)) s3 W) by have := scan_num W g s2 1000000 hW (by decide); rwa [h3] at this)
        have y4 : BytesS s3 := by have := numS_bytes y3 1000000; rwa [h3] at this
        rcases h4 : numS 1099511627776 s3 with ⟨v4, s4⟩
        have C4 := Lib.hid (fun W hW => show Calls Try.prog 41 #[.pointer (some ⟨g, 0, none⟩), .int .u64 1099511627776] W (ScanS g (.int .i64 (v4 : Int)) s4 W) by have := scan_num W g s3 1099511627776 hW (by decide); rwa [h4] at this)
        have y5 : BytesS s4 := by have := numS_bytes y4 1099511627776; rwa [h4] at this
        rcases h5 : numS 1000000000000 s4 with ⟨v5, s5⟩
        have C5 := Lib.hid (fun W hW => show Calls Try.prog 41 #[.pointer (some ⟨g, 0, none⟩), .int .u64 1000000000000] W (ScanS g (.int .i64 (v5 : Int)) s5 W) by have := scan_num W g s4 1000000000000 hW (by decide); rwa [h5] at this)
        have y6 : BytesS s5 := by have := numS_bytes y5 1000000000000; rwa [h5] at this
        rcases h6 : textS 32 s5 with ⟨v6, s6⟩
        have C6 := Lib.hid (fun W hW => show Calls Try.prog 42 #[.pointer (some ⟨g, 0, none⟩), .int .u64 32] W (ScanS g (.string (strB v6)) s6 W) by have := scan_text W g s5 32 hW (by decide); rwa [h6] at this)
        have HP := Lib.hid (show (effS sc).1 = ⟨(v1 : Int), (v5 : Int), (v4 : Int), (v2 : Int), (v3 : Int), strB v6⟩ ∧ (effS sc).2 = s6 by simp only [effS, h1, h2, h3, h4, h5, h6]; exact ⟨trivial, trivial⟩)
        rw [HP.out.1, HP.out.2] at HS
        clear h1 h2 h3 h4 h5 h6 y1 y2 y3 y4 y5 y6 HP HE
        go_wp2_with fail
        generalize wr.alloc (.cells (efC noEf) 27) = V0 at *
        refine (C1.out _ K0.out.rd).mono ?_
        rintro e w1 ⟨rfl, r1, b1⟩
        have J1 := Lib.hid (K0.out.call hgr r1 b1)
        obtain ⟨c0, c1, c2, c3, c4, c5⟩ := Row.c (e := noEf) J1.out.var
        obtain ⟨f0, f1, f2, f3, f4, f5⟩ := Row.f (e := noEf) J1.out.var
        clear r1 b1
        have K1 : Hid (Rv wr g (efC ⟨(v1 : Int), 0, 0, 0, 0, ⟨#[]⟩⟩) s1 (w1.setCell ⟨wr.heap.size, 0, none⟩ (.int .i64 (v1 : Int)))) := Lib.hid (J1.out.set hgr 0 (.int .i64 (v1 : Int)))
        go_wp2_with fail
        clear c0 c1 c2 c3 c4 c5 f0 f1 f2 f3 f4 f5
        generalize w1.setCell ⟨wr.heap.size, 0, none⟩ (.int .i64 (v1 : Int)) = W1 at *
        refine (C2.out _ K1.out.rd).mono ?_
        rintro e w2 ⟨rfl, r2, b2⟩
        have J2 := Lib.hid (K1.out.call hgr r2 b2)
        obtain ⟨c0, c1, c2, c3, c4, c5⟩ := Row.c (e := ⟨(v1 : Int), 0, 0, 0, 0, ⟨#[]⟩⟩) J2.out.var
        obtain ⟨f0, f1, f2, f3, f4, f5⟩ := Row.f (e := ⟨(v1 : Int), 0, 0, 0, 0, ⟨#[]⟩⟩) J2.out.var
        clear r2 b2
        have K2 : Hid (Rv wr g (efC ⟨(v1 : Int), 0, 0, (v2 : Int), 0, ⟨#[]⟩⟩) s2 (w2.setCell ⟨wr.heap.size, 3, none⟩ (.int .i64 (v2 : Int)))) := Lib.hid (J2.out.set hgr 3 (.int .i64 (v2 : Int)))
        go_wp2_with fail
        clear c0 c1 c2 c3 c4 c5 f0 f1 f2 f3 f4 f5
        generalize w2.setCell ⟨wr.heap.size, 3, none⟩ (.int .i64 (v2 : Int)) = W2 at *
        refine (C3.out _ K2.out.rd).mono ?_
        rintro e w3 ⟨rfl, r3, b3⟩
        have J3 := Lib.hid (K2.out.call hgr r3 b3)
        obtain ⟨c0, c1, c2, c3, c4, c5⟩ := Row.c (e := ⟨(v1 : Int), 0, 0, (v2 : Int), 0, ⟨#[]⟩⟩) J3.out.var
        obtain ⟨f0, f1, f2, f3, f4, f5⟩ := Row.f (e := ⟨(v1 : Int), 0, 0, (v2 : Int), 0, ⟨#[]⟩⟩) J3.out.var
        clear r3 b3
        have K3 : Hid (Rv wr g (efC ⟨(v1 : Int), 0, 0, (v2 : Int), (v3 : Int), ⟨#[]⟩⟩) s3 (w3.setCell ⟨wr.heap.size, 4, none⟩ (.int .i64 (v3 : Int)))) := Lib.hid (J3.out.set hgr 4 (.int .i64 (v3 : Int)))
        go_wp2_with fail
        clear c0 c1 c2 c3 c4 c5 f0 f1 f2 f3 f4 f5
        generalize w3.setCell ⟨wr.heap.size, 4, none⟩ (.int .i64 (v3 : Int)) = W3 at *
        refine (C4.out _ K3.out.rd).mono ?_
        rintro e w4 ⟨rfl, r4, b4⟩
        have J4 := Lib.hid (K3.out.call hgr r4 b4)
        obtain ⟨c0, c1, c2, c3, c4, c5⟩ := Row.c (e := ⟨(v1 : Int), 0, 0, (v2 : Int), (v3 : Int), ⟨#[]⟩⟩) J4.out.var
        obtain ⟨f0, f1, f2, f3, f4, f5⟩ := Row.f (e := ⟨(v1 : Int), 0, 0, (v2 : Int), (v3 : Int), ⟨#[]⟩⟩) J4.out.var
        clear r4 b4
        have K4 : Hid (Rv wr g (efC ⟨(v1 : Int), 0, (v4 : Int), (v2 : Int), (v3 : Int), ⟨#[]⟩⟩) s4 (w4.setCell ⟨wr.heap.size, 2, none⟩ (.int .i64 (v4 : Int)))) := Lib.hid (J4.out.set hgr 2 (.int .i64 (v4 : Int)))
        go_wp2_with fail
        clear c0 c1 c2 c3 c4 c5 f0 f1 f2 f3 f4 f5
        generalize w4.setCell ⟨wr.heap.size, 2, none⟩ (.int .i64 (v4 : Int)) = W4 at *
        refine (C5.out _ K4.out.rd).mono ?_
        rintro e w5 ⟨rfl, r5, b5⟩
        have J5 := Lib.hid (K4.out.call hgr r5 b5)
        obtain ⟨c0, c1, c2, c3, c4, c5⟩ := Row.c (e := ⟨(v1 : Int), 0, (v4 : Int), (v2 : Int), (v3 : Int), ⟨#[]⟩⟩) J5.out.var
        obtain ⟨f0, f1, f2, f3, f4, f5⟩ := Row.f (e := ⟨(v1 : Int), 0, (v4 : Int), (v2 : Int), (v3 : Int), ⟨#[]⟩⟩) J5.out.var
        clear r5 b5
        have K5 : Hid (Rv wr g (efC ⟨(v1 : Int), (v5 : Int), (v4 : Int), (v2 : Int), (v3 : Int), ⟨#[]⟩⟩) s5 (w5.setCell ⟨wr.heap.size, 1, none⟩ (.int .i64 (v5 : Int)))) := Lib.hid (J5.out.set hgr 1 (.int .i64 (v5 : Int)))
        go_wp2_with fail
        clear c0 c1 c2 c3 c4 c5 f0 f1 f2 f3 f4 f5
        generalize w5.setCell ⟨wr.heap.size, 1, none⟩ (.int .i64 (v5 : Int)) = W5 at *
        refine (C6.out _ K5.out.rd).mono ?_
        rintro e w6 ⟨rfl, r6, b6⟩
        have J6 := Lib.hid (K5.out.call hgr r6 b6)
        obtain ⟨c0, c1, c2, c3, c4, c5⟩ := Row.c (e := ⟨(v1 : Int), (v5 : Int), (v4 : Int), (v2 : Int), (v3 : Int), ⟨#[]⟩⟩) J6.out.var
        obtain ⟨f0, f1, f2, f3, f4, f5⟩ := Row.f (e := ⟨(v1 : Int), (v5 : Int), (v4 : Int), (v2 : Int), (v3 : Int), ⟨#[]⟩⟩) J6.out.var
        clear r6 b6
        have K6 : Hid (Rv wr g (efC ⟨(v1 : Int), (v5 : Int), (v4 : Int), (v2 : Int), (v3 : Int), strB v6⟩) s6 (w6.setCell ⟨wr.heap.size, 5, none⟩ (.string (strB v6)))) := Lib.hid (J6.out.set hgr 5 (.string (strB v6)))
        have ld := ld_row (e := ⟨(v1 : Int), (v5 : Int), (v4 : Int), (v2 : Int), (v3 : Int), strB v6⟩) K6.out.var
        generalize (⟨(v1 : Int), (v5 : Int), (v4 : Int), (v2 : Int), (v3 : Int), strB v6⟩ : Ef) = z at *
        have hlen : acc.length + [z].length ≤ 10000000 := by simp; omega
        have O6 := Lib.hid (HW.out.but K6.out.but (by omega))
        have B6 := Lib.hid (B.out.trans K6.out.but)
        have hw6 := B6.out.size
        go_wp2_with (at_builtin; go_must (refine wpList_append_sl LE_ok rfl _ _ rfl w.heap.size _ acc [z] rfl (O6.out.alloc _) _ 1 rfl (ef_one _ _ (by simp) z) hlen (Nat.le_trans hw6 (by simp)) ?_))
        rintro v7 w7 o7 g7
        obtain ⟨q, hq1, hq2⟩ := But.grown g7 (B := w.heap.size) O6.out.row
        have R7 := Lib.hid ((K6.out.rd.below ((Below.refl _ _).alloc (Nat.le_refl _) (.cells (efC z) 27))).other (by omega) hq2)
        have B7 := Lib.hid ((B6.out.trans (But.alloc g _ (.cells (efC z) 27))).new hq1 hq2)
        have O7 := Lib.hid o7
        clear o7 g7 hq2 B6 O6 K6 J6 c0 c1 c2 c3 c4 c5 f0 f1 f2 f3 f4 f5 ld
        go_wp2_with fail
        go_roundw
        case rel => exact ⟨k + 1, acc ++ [z], s6, hlt, by go_num, O7, HS, by simp; omega, R7, B7⟩
        case measure => simp [intOf]; omega
      · obtain rfl : k = n := by omega
        have hbox : boxS s = (acc, sc) := by rw [HB.out]; exact HE.out
        obtain ⟨a7, c7, rfl, s7⟩ := HW.out.sl
        have CR := Lib.hid (refObRight_any a7 c7 acc wr s7 (fun y hy => by
          have := HO.out k y (by rw [HE.out]; exact hy)
          unfold maxLen; omega))
        clear s7
        cases hr : rightE acc with
        | false =>
          have HX := Lib.hid (box_no (box_none (s := s) (.inr (by rw [hbox]; exact hr))))
          rw [hr] at CR
          clear hbox hr
          go_wp2_with fail
          refine CR.out.mono ?_
          rintro x w8 ⟨rfl, b8⟩
          go_wp2_with fail
          go_ret2
          exact ⟨_, by rw [HX.out.2]; rfl, by rw [HX.out.1]; exact OwnS.nil _ _, B.out.trans (But.of b8)⟩
        | true =>
          have HX := Lib.hid (box_yes (s := s) (by rw [hbox]; cases sc with | none => cases hsc | some _ => rfl) (by rw [hbox]; exact hr))
          have HV := Lib.hid (show boxV s = acc by rw [HX.out.1, hbox])
          rw [hr] at CR
          clear hbox hr
          go_wp2_with fail
          refine CR.out.mono ?_
          rintro x w8 ⟨rfl, b8⟩
          go_wp2_with fail
          go_ret2
          exact ⟨_, by rw [HX.out.2]; rfl, by rw [HV.out]; exact HW.out.below b8, B.out.trans (But.of b8)⟩

end Go.Proofs.Ytciijkognhdddaa
