/- What the document's Bytes of an order answers, at every order that can be. -/
import Derived.Test.YtpmgafmbmjokhaaOrPut2
namespace Go.Proofs.Ytpmgafmbmjokhaa
open Go.RowKit Go.ChangeShapes Go.WideShapes Go.ChangeAt

/-- What is put behind own bytes is nothing to a block of other cells. -/
theorem Row.own {W W' : World} {base X : Nat} {T : TypeId} {cs : Array Value} {v : Value} {acc : List Nat} (h : Row W X T cs) (o : OwnB W base v acc) (hT : T ≠ 5) (g : W.grownBy W' v.ownBlock) : Row W' X T cs := by
  refine (g.block X h.lt (fun e => ?_)).trans h
  rcases o.2 with ⟨rfl, _⟩ | ⟨k, cap, cur, rfl, _, h2, _⟩
  · cases e
  · injection e with e
    subst e
    unfold Row at h
    rw [h2] at h
    injection h with h
    injection h with _ h
    exact hT h.symm
theorem Row.nth {α : Type} {W : World} {X : Nat} {T : TypeId} {l : List α} {f : α → Value} (h : Row W X T (l.map f).toArray) (k : Nat) (hk : k < l.length) : W.cell? ⟨X, k, none⟩ = some (f l[k]) := by
  rw [h.cell k]
  simp [hk]
theorem textsL_app (a b : List ByteArray) : textsL (a ++ b) = textsL a ++ textsL b := by simp [textsL]

set_option maxRecDepth 100000 in
set_option maxHeartbeats 8000000 in
theorem refBytes_any (oa : Option Addr) (oc : Nat) (o : Od) (w : World) (hO : OdP w oa oc o) (hr : rightO o = true) :
    Calls Try.prog 15 #[odV oa oc o] w (OwnPost (orderL o) w) := by
  obtain ⟨k1, k2, k3, k11, k12, k13⟩ := rightO_of hr
  obtain ⟨k4, k5, k6⟩ := groupB_of k2
  obtain ⟨⟨k7, k8⟩, k9, _⟩ := (rightLB_iff _).1 k3
  have s1 := right_32 k1
  have s4 := right_32 k4
  have s5 := right_32 k5
  have s6 := right_32 k6
  have HLB := Lib.hid k9
  obtain ⟨i, ls, c, z, s, t, p, g, r, bt⟩ := o
  have HLN := Lib.hid hO.lns
  dsimp only at *
  obtain ⟨m1, rfl⟩ : ∃ m : Nat, t = (m : Int) := ⟨t.toNat, by omega⟩
  obtain ⟨m2, rfl⟩ : ∃ m : Nat, p = (m : Int) := ⟨p.toNat, by omega⟩
  obtain ⟨m3, rfl⟩ : ∃ m : Nat, r = (m : Int) := ⟨r.toNat, by omega⟩
  obtain ⟨m4, rfl⟩ : ∃ m : Nat, bt = (m : Int) := ⟨bt.toNat, by omega⟩
  obtain ⟨gv, hgv⟩ : ∃ n, givenN g = n := ⟨_, rfl⟩
  have hg1 : gv ≤ 1 := by rw [← hgv]; exact givenN_le g
  have hN : ∀ n ∈ [m1, m2, gv, m3, m4], n ≤ 1000000000000 := by
    intro n hn
    simp only [List.mem_cons, List.not_mem_nil, or_false] at hn
    rcases hn with rfl | rfl | rfl | rfl | rfl <;> omega
  obtain ⟨ns, hns⟩ : ∃ ns, [m1, m2, gv, m3, m4] = ns := ⟨_, rfl⟩
  have hnl : ns.length = 5 := by rw [← hns]; rfl
  obtain ⟨ts, hts⟩ : ∃ ts, [c, z, s] = ts := ⟨_, rfl⟩
  have htl : ts.length = 3 := by rw [← hts]; rfl
  have HT32 := Lib.hid (show ∀ x ∈ ts, x.size ≤ 32 by
    rw [← hts]
    intro x hx
    simp only [List.mem_cons, List.not_mem_nil, or_false] at hx
    rcases hx with rfl | rfl | rfl <;> assumption)
  rw [hns] at hN
  have HNS := Lib.hid hN
  have HF := Lib.hid (show orderL ⟨i, ls, c, z, s, (m1 : Int), (m2 : Int), g, (m3 : Int), (m4 : Int)⟩ = (((textL i ++ numL ls.length) ++ linesL ls) ++ textsL ts) ++ numsL ns by
    rw [← hns, ← hts, ← hgv]
    simp [orderL, textsL, numsL])
  have HTS := Lib.hid hts
  have HNN := Lib.hid hns
  have HGV := Lib.hid hgv
  have C1 := Lib.hid (fun W => refText_any i W (by omega))
  have hy1l := textL_32 s1
  have Y1 := Lib.hid (textL_bytes i)
  have C2 := Lib.hid (fun W => refNumber_any ls.length W (by omega))
  have hy2l := numL_ten (show ls.length < 18446744073709551616 by omega)
  have Y2 := Lib.hid (numL_bytes ls.length)
  have P0 : Hid (PutI w oa oc ⟨i, ls, c, z, s, (m1 : Int), (m2 : Int), g, (m3 : Int), (m4 : Int)⟩ [] (.slice none 0 0) (w.alloc (.cells #[.string i, .slice oa ls.length oc, .string c, .string z, .string s, .int .i64 (m1 : Int), .int .i64 (m2 : Int), .bool g, .int .i64 (m3 : Int), .int .i64 (m4 : Int)] 28))) := Lib.hid ⟨own_nil _ _, OdB.new _ _ _ ⟨i, ls, c, z, s, (m1 : Int), (m2 : Int), g, (m3 : Int), (m4 : Int)⟩, (Below.refl _ _).alloc (Nat.le_refl _) _, by simp⟩
  have hn2 : IntKind.u64.wrap (ls.length : Int) = (ls.length : Int) := by rw [IntKind.wrap_u64]; omega
  clear hr k1 k2 k3 k4 k5 k6 k9 k11 k12 k13 hO s1 s4 s5 s6 hN hns hts hgv
  generalize textL i = y1 at *
  generalize numL ls.length = y2 at *
  generalize ho : (⟨i, ls, c, z, s, (m1 : Int), (m2 : Int), g, (m3 : Int), (m4 : Int)⟩ : Od) = o at *
  have HOD := Lib.hid ho
  have cellsO : ∀ (W : World), OdB W w.heap.size oa oc o → ((W.cell? ⟨w.heap.size, 0, none⟩ = some (.string i) ∧ W.cell? ⟨w.heap.size, 1, none⟩ = some (.slice oa ls.length oc) ∧ W.cell? ⟨w.heap.size, 2, none⟩ = some (.string c) ∧ W.cell? ⟨w.heap.size, 3, none⟩ = some (.string z) ∧ W.cell? ⟨w.heap.size, 4, none⟩ = some (.string s)) ∧
      W.cell? ⟨w.heap.size, 5, none⟩ = some (.int .i64 (m1 : Int)) ∧ W.cell? ⟨w.heap.size, 6, none⟩ = some (.int .i64 (m2 : Int)) ∧ W.cell? ⟨w.heap.size, 7, none⟩ = some (.bool g) ∧ W.cell? ⟨w.heap.size, 8, none⟩ = some (.int .i64 (m3 : Int)) ∧ W.cell? ⟨w.heap.size, 9, none⟩ = some (.int .i64 (m4 : Int))) := by
    intro W h
    rw [← HOD.out] at h
    exact h.cells
  have CO := Lib.hid cellsO
  clear cellsO
  have hov : odV oa oc o = .agg #[.string i, .slice oa ls.length oc, .string c, .string z, .string s, .int .i64 (m1 : Int), .int .i64 (m2 : Int), .bool g, .int .i64 (m3 : Int), .int .i64 (m4 : Int)] := by rw [← ho]; rfl
  rw [hov]
  clear ho hov
  obtain ⟨⟨c0, c1, c2, c3, c4⟩, c5, c6, c7, c8, c9⟩ := CO.out _ P0.out.ord
  go_enter Try.func15, Try.ntmps15
  go_wp2_with fail
  clear c0 c1 c2 c3 c4 c5 c6 c7 c8 c9
  generalize w.alloc (Obj.cells #[Value.string i, Value.slice oa ls.length oc, Value.string c, Value.string z, Value.string s, Value.int .i64 (m1 : Int), Value.int .i64 (m2 : Int), Value.bool g, Value.int .i64 (m3 : Int), Value.int .i64 (m4 : Int)] 28) = W0 at *
  refine (C1.out _).mono ?_
  rintro e w1 ⟨v1, rfl, o1, b1⟩
  have P1 : Hid (PutI w oa oc o y1 v1 w1) := Lib.hid (by
    have q := P0.out.below b1
    exact ⟨o1.base P0.out.few, q.ord, q.low, q.few⟩)
  clear o1 b1 P0
  obtain ⟨⟨c0, c1, c2, c3, c4⟩, c5, c6, c7, c8, c9⟩ := CO.out _ P1.out.ord
  go_wp2_with fail
  clear c0 c1 c2 c3 c4 c5 c6 c7 c8 c9
  refine (C2.out _).mono ?_
  rintro e x2 ⟨u22, rfl, q2, b2⟩
  obtain ⟨a2, p2, e2, h2⟩ := q2.bytes Y2.out
  subst e2
  have D2 := Lib.hid (P1.out.below b2)
  have H2 := Lib.hid h2
  clear q2 b2 h2
  go_wp2_with (at_builtin; go_must (refine wpList_append_bytes rfl _ _ rfl (w.heap.size + 1) v1 (y1) y2 rfl D2.out.own a2 p2 rfl H2.out (by omega) D2.out.few ?_))
  rintro v2 w2 o2 g2
  have P2 := Lib.hid (D2.out.put o2 g2)
  clear o2 g2 D2 H2
  obtain ⟨⟨c0, c1, c2, c3, c4⟩, c5, c6, c7, c8, c9⟩ := CO.out _ P2.out.ord
  have HL2 := Lib.hid (show (y1 ++ y2).length ≤ 1100 by rw [List.length_append]; omega)
  go_wp2_with fail
  clear c0 c1 c2 c3 c4 c5 c6 c7 c8 c9
  go_loopw [3, 24] (fun v i wr => ∃ (k : Nat) (acc : List Nat), k ≤ ls.length ∧ i = .int .i64 k ∧ Hid (PutI w oa oc o acc v wr) ∧ Hid (acc ++ linesL (ls.drop k) = (y1 ++ y2) ++ linesL ls) ∧ acc.length ≤ 1100 + 100 * k) (fun _ i _ => ls.length - (intOf i).toNat)
  case atStart => exact ⟨0, y1 ++ y2, Nat.zero_le _, rfl, P2, Lib.hid rfl, HL2.out⟩
  case round =>
    obtain ⟨k, acc, hk, rfl, PR, HS, hac⟩ := hrel
    by_cases hlt : k < ls.length
    · have HLR := Lib.hid (HLN.out.below PR.out.low)
      obtain ⟨b, of, eo, hbl, r1, r2, r3, _⟩ := HLR.out.at k hlt
      subst eo
      have pc := HLR.out.cap
      have hlb := HLB.out _ (List.getElem_mem hlt)
      obtain ⟨z0, z1, z2, z3, z4⟩ := lineB_of hlb
      have HD := Lib.hid (show linesL (ls.drop k) = lineL ls[k] ++ linesL (ls.drop (k + 1)) by rw [List.drop_eq_getElem_cons hlt, linesL_cons])
      generalize ls[k] = x at *
      have zs := right_32 (s := x.sku) z0
      obtain ⟨n1, e1, t1, q1⟩ := wrap_64 x.qty (by omega) (by omega)
      obtain ⟨n2, e2, t2, q2⟩ := wrap_64 x.wt (by omega) (by omega)
      have C5 := Lib.hid (fun W => refText_any x.sku W (by omega))
      have C6 := Lib.hid (fun W => refNumber_any n1 W q1)
      have C7 := Lib.hid (fun W => refNumber_any n2 W q2)
      have hy5l := textL_32 zs
      have hy6l := numL_ten q1
      have hy7l := numL_ten q2
      have Y5 := Lib.hid (textL_bytes x.sku)
      have Y6 := Lib.hid (numL_bytes n1)
      have Y7 := Lib.hid (numL_bytes n2)
      have HN := Lib.hid (show (((acc ++ textL x.sku) ++ numL n1) ++ numL n2) ++ linesL (ls.drop (k + 1)) = (y1 ++ y2) ++ linesL ls by
        rw [← HS.out, HD.out]
        simp [lineL, t1, t2])
      clear t1 t2 q1 q2 z0 z1 z2 z3 z4 zs hlb HD HS
      generalize textL x.sku = y5 at *
      generalize numL n1 = y6 at *
      generalize numL n2 = y7 at *
      have A5 := Lib.hid (PR.out.below ((Below.refl _ wr).alloc (Nat.le_refl _) (Obj.cells #[Value.string x.sku, Value.int IntKind.i64 x.qty, Value.int IntKind.i64 x.wt] 34)))
      have RX : Hid (Row (wr.alloc (Obj.cells #[Value.string x.sku, Value.int IntKind.i64 x.qty, Value.int IntKind.i64 x.wt] 34)) wr.heap.size 34 #[.string x.sku, .int .i64 x.qty, .int .i64 x.wt]) := Lib.hid (heap_alloc_new _ _)
      go_wp2_with fail
      generalize wr.alloc (Obj.cells #[Value.string x.sku, Value.int IntKind.i64 x.qty, Value.int IntKind.i64 x.wt] 34) = W5 at *
      refine (C5.out _).mono ?_
      rintro e x5 ⟨u55, rfl, q5, b5⟩
      obtain ⟨a5, p5, e5, h5⟩ := q5.bytes Y5.out
      subst e5
      have D5 := Lib.hid (A5.out.below b5)
      have H5 := Lib.hid h5
      have RXd := Lib.hid (RX.out.below b5)
      clear q5 b5 h5
      go_wp2_with (at_builtin; go_must (refine wpList_append_bytes rfl _ _ rfl (w.heap.size + 1) u3 (acc) y5 rfl D5.out.own a5 p5 rfl H5.out (by omega) D5.out.few ?_))
      rintro v5 w5 o5 g5
      have P5 := Lib.hid (D5.out.put o5 g5)
      have RXp := Lib.hid (RXd.out.own D5.out.own (by decide) g5)
      clear o5 g5 D5 H5
      clear RX RXd A5
      obtain ⟨⟨c0, c1, c2⟩, f0, f1, f2⟩ := cellsR3 RXp.out
      go_wp2_with fail
      clear c0 c1 c2 f0 f1 f2
      refine (C6.out _).mono ?_
      rintro e x6 ⟨u66, rfl, q6, b6⟩
      obtain ⟨a6, p6, e6, h6⟩ := q6.bytes Y6.out
      subst e6
      have D6 := Lib.hid (P5.out.below b6)
      have H6 := Lib.hid h6
      have RXpd := Lib.hid (RXp.out.below b6)
      clear q6 b6 h6
      go_wp2_with (at_builtin; go_must (refine wpList_append_bytes rfl _ _ rfl (w.heap.size + 1) v5 (acc ++ y5) y6 rfl D6.out.own a6 p6 rfl H6.out (by rw [List.length_append]; omega) D6.out.few ?_))
      rintro v6 w6 o6 g6
      have P6 := Lib.hid (D6.out.put o6 g6)
      have RXpp := Lib.hid (RXpd.out.own D6.out.own (by decide) g6)
      clear o6 g6 D6 H6
      clear RXp RXpd P5
      obtain ⟨⟨c0, c1, c2⟩, f0, f1, f2⟩ := cellsR3 RXpp.out
      go_wp2_with fail
      clear c0 c1 c2 f0 f1 f2
      refine (C7.out _).mono ?_
      rintro e x7 ⟨u77, rfl, q7, b7⟩
      obtain ⟨a7, p7, e7, h7⟩ := q7.bytes Y7.out
      subst e7
      have D7 := Lib.hid (P6.out.below b7)
      have H7 := Lib.hid h7
      clear q7 b7 h7
      go_wp2_with (at_builtin; go_must (refine wpList_append_bytes rfl _ _ rfl (w.heap.size + 1) v6 (acc ++ (y5 ++ y6)) y7 rfl D7.out.own a7 p7 rfl H7.out (by rw [List.length_append, List.length_append]; omega) D7.out.few ?_))
      rintro v7 w7 o7 g7
      have P7 := Lib.hid (D7.out.put o7 g7)
      clear o7 g7 D7 H7
      clear RXpp P6
      have HL7 := Lib.hid (show (((acc ++ y5) ++ y6) ++ y7).length ≤ 1100 + 100 * (k + 1) by rw [List.length_append, List.length_append, List.length_append]; omega)
      go_wp2_with fail
      go_roundw
      case rel => exact ⟨k + 1, ((acc ++ y5) ++ y6) ++ y7, by omega, by go_num, (by simpa only [List.append_assoc] using P7), HN, HL7.out⟩
      case measure => simp [intOf]; omega
    · have HE := Lib.hid (show acc = (y1 ++ y2) ++ linesL ls by
        have := HS.out
        rw [List.drop_eq_nil_of_le (by omega)] at this
        simpa [linesL] using this)
      have A8 := Lib.hid (PR.out.below ((Below.refl _ wr).alloc (Nat.le_refl _) (Obj.cells #[Value.string c, Value.string z, Value.string s] 9)))
      have RT : Hid (Row (wr.alloc (Obj.cells #[Value.string c, Value.string z, Value.string s] 9)) wr.heap.size 9 (ts.map Value.string).toArray) := Lib.hid (by rw [← HTS.out]; exact heap_alloc_new _ _)
      obtain ⟨⟨c0, c1, c2, c3, c4⟩, c5, c6, c7, c8, c9⟩ := CO.out _ PR.out.ord
      have HL8 := Lib.hid (show acc.length ≤ 2000 by omega)
      have HK8 := Lib.hid hac
      go_wp2_with fail
      clear c0 c1 c2 c3 c4 c5 c6 c7 c8 c9 PR HS HL2 hac
      generalize wr.alloc (Obj.cells #[Value.string c, Value.string z, Value.string s] 9) = W8 at *
      generalize wr.heap.size = XX at *
      generalize acc = acc0 at *
      go_loopw [3, 57] (fun v i wr => ∃ (k : Nat) (acc : List Nat), k ≤ 3 ∧ i = .int .i64 k ∧ Hid (PutI w oa oc o acc v wr) ∧ Hid (Row wr XX 9 (ts.map Value.string).toArray) ∧ Hid (acc ++ textsL (ts.drop k) = acc0 ++ textsL ts) ∧ acc.length ≤ 2000 + 50 * k) (fun _ i _ => 3 - (intOf i).toNat)
      case atStart => exact ⟨0, acc0, Nat.zero_le _, rfl, A8, RT, Lib.hid rfl, HL8.out⟩
      case round =>
        obtain ⟨k, acc, hk, rfl, PR, RT, HS, hac⟩ := hrel
        cases hlt : decide ((k : Int) < 3) with
        | true =>
          have hlt' : k < 3 := by simp at hlt; omega
          have hkt : k < ts.length := by omega
          have ct := RT.out.nth k hkt
          have hx := HT32.out _ (List.getElem_mem hkt)
          have HD := Lib.hid (textsL_drop hkt)
          generalize ts[k] = x at *
          have C9 := Lib.hid (fun W => refText_any x W (by omega))
          have hy9l := textL_32 hx
          have Y9 := Lib.hid (textL_bytes x)
          have HN := Lib.hid (show (acc ++ textL x) ++ textsL (ts.drop (k + 1)) = acc0 ++ textsL ts by rw [← HS.out, HD.out, List.append_assoc])
          clear HD HS hx
          generalize textL x = y9 at *
          go_wp2_with fail
          refine (C9.out _).mono ?_
          rintro e x9 ⟨u99, rfl, q9, b9⟩
          obtain ⟨a9, p9, e9, h9⟩ := q9.bytes Y9.out
          subst e9
          have D9 := Lib.hid (PR.out.below b9)
          have H9 := Lib.hid h9
          have RTd := Lib.hid (RT.out.below b9)
          clear q9 b9 h9
          go_wp2_with (at_builtin; go_must (refine wpList_append_bytes rfl _ _ rfl (w.heap.size + 1) u3 (acc) y9 rfl D9.out.own a9 p9 rfl H9.out (by omega) D9.out.few ?_))
          rintro v9 w9 o9 g9
          have P9 := Lib.hid (D9.out.put o9 g9)
          have RTp := Lib.hid (RTd.out.own D9.out.own (by decide) g9)
          clear o9 g9 D9 H9
          have HL9 := Lib.hid (show (acc ++ y9).length ≤ 2000 + 50 * (k + 1) by rw [List.length_append]; omega)
          go_wp2_with fail
          go_roundw
          case rel => exact ⟨k + 1, acc ++ y9, by omega, by go_num, P9, RTp, HN, HL9.out⟩
          case measure => simp [intOf]; omega
        | false =>
          have hlt' : ¬ k < 3 := by simp at hlt; omega
          have HE2 := Lib.hid (show acc = acc0 ++ textsL ts by
            have := HS.out
            rw [List.drop_eq_nil_of_le (by omega)] at this
            simpa [textsL] using this)
          have HL10 := Lib.hid (show acc.length ≤ 3000 by omega)
          clear HS hac RT
          obtain ⟨⟨c0, c1, c2, c3, c4⟩, c5, c6, c7, c8, c9⟩ := CO.out _ PR.out.ord
          have RN : Hid (Row (wr.alloc (Obj.cells #[Value.int .i64 (m1 : Int), Value.int .i64 (m2 : Int), Value.int .i64 (gv : Int), Value.int .i64 (m3 : Int), Value.int .i64 (m4 : Int)] 2)) wr.heap.size 2 (ns.map fun n : Nat => Value.int .i64 (n : Int)).toArray) := Lib.hid (by rw [← HNN.out]; exact heap_alloc_new _ _)
          have A10 := Lib.hid (PR.out.below ((Below.refl _ wr).alloc (Nat.le_refl _) (Obj.cells #[Value.int .i64 (m1 : Int), Value.int .i64 (m2 : Int), Value.int .i64 (gv : Int), Value.int .i64 (m3 : Int), Value.int .i64 (m4 : Int)] 2)))
          have hgv := HGV.out
          cases g
          case' false => obtain rfl : 0 = gv := hgv
          case' true => obtain rfl : 1 = gv := hgv
          all_goals
            go_wp2_with fail
            clear c0 c1 c2 c3 c4 c5 c6 c7 c8 c9 PR
            first | generalize wr.alloc (Obj.cells #[Value.int .i64 (m1 : Int), Value.int .i64 (m2 : Int), Value.int .i64 0, Value.int .i64 (m3 : Int), Value.int .i64 (m4 : Int)] 2) = W10 at * | generalize wr.alloc (Obj.cells #[Value.int .i64 (m1 : Int), Value.int .i64 (m2 : Int), Value.int .i64 1, Value.int .i64 (m3 : Int), Value.int .i64 (m4 : Int)] 2) = W10 at *
            generalize wr.heap.size = YY at *
            generalize acc = acc1 at *
            go_loopw [3, 82] (fun v i wr => ∃ (k : Nat) (acc : List Nat), k ≤ 5 ∧ i = .int .i64 k ∧ Hid (PutI w oa oc o acc v wr) ∧ Hid (Row wr YY 2 (ns.map fun n : Nat => Value.int .i64 (n : Int)).toArray) ∧ Hid (acc ++ numsL (ns.drop k) = acc1 ++ numsL ns) ∧ acc.length ≤ 3000 + 50 * k) (fun _ i _ => 5 - (intOf i).toNat)
            case atStart => exact ⟨0, acc1, Nat.zero_le _, rfl, A10, RN, Lib.hid rfl, HL10.out⟩
            case round =>
              obtain ⟨k, acc, hk, rfl, PR, RT, HS, hac⟩ := hrel
              cases hlt : decide ((k : Int) < 5) with
              | true =>
                have hlt' : k < 5 := by simp at hlt; omega
                have hkt : k < ns.length := by omega
                have ct := RT.out.nth k hkt
                have hx := HNS.out _ (List.getElem_mem hkt)
                have HD := Lib.hid (numsL_drop hkt)
                generalize ns[k] = x at *
                have ex : IntKind.u64.wrap (x : Int) = (x : Int) := by rw [IntKind.wrap_u64]; omega
                have C11 := Lib.hid (fun W => refNumber_any x W (by omega))
                have hy11l := numL_ten (show x < 18446744073709551616 by omega)
                have Y11 := Lib.hid (numL_bytes x)
                have HN := Lib.hid (show (acc ++ numL x) ++ numsL (ns.drop (k + 1)) = acc1 ++ numsL ns by rw [← HS.out, HD.out, List.append_assoc])
                clear HD HS hx
                generalize numL x = y11 at *
                go_wp2_with fail
                refine (C11.out _).mono ?_
                rintro e x11 ⟨u121, rfl, q11, b11⟩
                obtain ⟨a11, p11, e11, h11⟩ := q11.bytes Y11.out
                subst e11
                have D11 := Lib.hid (PR.out.below b11)
                have H11 := Lib.hid h11
                have RTd := Lib.hid (RT.out.below b11)
                clear q11 b11 h11
                go_wp2_with (at_builtin; go_must (refine wpList_append_bytes rfl _ _ rfl (w.heap.size + 1) u3 (acc) y11 rfl D11.out.own a11 p11 rfl H11.out (by omega) D11.out.few ?_))
                rintro v11 w11 o11 g11
                have P11 := Lib.hid (D11.out.put o11 g11)
                have RTp := Lib.hid (RTd.out.own D11.out.own (by decide) g11)
                clear o11 g11 D11 H11
                have HL11 := Lib.hid (show (acc ++ y11).length ≤ 3000 + 50 * (k + 1) by rw [List.length_append]; omega)
                go_wp2_with fail
                go_roundw
                case rel => exact ⟨k + 1, acc ++ y11, by omega, by go_num, P11, RTp, HN, HL11.out⟩
                case measure => simp [intOf]; omega
              | false =>
                have hlt' : ¬ k < 5 := by simp at hlt; omega
                have HE3 := Lib.hid (show acc = acc1 ++ numsL ns by
                  have := HS.out
                  rw [List.drop_eq_nil_of_le (by omega)] at this
                  simpa [numsL] using this)
                go_wp2_with fail
                go_ret
                refine ⟨_, rfl, ?_, PR.out.low⟩
                rw [HF.out, ← HE.out, ← HE2.out, ← HE3.out]
                exact PR.out.own.base (by omega)

end Go.Proofs.Ytpmgafmbmjokhaa
