/- What SnapStates wants besides: OrRef, BtRef, ObRefB, SnRef2, SnRef3, SnRef4. -/
import Derived.Test.YtfmpibmhhfmajaaGreatDoorPOr
import Derived.Test.YtfmpibmhhfmajaaGreatDoorPBt
import Derived.Test.YtfmpibmhhfmajaaGreatDoorPOb
import Derived.Test.YtfmpibmhhfmajaaGreatDoorSnLay
import Derived.Test.YtfmpibmhhfmajaaGreatDoorMgStates
import Derived.Deep.DeepCutAuto
import Derived.Deep.QuietTactic
import Derived.Test.YtfmpibmhhfmajaaGreatDoorSnPlain2
import Derived.Test.YtfmpibmhhfmajaaGreatDoorPDy
import Derived.Deep.RegionHeld3
import Derived.Test.YtfmpibmhhfmajaaGreatDoorSnRef3
import Derived.Test.YtfmpibmhhfmajaaGreatDoorMgBase
import Derived.Test.YtfmpibmhhfmajaaGreatDoorPLb
import Derived.Test.YtfmpibmhhfmajaaGreatDoorLbShelf
import Derived.Test.YtfmpibmhhfmajaaGreatDoorPSl
import Derived.Test.YtfmpibmhhfmajaaGreatDoorMgLines
import Derived.Test.YtfmpibmhhfmajaaGreatDoorMgOrders
import Derived.Test.YtfmpibmhhfmajaaGreatDoorMgBatches
import Derived.Test.YtfmpibmhhfmajaaGreatDoorMgEffects
import Derived.Test.YtfmpibmhhfmajaaGreatDoorDyShelf
import Derived.Test.YtfmpibmhhfmajaaGreatDoorMgState
import Derived.Test.YtfmpibmhhfmajaaGreatDoorMgRight
import Derived.Test.YtfmpibmhhfmajaaGreatDoorMgProg
import Derived.Test.YtfmpibmhhfmajaaGreatDoorMgCopy
import Derived.Test.YtfmpibmhhfmajaaGreatDoorPSc
import Derived.Test.YtfmpibmhhfmajaaGreatDoorSnPlain
import Derived.Test.YtfmpibmhhfmajaaGreatDoorSnRef4
import Derived.Test.YtfmpibmhhfmajaaGreatDoorSnKinds
import Derived.Test.YtfmpibmhhfmajaaGreatDoorSnLines
import Derived.Test.YtfmpibmhhfmajaaGreatDoorSnTold
import Derived.Test.YtfmpibmhhfmajaaGreatDoorSnRight
import Derived.Test.YtfmpibmhhfmajaaGreatDoorSnCon
import Derived.Test.YtfmpibmhhfmajaaGreatDoorSnRow
import Derived.Test.YtfmpibmhhfmajaaGreatDoorSnOwn
import Derived.Test.YtfmpibmhhfmajaaGreatDoorSnRead0
import Derived.Test.YtfmpibmhhfmajaaGreatDoorSnReadP
import Derived.Test.YtfmpibmhhfmajaaGreatDoorSnReadP2
import Derived.Test.YtfmpibmhhfmajaaGreatDoorSnReadP3
import Derived.Test.YtfmpibmhhfmajaaGreatDoorSnReadD
import Derived.Test.YtfmpibmhhfmajaaGreatDoorSnCmd
import Derived.Test.YtfmpibmhhfmajaaGreatDoorSnState
import Derived.Test.YtfmpibmhhfmajaaGreatDoorSnAlive
import Derived.Test.YtfmpibmhhfmajaaGreatDoorRSnapStatesA
import Derived.Test.YtfmpibmhhfmajaaGreatDoorRSnapStatesB
namespace Go.Proofs.YtfmpibmhhfmajaaGreatDoor

/- OrRef: What the document's Bytes of an order answers, at every order that can be. -/
section
open Go.RowKit Go.ChangeShapes Go.WideShapes Go.ChangeAt

set_option maxRecDepth 100000 in
set_option maxHeartbeats 8000000 in
theorem refBytes_any (oa : Option Addr) (oc : Nat) (o : Od) (w : World) (hO : OdP w oa oc o) (hr : rightO o = true) :
    Calls Tryz.prog 68 #[odV oa oc o] w (OwnPost (orderL o) w) := by
  obtain ⟨k1, k2, k3, k11, k12, k13⟩ := rightO_of hr
  obtain ⟨k4, k5, k6⟩ := groupB_of k2
  obtain ⟨⟨k7, k8⟩, k9, _⟩ := (rightLB_iff _).1 k3
  have s1 := right_32 k1
  have s4 := right_32 k4
  have s5 := right_32 k5
  have s6 := right_32 k6
  have HLB := Lib.hid k9
  obtain ⟨i, ls, c, z, s, t, p, g, r, bt⟩ := o
  have HLN := Lib.hid hO.lns
  dsimp only at *
  obtain ⟨m1, rfl⟩ : ∃ m : Nat, t = (m : Int) := ⟨t.toNat, by omega⟩
  obtain ⟨m2, rfl⟩ : ∃ m : Nat, p = (m : Int) := ⟨p.toNat, by omega⟩
  obtain ⟨m3, rfl⟩ : ∃ m : Nat, r = (m : Int) := ⟨r.toNat, by omega⟩
  obtain ⟨m4, rfl⟩ : ∃ m : Nat, bt = (m : Int) := ⟨bt.toNat, by omega⟩
  obtain ⟨gv, hgv⟩ : ∃ n, givenN g = n := ⟨_, rfl⟩
  have hg1 : gv ≤ 1 := by rw [← hgv]; exact givenN_le g
  have hN : ∀ n ∈ [m1, m2, gv, m3, m4], n ≤ 1000000000000 := by
    intro n hn
    simp only [List.mem_cons, List.not_mem_nil, or_false] at hn
    rcases hn with rfl | rfl | rfl | rfl | rfl <;> omega
  obtain ⟨ns, hns⟩ : ∃ ns, [m1, m2, gv, m3, m4] = ns := ⟨_, rfl⟩
  have hnl : ns.length = 5 := by rw [← hns]; rfl
  obtain ⟨ts, hts⟩ : ∃ ts, [c, z, s] = ts := ⟨_, rfl⟩
  have htl : ts.length = 3 := by rw [← hts]; rfl
  have HT32 := Lib.hid (show ∀ x ∈ ts, x.size ≤ 32 by
    rw [← hts]
    intro x hx
    simp only [List.mem_cons, List.not_mem_nil, or_false] at hx
    rcases hx with rfl | rfl | rfl <;> assumption)
  rw [hns] at hN
  have HNS := Lib.hid hN
  have HF := Lib.hid (show orderL ⟨i, ls, c, z, s, (m1 : Int), (m2 : Int), g, (m3 : Int), (m4 : Int)⟩ = (((textL i ++ numL ls.length) ++ linesL ls) ++ textsL ts) ++ numsL ns by
    rw [← hns, ← hts, ← hgv]
    simp [orderL, textsL, numsL])
  have HTS := Lib.hid hts
  have HNN := Lib.hid hns
  have HGV := Lib.hid hgv
  have C1 := Lib.hid (fun W => refText_any i W (by omega))
  have hy1l := textL_32 s1
  have Y1 := Lib.hid (textL_bytes i)
  have C2 := Lib.hid (fun W => refNumber_any ls.length W (by omega))
  have hy2l := numL_ten (show ls.length < 18446744073709551616 by omega)
  have Y2 := Lib.hid (numL_bytes ls.length)
  have P0 : Hid (PutI w oa oc ⟨i, ls, c, z, s, (m1 : Int), (m2 : Int), g, (m3 : Int), (m4 : Int)⟩ [] (.slice none 0 0) (w.alloc (.cells #[.string i, .slice oa ls.length oc, .string c, .string z, .string s, .int .i64 (m1 : Int), .int .i64 (m2 : Int), .bool g, .int .i64 (m3 : Int), .int .i64 (m4 : Int)] 93))) := Lib.hid ⟨own_nil _ _, OdB.new _ _ _ ⟨i, ls, c, z, s, (m1 : Int), (m2 : Int), g, (m3 : Int), (m4 : Int)⟩, (Below.refl _ _).alloc (Nat.le_refl _) _, by simp⟩
  have hn2 : IntKind.u64.wrap (ls.length : Int) = (ls.length : Int) := by rw [IntKind.wrap_u64]; omega
  clear hr k1 k2 k3 k4 k5 k6 k9 k11 k12 k13 hO s1 s4 s5 s6 hN hns hts hgv
  generalize textL i = y1 at *
  generalize numL ls.length = y2 at *
  generalize ho : (⟨i, ls, c, z, s, (m1 : Int), (m2 : Int), g, (m3 : Int), (m4 : Int)⟩ : Od) = o at *
  have HOD := Lib.hid ho
  have cellsO : ∀ (W : World), OdB W w.heap.size oa oc o → ((W.cell? ⟨w.heap.size, 0, none⟩ = some (.string i) ∧ W.cell? ⟨w.heap.size, 1, none⟩ = some (.slice oa ls.length oc) ∧ W.cell? ⟨w.heap.size, 2, none⟩ = some (.string c) ∧ W.cell? ⟨w.heap.size, 3, none⟩ = some (.string z) ∧ W.cell? ⟨w.heap.size, 4, none⟩ = some (.string s)) ∧
      W.cell? ⟨w.heap.size, 5, none⟩ = some (.int .i64 (m1 : Int)) ∧ W.cell? ⟨w.heap.size, 6, none⟩ = some (.int .i64 (m2 : Int)) ∧ W.cell? ⟨w.heap.size, 7, none⟩ = some (.bool g) ∧ W.cell? ⟨w.heap.size, 8, none⟩ = some (.int .i64 (m3 : Int)) ∧ W.cell? ⟨w.heap.size, 9, none⟩ = some (.int .i64 (m4 : Int))) := by
    intro W h
    rw [← HOD.out] at h
    exact h.cells
  have CO := Lib.hid cellsO
  clear cellsO
  have hov : odV oa oc o = .agg #[.string i, .slice oa ls.length oc, .string c, .string z, .string s, .int .i64 (m1 : Int), .int .i64 (m2 : Int), .bool g, .int .i64 (m3 : Int), .int .i64 (m4 : Int)] := by rw [← ho]; rfl
  rw [hov]
  clear ho hov
  obtain ⟨⟨c0, c1, c2, c3, c4⟩, c5, c6, c7, c8, c9⟩ := CO.out _ P0.out.ord
  go_enter Tryz.func68, Tryz.ntmps68
  go_wp2_with fail
  clear c0 c1 c2 c3 c4 c5 c6 c7 c8 c9
  generalize w.alloc (Obj.cells #[Value.string i, Value.slice oa ls.length oc, Value.string c, Value.string z, Value.string s, Value.int .i64 (m1 : Int), Value.int .i64 (m2 : Int), Value.bool g, Value.int .i64 (m3 : Int), Value.int .i64 (m4 : Int)] 93) = W0 at *
  refine (C1.out _).mono ?_
  rintro e w1 ⟨v1, rfl, o1, b1⟩
  have P1 : Hid (PutI w oa oc o y1 v1 w1) := Lib.hid (by
    have q := P0.out.below b1
    exact ⟨o1.base P0.out.few, q.ord, q.low, q.few⟩)
  clear o1 b1 P0
  obtain ⟨⟨c0, c1, c2, c3, c4⟩, c5, c6, c7, c8, c9⟩ := CO.out _ P1.out.ord
  go_wp2_with fail
  clear c0 c1 c2 c3 c4 c5 c6 c7 c8 c9
  refine (C2.out _).mono ?_
  rintro e x2 ⟨u22, rfl, q2, b2⟩
  obtain ⟨a2, p2, e2, h2⟩ := q2.bytes Y2.out
  subst e2
  have D2 := Lib.hid (P1.out.below b2)
  have H2 := Lib.hid h2
  clear q2 b2 h2
  go_wp2_with (at_builtin; go_must (refine wpList_append_bytes rfl _ _ rfl (w.heap.size + 1) v1 (y1) y2 rfl D2.out.own a2 p2 rfl H2.out (by omega) D2.out.few ?_))
  rintro v2 w2 o2 g2
  have P2 := Lib.hid (D2.out.put o2 g2)
  clear o2 g2 D2 H2
  obtain ⟨⟨c0, c1, c2, c3, c4⟩, c5, c6, c7, c8, c9⟩ := CO.out _ P2.out.ord
  have HL2 := Lib.hid (show (y1 ++ y2).length ≤ 1100 by rw [List.length_append]; omega)
  go_wp2_with fail
  clear c0 c1 c2 c3 c4 c5 c6 c7 c8 c9
  go_loopw [3, 24] (fun v i wr => ∃ (k : Nat) (acc : List Nat), k ≤ ls.length ∧ i = .int .i64 k ∧ Hid (PutI w oa oc o acc v wr) ∧ Hid (acc ++ linesL (ls.drop k) = (y1 ++ y2) ++ linesL ls) ∧ acc.length ≤ 1100 + 100 * k) (fun _ i _ => ls.length - (intOf i).toNat)
  case atStart => exact ⟨0, y1 ++ y2, Nat.zero_le _, rfl, P2, Lib.hid rfl, HL2.out⟩
  case round =>
    obtain ⟨k, acc, hk, rfl, PR, HS, hac⟩ := hrel
    by_cases hlt : k < ls.length
    · have HLR := Lib.hid (HLN.out.below PR.out.low)
      obtain ⟨b, of, eo, hbl, r1, r2, r3, _⟩ := HLR.out.at k hlt
      subst eo
      have pc := HLR.out.cap
      have hlb := HLB.out _ (List.getElem_mem hlt)
      obtain ⟨z0, z1, z2, z3, z4⟩ := lineB_of hlb
      have HD := Lib.hid (show linesL (ls.drop k) = lineL ls[k] ++ linesL (ls.drop (k + 1)) by rw [List.drop_eq_getElem_cons hlt, linesL_cons])
      generalize ls[k] = x at *
      have zs := right_32 (s := x.sku) z0
      obtain ⟨n1, e1, t1, q1⟩ := wrap_64 x.qty (by omega) (by omega)
      obtain ⟨n2, e2, t2, q2⟩ := wrap_64 x.wt (by omega) (by omega)
      have C5 := Lib.hid (fun W => refText_any x.sku W (by omega))
      have C6 := Lib.hid (fun W => refNumber_any n1 W q1)
      have C7 := Lib.hid (fun W => refNumber_any n2 W q2)
      have hy5l := textL_32 zs
      have hy6l := numL_ten q1
      have hy7l := numL_ten q2
      have Y5 := Lib.hid (textL_bytes x.sku)
      have Y6 := Lib.hid (numL_bytes n1)
      have Y7 := Lib.hid (numL_bytes n2)
      have HN := Lib.hid (show (((acc ++ textL x.sku) ++ numL n1) ++ numL n2) ++ linesL (ls.drop (k + 1)) = (y1 ++ y2) ++ linesL ls by
        rw [← HS.out, HD.out]
        simp [lineL, t1, t2])
      clear t1 t2 q1 q2 z0 z1 z2 z3 z4 zs hlb HD HS
      generalize textL x.sku = y5 at *
      generalize numL n1 = y6 at *
      generalize numL n2 = y7 at *
      have A5 := Lib.hid (PR.out.below ((Below.refl _ wr).alloc (Nat.le_refl _) (Obj.cells #[Value.string x.sku, Value.int IntKind.i64 x.qty, Value.int IntKind.i64 x.wt] 72)))
      have RX : Hid (Row (wr.alloc (Obj.cells #[Value.string x.sku, Value.int IntKind.i64 x.qty, Value.int IntKind.i64 x.wt] 72)) wr.heap.size 72 #[.string x.sku, .int .i64 x.qty, .int .i64 x.wt]) := Lib.hid (heap_alloc_new _ _)
      go_wp2_with fail
      generalize wr.alloc (Obj.cells #[Value.string x.sku, Value.int IntKind.i64 x.qty, Value.int IntKind.i64 x.wt] 72) = W5 at *
      refine (C5.out _).mono ?_
      rintro e x5 ⟨u55, rfl, q5, b5⟩
      obtain ⟨a5, p5, e5, h5⟩ := q5.bytes Y5.out
      subst e5
      have D5 := Lib.hid (A5.out.below b5)
      have H5 := Lib.hid h5
      have RXd := Lib.hid (RX.out.below b5)
      clear q5 b5 h5
      go_wp2_with (at_builtin; go_must (refine wpList_append_bytes rfl _ _ rfl (w.heap.size + 1) u3 (acc) y5 rfl D5.out.own a5 p5 rfl H5.out (by omega) D5.out.few ?_))
      rintro v5 w5 o5 g5
      have P5 := Lib.hid (D5.out.put o5 g5)
      have RXp := Lib.hid (RXd.out.own D5.out.own (by decide) g5)
      clear o5 g5 D5 H5
      clear RX RXd A5
      obtain ⟨⟨c0, c1, c2⟩, f0, f1, f2⟩ := cellsR3 RXp.out
      go_wp2_with fail
      clear c0 c1 c2 f0 f1 f2
      refine (C6.out _).mono ?_
      rintro e x6 ⟨u66, rfl, q6, b6⟩
      obtain ⟨a6, p6, e6, h6⟩ := q6.bytes Y6.out
      subst e6
      have D6 := Lib.hid (P5.out.below b6)
      have H6 := Lib.hid h6
      have RXpd := Lib.hid (RXp.out.below b6)
      clear q6 b6 h6
      go_wp2_with (at_builtin; go_must (refine wpList_append_bytes rfl _ _ rfl (w.heap.size + 1) v5 (acc ++ y5) y6 rfl D6.out.own a6 p6 rfl H6.out (by rw [List.length_append]; omega) D6.out.few ?_))
      rintro v6 w6 o6 g6
      have P6 := Lib.hid (D6.out.put o6 g6)
      have RXpp := Lib.hid (RXpd.out.own D6.out.own (by decide) g6)
      clear o6 g6 D6 H6
      clear RXp RXpd P5
      obtain ⟨⟨c0, c1, c2⟩, f0, f1, f2⟩ := cellsR3 RXpp.out
      go_wp2_with fail
      clear c0 c1 c2 f0 f1 f2
      refine (C7.out _).mono ?_
      rintro e x7 ⟨u77, rfl, q7, b7⟩
      obtain ⟨a7, p7, e7, h7⟩ := q7.bytes Y7.out
      subst e7
      have D7 := Lib.hid (P6.out.below b7)
      have H7 := Lib.hid h7
      clear q7 b7 h7
      go_wp2_with (at_builtin; go_must (refine wpList_append_bytes rfl _ _ rfl (w.heap.size + 1) v6 (acc ++ (y5 ++ y6)) y7 rfl D7.out.own a7 p7 rfl H7.out (by rw [List.length_append, List.length_append]; omega) D7.out.few ?_))
      rintro v7 w7 o7 g7
      have P7 := Lib.hid (D7.out.put o7 g7)
      clear o7 g7 D7 H7
      clear RXpp P6
      have HL7 := Lib.hid (show (((acc ++ y5) ++ y6) ++ y7).length ≤ 1100 + 100 * (k + 1) by rw [List.length_append, List.length_append, List.length_append]; omega)
      go_wp2_with fail
      go_roundw
      case rel => exact ⟨k + 1, ((acc ++ y5) ++ y6) ++ y7, by omega, by go_num, (by simpa only [List.append_assoc] using P7), HN, HL7.out⟩
      case measure => simp [intOf]; omega
    · have HE := Lib.hid (show acc = (y1 ++ y2) ++ linesL ls by
        have := HS.out
        rw [List.drop_eq_nil_of_le (by omega)] at this
        simpa [linesL] using this)
      have A8 := Lib.hid (PR.out.below ((Below.refl _ wr).alloc (Nat.le_refl _) (Obj.cells #[Value.string c, Value.string z, Value.string s] 9)))
      have RT : Hid (Row (wr.alloc (Obj.cells #[Value.string c, Value.string z, Value.string s] 9)) wr.heap.size 9 (ts.map Value.string).toArray) := Lib.hid (by rw [← HTS.out]; exact heap_alloc_new _ _)
      obtain ⟨⟨c0, c1, c2, c3, c4⟩, c5, c6, c7, c8, c9⟩ := CO.out _ PR.out.ord
      have HL8 := Lib.hid (show acc.length ≤ 2000 by omega)
      have HK8 := Lib.hid hac
      go_wp2_with fail
      clear c0 c1 c2 c3 c4 c5 c6 c7 c8 c9 PR HS HL2 hac
      generalize wr.alloc (Obj.cells #[Value.string c, Value.string z, Value.string s] 9) = W8 at *
      generalize wr.heap.size = XX at *
      generalize acc = acc0 at *
      go_loopw [3, 57] (fun v i wr => ∃ (k : Nat) (acc : List Nat), k ≤ 3 ∧ i = .int .i64 k ∧ Hid (PutI w oa oc o acc v wr) ∧ Hid (Row wr XX 9 (ts.map Value.string).toArray) ∧ Hid (acc ++ textsL (ts.drop k) = acc0 ++ textsL ts) ∧ acc.length ≤ 2000 + 50 * k) (fun _ i _ => 3 - (intOf i).toNat)
      case atStart => exact ⟨0, acc0, Nat.zero_le _, rfl, A8, RT, Lib.hid rfl, HL8.out⟩
      case round =>
        obtain ⟨k, acc, hk, rfl, PR, RT, HS, hac⟩ := hrel
        cases hlt : decide ((k : Int) < 3) with
        | true =>
          have hlt' : k < 3 := by simp at hlt; omega
          have hkt : k < ts.length := by omega
          have ct := RT.out.nth k hkt
          have hx := HT32.out _ (List.getElem_mem hkt)
          have HD := Lib.hid (textsL_drop hkt)
          generalize ts[k] = x at *
          have C9 := Lib.hid (fun W => refText_any x W (by omega))
          have hy9l := textL_32 hx
          have Y9 := Lib.hid (textL_bytes x)
          have HN := Lib.hid (show (acc ++ textL x) ++ textsL (ts.drop (k + 1)) = acc0 ++ textsL ts by rw [← HS.out, HD.out, List.append_assoc])
          clear HD HS hx
          generalize textL x = y9 at *
          go_wp2_with fail
          refine (C9.out _).mono ?_
          rintro e x9 ⟨u99, rfl, q9, b9⟩
          obtain ⟨a9, p9, e9, h9⟩ := q9.bytes Y9.out
          subst e9
          have D9 := Lib.hid (PR.out.below b9)
          have H9 := Lib.hid h9
          have RTd := Lib.hid (RT.out.below b9)
          clear q9 b9 h9
          go_wp2_with (at_builtin; go_must (refine wpList_append_bytes rfl _ _ rfl (w.heap.size + 1) u3 (acc) y9 rfl D9.out.own a9 p9 rfl H9.out (by omega) D9.out.few ?_))
          rintro v9 w9 o9 g9
          have P9 := Lib.hid (D9.out.put o9 g9)
          have RTp := Lib.hid (RTd.out.own D9.out.own (by decide) g9)
          clear o9 g9 D9 H9
          have HL9 := Lib.hid (show (acc ++ y9).length ≤ 2000 + 50 * (k + 1) by rw [List.length_append]; omega)
          go_wp2_with fail
          go_roundw
          case rel => exact ⟨k + 1, acc ++ y9, by omega, by go_num, P9, RTp, HN, HL9.out⟩
          case measure => simp [intOf]; omega
        | false =>
          have hlt' : ¬ k < 3 := by simp at hlt; omega
          have HE2 := Lib.hid (show acc = acc0 ++ textsL ts by
            have := HS.out
            rw [List.drop_eq_nil_of_le (by omega)] at this
            simpa [textsL] using this)
          have HL10 := Lib.hid (show acc.length ≤ 3000 by omega)
          clear HS hac RT
          obtain ⟨⟨c0, c1, c2, c3, c4⟩, c5, c6, c7, c8, c9⟩ := CO.out _ PR.out.ord
          have RN : Hid (Row (wr.alloc (Obj.cells #[Value.int .i64 (m1 : Int), Value.int .i64 (m2 : Int), Value.int .i64 (gv : Int), Value.int .i64 (m3 : Int), Value.int .i64 (m4 : Int)] 2)) wr.heap.size 2 (ns.map fun n : Nat => Value.int .i64 (n : Int)).toArray) := Lib.hid (by rw [← HNN.out]; exact heap_alloc_new _ _)
          have A10 := Lib.hid (PR.out.below ((Below.refl _ wr).alloc (Nat.le_refl _) (Obj.cells #[Value.int .i64 (m1 : Int), Value.int .i64 (m2 : Int), Value.int .i64 (gv : Int), Value.int .i64 (m3 : Int), Value.int .i64 (m4 : Int)] 2)))
          have hgv := HGV.out
          cases g
          case' false => obtain rfl : 0 = gv := hgv
          case' true => obtain rfl : 1 = gv := hgv
          all_goals
            go_wp2_with fail
            clear c0 c1 c2 c3 c4 c5 c6 c7 c8 c9 PR
            first | generalize wr.alloc (Obj.cells #[Value.int .i64 (m1 : Int), Value.int .i64 (m2 : Int), Value.int .i64 0, Value.int .i64 (m3 : Int), Value.int .i64 (m4 : Int)] 2) = W10 at * | generalize wr.alloc (Obj.cells #[Value.int .i64 (m1 : Int), Value.int .i64 (m2 : Int), Value.int .i64 1, Value.int .i64 (m3 : Int), Value.int .i64 (m4 : Int)] 2) = W10 at *
            generalize wr.heap.size = YY at *
            generalize acc = acc1 at *
            go_loopw [3, 82] (fun v i wr => ∃ (k : Nat) (acc : List Nat), k ≤ 5 ∧ i = .int .i64 k ∧ Hid (PutI w oa oc o acc v wr) ∧ Hid (Row wr YY 2 (ns.map fun n : Nat => Value.int .i64 (n : Int)).toArray) ∧ Hid (acc ++ numsL (ns.drop k) = acc1 ++ numsL ns) ∧ acc.length ≤ 3000 + 50 * k) (fun _ i _ => 5 - (intOf i).toNat)
            case atStart => exact ⟨0, acc1, Nat.zero_le _, rfl, A10, RN, Lib.hid rfl, HL10.out⟩
            case round =>
              obtain ⟨k, acc, hk, rfl, PR, RT, HS, hac⟩ := hrel
              cases hlt : decide ((k : Int) < 5) with
              | true =>
                have hlt' : k < 5 := by simp at hlt; omega
                have hkt : k < ns.length := by omega
                have ct := RT.out.nth k hkt
                have hx := HNS.out _ (List.getElem_mem hkt)
                have HD := Lib.hid (numsL_drop hkt)
                generalize ns[k] = x at *
                have ex : IntKind.u64.wrap (x : Int) = (x : Int) := by rw [IntKind.wrap_u64]; omega
                have C11 := Lib.hid (fun W => refNumber_any x W (by omega))
                have hy11l := numL_ten (show x < 18446744073709551616 by omega)
                have Y11 := Lib.hid (numL_bytes x)
                have HN := Lib.hid (show (acc ++ numL x) ++ numsL (ns.drop (k + 1)) = acc1 ++ numsL ns by rw [← HS.out, HD.out, List.append_assoc])
                clear HD HS hx
                generalize numL x = y11 at *
                go_wp2_with fail
                refine (C11.out _).mono ?_
                rintro e x11 ⟨u121, rfl, q11, b11⟩
                obtain ⟨a11, p11, e11, h11⟩ := q11.bytes Y11.out
                subst e11
                have D11 := Lib.hid (PR.out.below b11)
                have H11 := Lib.hid h11
                have RTd := Lib.hid (RT.out.below b11)
                clear q11 b11 h11
                go_wp2_with (at_builtin; go_must (refine wpList_append_bytes rfl _ _ rfl (w.heap.size + 1) u3 (acc) y11 rfl D11.out.own a11 p11 rfl H11.out (by omega) D11.out.few ?_))
                rintro v11 w11 o11 g11
                have P11 := Lib.hid (D11.out.put o11 g11)
                have RTp := Lib.hid (RTd.out.own D11.out.own (by decide) g11)
                clear o11 g11 D11 H11
                have HL11 := Lib.hid (show (acc ++ y11).length ≤ 3000 + 50 * (k + 1) by rw [List.length_append]; omega)
                go_wp2_with fail
                go_roundw
                case rel => exact ⟨k + 1, acc ++ y11, by omega, by go_num, P11, RTp, HN, HL11.out⟩
                case measure => simp [intOf]; omega
              | false =>
                have hlt' : ¬ k < 5 := by simp at hlt; omega
                have HE3 := Lib.hid (show acc = acc1 ++ numsL ns by
                  have := HS.out
                  rw [List.drop_eq_nil_of_le (by omega)] at this
                  simpa [numsL] using this)
                go_wp2_with fail
                go_ret
                refine ⟨_, rfl, ?_, PR.out.low⟩
                rw [HF.out, ← HE.out, ← HE2.out, ← HE3.out]
                exact PR.out.own.base (by omega)
end

/- BtRef: What the document's Bytes of a batch answers, at every batch that can be. -/
section
set_option maxRecDepth 100000
open Go.RowKit Go.ChangeShapes Go.WideShapes Go.ChangeAt

set_option maxHeartbeats 8000000 in
theorem refBtBytes_any (oa : Option Addr) (oc : Nat) (b : Bt) (w : World) (hO : StrsP w oa oc b.mem) (hr : rightBt b = true) :
    Calls Tryz.prog 69 #[btV oa oc b] w (OwnPost (batchL b) w) := by
  obtain ⟨r1, r2, r3, r4, r5, r6, r7, r8, _⟩ := rightBt_of hr
  obtain ⟨g1, g2, g3⟩ := groupB_of r6
  have s4 := right_32 g1
  have s5 := right_32 g2
  have s6 := right_32 g3
  have HM32 := Lib.hid (fun x hx => right_32 (r8 x hx))
  obtain ⟨i, t, f, k, p, c, z, s, ls⟩ := b
  have HLN := Lib.hid hO
  dsimp only at *
  obtain ⟨m1, rfl⟩ : ∃ m : Nat, i = (m : Int) := ⟨i.toNat, by omega⟩
  obtain ⟨m2, rfl⟩ : ∃ m : Nat, k = (m : Int) := ⟨k.toNat, by omega⟩
  obtain ⟨m3, rfl⟩ : ∃ m : Nat, p = (m : Int) := ⟨p.toNat, by omega⟩
  obtain ⟨m4, rfl⟩ : ∃ m : Nat, t = (m : Int) := ⟨t.toNat, by omega⟩
  obtain ⟨m5, rfl⟩ : ∃ m : Nat, f = (m : Int) := ⟨f.toNat, by omega⟩
  have hN : ∀ n ∈ [m1, m2, m3, m4, m5], n ≤ 1099511627776 := by
    intro n hn
    simp only [List.mem_cons, List.not_mem_nil, or_false] at hn
    rcases hn with rfl | rfl | rfl | rfl | rfl <;> omega
  obtain ⟨ns, hns⟩ : ∃ ns, [m1, m2, m3, m4, m5] = ns := ⟨_, rfl⟩
  have hnl : ns.length = 5 := by rw [← hns]; rfl
  obtain ⟨ts, hts⟩ : ∃ ts, [c, z, s] = ts := ⟨_, rfl⟩
  have htl : ts.length = 3 := by rw [← hts]; rfl
  have HT32 := Lib.hid (show ∀ x ∈ ts, x.size ≤ 32 by
    rw [← hts]
    intro x hx
    simp only [List.mem_cons, List.not_mem_nil, or_false] at hx
    rcases hx with rfl | rfl | rfl <;> assumption)
  rw [hns] at hN
  have HNS := Lib.hid hN
  have HF := Lib.hid (show batchL ⟨(m1 : Int), (m4 : Int), (m5 : Int), (m2 : Int), (m3 : Int), c, z, s, ls⟩ = ((numsL ns ++ textsL ts) ++ numL ls.length) ++ textsL ls by
    rw [← hns, ← hts]
    simp [batchL, textsL, numsL])
  have HTS := Lib.hid hts
  have HNN := Lib.hid hns
  have C2 := Lib.hid (fun W => refNumber_any ls.length W (by omega))
  have hy2l := numL_ten (show ls.length < 18446744073709551616 by omega)
  have Y2 := Lib.hid (numL_bytes ls.length)
  generalize numL ls.length = y2 at *
  have B0 := (Below.refl w.heap.size w).alloc (Nat.le_refl _) (Obj.cells #[.int .i64 (m1 : Int), .int .i64 (m4 : Int), .int .i64 (m5 : Int), .int .i64 (m2 : Int), .int .i64 (m3 : Int), .string c, .string z, .string s, .slice oa ls.length oc] 98)
  have P0 : Hid (PutB w oa oc ⟨(m1 : Int), (m4 : Int), (m5 : Int), (m2 : Int), (m3 : Int), c, z, s, ls⟩ [] (.slice (some ⟨w.heap.size + 1, 0, none⟩) 0 0) ((w.alloc (.cells #[.int .i64 (m1 : Int), .int .i64 (m4 : Int), .int .i64 (m5 : Int), .int .i64 (m2 : Int), .int .i64 (m3 : Int), .string c, .string z, .string s, .slice oa ls.length oc] 98)).alloc (.cells #[] 5))) := Lib.hid ⟨by
      have := own_fresh (w.alloc (.cells #[.int .i64 (m1 : Int), .int .i64 (m4 : Int), .int .i64 (m5 : Int), .int .i64 (m2 : Int), .int .i64 (m3 : Int), .string c, .string z, .string s, .slice oa ls.length oc] 98)) (w.heap.size + 1) (by simp)
      rwa [show (w.alloc (.cells #[.int .i64 (m1 : Int), .int .i64 (m4 : Int), .int .i64 (m5 : Int), .int .i64 (m2 : Int), .int .i64 (m3 : Int), .string c, .string z, .string s, .slice oa ls.length oc] 98)).heap.size = w.heap.size + 1 by simp] at this,
    BtB.below (b := ⟨(m1 : Int), (m4 : Int), (m5 : Int), (m2 : Int), (m3 : Int), c, z, s, ls⟩) (BtB.new w oa oc ⟨(m1 : Int), (m4 : Int), (m5 : Int), (m2 : Int), (m3 : Int), c, z, s, ls⟩) ((Below.refl _ _).alloc (Nat.le_refl _) _), B0.alloc B0.size _, by simp⟩
  have hn2 : IntKind.u64.wrap (ls.length : Int) = (ls.length : Int) := by rw [IntKind.wrap_u64]; omega
  clear hr r1 r2 r3 r4 r5 r6 r8 g1 g2 g3 hO s4 s5 s6 hN hns hts B0
  generalize ho : (⟨(m1 : Int), (m4 : Int), (m5 : Int), (m2 : Int), (m3 : Int), c, z, s, ls⟩ : Bt) = o at *
  have HOD := Lib.hid ho
  have cellsO : ∀ (W : World), BtB W w.heap.size oa oc o → ((W.cell? ⟨w.heap.size, 0, none⟩ = some (.int .i64 (m1 : Int)) ∧ W.cell? ⟨w.heap.size, 1, none⟩ = some (.int .i64 (m4 : Int)) ∧ W.cell? ⟨w.heap.size, 2, none⟩ = some (.int .i64 (m5 : Int)) ∧ W.cell? ⟨w.heap.size, 3, none⟩ = some (.int .i64 (m2 : Int)) ∧ W.cell? ⟨w.heap.size, 4, none⟩ = some (.int .i64 (m3 : Int))) ∧
      W.cell? ⟨w.heap.size, 5, none⟩ = some (.string c) ∧ W.cell? ⟨w.heap.size, 6, none⟩ = some (.string z) ∧ W.cell? ⟨w.heap.size, 7, none⟩ = some (.string s) ∧ W.cell? ⟨w.heap.size, 8, none⟩ = some (.slice oa ls.length oc)) := by
    intro W h
    rw [← HOD.out] at h
    exact BtB.cells (b := ⟨(m1 : Int), (m4 : Int), (m5 : Int), (m2 : Int), (m3 : Int), c, z, s, ls⟩) h
  have CO := Lib.hid cellsO
  clear cellsO
  have hov : btV oa oc o = .agg #[.int .i64 (m1 : Int), .int .i64 (m4 : Int), .int .i64 (m5 : Int), .int .i64 (m2 : Int), .int .i64 (m3 : Int), .string c, .string z, .string s, .slice oa ls.length oc] := by rw [← ho]; rfl
  rw [hov]
  clear ho hov
  have A0 := Lib.hid (P0.out.below ((Below.refl _ _).alloc (Nat.le_refl _) (Obj.cells #[Value.int .i64 (m1 : Int), Value.int .i64 (m2 : Int), Value.int .i64 (m3 : Int), Value.int .i64 (m4 : Int), Value.int .i64 (m5 : Int)] 2)))
  have RN : Hid (Row (((w.alloc (.cells #[.int .i64 (m1 : Int), .int .i64 (m4 : Int), .int .i64 (m5 : Int), .int .i64 (m2 : Int), .int .i64 (m3 : Int), .string c, .string z, .string s, .slice oa ls.length oc] 98)).alloc (.cells #[] 5)).alloc (Obj.cells #[Value.int .i64 (m1 : Int), Value.int .i64 (m2 : Int), Value.int .i64 (m3 : Int), Value.int .i64 (m4 : Int), Value.int .i64 (m5 : Int)] 2)) (w.heap.size + 2) 2 (ns.map fun n : Nat => Value.int .i64 (n : Int)).toArray) := Lib.hid (by
    rw [← HNN.out]
    have := heap_alloc_new ((w.alloc (.cells #[.int .i64 (m1 : Int), .int .i64 (m4 : Int), .int .i64 (m5 : Int), .int .i64 (m2 : Int), .int .i64 (m3 : Int), .string c, .string z, .string s, .slice oa ls.length oc] 98)).alloc (.cells #[] 5)) (Obj.cells #[Value.int .i64 (m1 : Int), Value.int .i64 (m2 : Int), Value.int .i64 (m3 : Int), Value.int .i64 (m4 : Int), Value.int .i64 (m5 : Int)] 2)
    rwa [show ((w.alloc (.cells #[.int .i64 (m1 : Int), .int .i64 (m4 : Int), .int .i64 (m5 : Int), .int .i64 (m2 : Int), .int .i64 (m3 : Int), .string c, .string z, .string s, .slice oa ls.length oc] 98)).alloc (.cells #[] 5)).heap.size = w.heap.size + 2 by simp] at this)
  have hz2 : w.heap.size + 2 ≠ w.heap.size := by omega
  obtain ⟨⟨c0, c1, c2, c3, c4⟩, c5, c6, c7, c8⟩ := CO.out _ P0.out.bat
  go_enter Tryz.func69, Tryz.ntmps69
  go_wp2_with fail
  clear c0 c1 c2 c3 c4 c5 c6 c7 c8
  clear P0
  generalize ((w.alloc (Obj.cells #[Value.int .i64 (m1 : Int), Value.int .i64 (m4 : Int), Value.int .i64 (m5 : Int), Value.int .i64 (m2 : Int), Value.int .i64 (m3 : Int), Value.string c, Value.string z, Value.string s, Value.slice oa ls.length oc] 98)).alloc (Obj.cells #[] 5)).alloc (Obj.cells #[Value.int .i64 (m1 : Int), Value.int .i64 (m2 : Int), Value.int .i64 (m3 : Int), Value.int .i64 (m4 : Int), Value.int .i64 (m5 : Int)] 2) = W0 at *
  go_loopw [3, 23] (fun v i wr => ∃ (k : Nat) (acc : List Nat), k ≤ 5 ∧ i = .int .i64 k ∧ Hid (PutB w oa oc o acc v wr) ∧ Hid (Row wr (w.heap.size + 2) 2 (ns.map fun n : Nat => Value.int .i64 (n : Int)).toArray) ∧ Hid (acc ++ numsL (ns.drop k) = numsL ns) ∧ acc.length ≤ 10 * k) (fun _ i _ => 5 - (intOf i).toNat)
  case atStart => exact ⟨0, [], Nat.zero_le _, rfl, A0, RN, Lib.hid rfl, by simp⟩
  case round =>
    obtain ⟨k, acc, hk, rfl, PR, RT, HS, hac⟩ := hrel
    cases hlt : decide ((k : Int) < 5) with
    | true =>
      have hlt' : k < 5 := by simp at hlt; omega
      have hkt : k < ns.length := by omega
      have ct := RT.out.nth k hkt
      have hx := HNS.out _ (List.getElem_mem hkt)
      have HD := Lib.hid (numsL_drop hkt)
      generalize ns[k] = x at *
      have ex : IntKind.u64.wrap (x : Int) = (x : Int) := by rw [IntKind.wrap_u64]; omega
      have C1 := Lib.hid (fun W => refNumber_any x W (by omega))
      have hyl := numL_ten (show x < 18446744073709551616 by omega)
      have YB := Lib.hid (numL_bytes x)
      have HN := Lib.hid (show (acc ++ numL x) ++ numsL (ns.drop (k + 1)) = numsL ns by rw [← HS.out, HD.out, List.append_assoc])
      clear HD HS hx
      generalize numL x = y at *
      go_wp2_with fail
      refine (C1.out _).mono ?_
      rintro e x1 ⟨u1, rfl, q1, b1⟩
      obtain ⟨a1, p1, e1, h1⟩ := q1.bytes YB.out
      subst e1
      have D1 := Lib.hid (PR.out.below b1)
      have H1 := Lib.hid h1
      have RTd := Lib.hid (RT.out.below b1)
      clear q1 b1 h1
      go_wp2_with (at_builtin; go_must (refine wpList_append_bytes rfl _ _ rfl (w.heap.size + 1) _ (acc) y rfl D1.out.own a1 p1 rfl H1.out (by omega) D1.out.few ?_))
      rintro v1 w1 o1 g1
      have P1 := Lib.hid (D1.out.put o1 g1)
      have RTp := Lib.hid (RTd.out.own D1.out.own (by decide) g1)
      clear o1 g1 D1 H1
      have HL := Lib.hid (show (acc ++ y).length ≤ 10 * (k + 1) by rw [List.length_append]; omega)
      go_wp2_with fail
      go_roundw
      case rel => exact ⟨k + 1, acc ++ y, by omega, by go_num, P1, RTp, HN, HL.out⟩
      case measure => simp [intOf]; omega
    | false =>
      have HE := Lib.hid (show acc = numsL ns by
        have hlt' : ¬ k < 5 := by simp at hlt; omega
        have := HS.out
        rw [List.drop_eq_nil_of_le (by omega)] at this
        simpa [numsL] using this)
      have HL8 := Lib.hid (show acc.length ≤ 50 by omega)
      have A8 := Lib.hid (PR.out.below ((Below.refl _ wr).alloc (Nat.le_refl _) (Obj.cells #[Value.string c, Value.string z, Value.string s] 9)))
      have RT2 : Hid (Row (wr.alloc (Obj.cells #[Value.string c, Value.string z, Value.string s] 9)) wr.heap.size 9 (ts.map Value.string).toArray) := Lib.hid (by rw [← HTS.out]; exact heap_alloc_new _ _)
      obtain ⟨⟨c0, c1, c2, c3, c4⟩, c5, c6, c7, c8⟩ := CO.out _ PR.out.bat
      go_wp2_with fail
      clear c0 c1 c2 c3 c4 c5 c6 c7 c8
      clear PR HS hac RT
      generalize wr.alloc (Obj.cells #[Value.string c, Value.string z, Value.string s] 9) = W8 at *
      generalize wr.heap.size = XX at *
      generalize acc = acc0 at *
      go_loopw [3, 44] (fun v i wr => ∃ (k : Nat) (acc : List Nat), k ≤ 3 ∧ i = .int .i64 k ∧ Hid (PutB w oa oc o acc v wr) ∧ Hid (Row wr XX 9 (ts.map Value.string).toArray) ∧ Hid (acc ++ textsL (ts.drop k) = acc0 ++ textsL ts) ∧ acc.length ≤ 50 + 50 * k) (fun _ i _ => 3 - (intOf i).toNat)
      case atStart => exact ⟨0, acc0, Nat.zero_le _, rfl, A8, RT2, Lib.hid rfl, HL8.out⟩
      case round =>
        obtain ⟨k, acc, hk, rfl, PR, RT, HS, hac⟩ := hrel
        cases hlt : decide ((k : Int) < 3) with
        | true =>
          have hlt' : k < 3 := by simp at hlt; omega
          have hkt : k < ts.length := by omega
          have ct := RT.out.nth k hkt
          have hx := HT32.out _ (List.getElem_mem hkt)
          have HD := Lib.hid (textsL_drop hkt)
          generalize ts[k] = x at *
          have C9 := Lib.hid (fun W => refText_any x W (by omega))
          have hy9l := textL_32 hx
          have Y9 := Lib.hid (textL_bytes x)
          have HN := Lib.hid (show (acc ++ textL x) ++ textsL (ts.drop (k + 1)) = acc0 ++ textsL ts by rw [← HS.out, HD.out, List.append_assoc])
          clear HD HS hx
          generalize textL x = y9 at *
          go_wp2_with fail
          refine (C9.out _).mono ?_
          rintro e x9 ⟨u99, rfl, q9, b9⟩
          obtain ⟨a9, p9, e9, h9⟩ := q9.bytes Y9.out
          subst e9
          have D9 := Lib.hid (PR.out.below b9)
          have H9 := Lib.hid h9
          have RTd := Lib.hid (RT.out.below b9)
          clear q9 b9 h9
          go_wp2_with (at_builtin; go_must (refine wpList_append_bytes rfl _ _ rfl (w.heap.size + 1) _ (acc) y9 rfl D9.out.own a9 p9 rfl H9.out (by omega) D9.out.few ?_))
          rintro v9 w9 o9 g9
          have P9 := Lib.hid (D9.out.put o9 g9)
          have RTp := Lib.hid (RTd.out.own D9.out.own (by decide) g9)
          clear o9 g9 D9 H9
          have HL9 := Lib.hid (show (acc ++ y9).length ≤ 50 + 50 * (k + 1) by rw [List.length_append]; omega)
          go_wp2_with fail
          go_roundw
          case rel => exact ⟨k + 1, acc ++ y9, by omega, by go_num, P9, RTp, HN, HL9.out⟩
          case measure => simp [intOf]; omega
        | false =>
          have HE2 := Lib.hid (show acc = acc0 ++ textsL ts by
            have hlt' : ¬ k < 3 := by simp at hlt; omega
            have := HS.out
            rw [List.drop_eq_nil_of_le (by omega)] at this
            simpa [textsL] using this)
          have hac2 : acc.length ≤ 200 := by omega
          obtain ⟨⟨c0, c1, c2, c3, c4⟩, c5, c6, c7, c8⟩ := CO.out _ PR.out.bat
          clear HS hac RT
          go_wp2_with fail
          clear c0 c1 c2 c3 c4 c5 c6 c7 c8
          refine (C2.out _).mono ?_
          rintro e x2 ⟨u22, rfl, q2, b2⟩
          obtain ⟨a2, p2, e2, h2⟩ := q2.bytes Y2.out
          subst e2
          have D2 := Lib.hid (PR.out.below b2)
          have H2 := Lib.hid h2
          clear q2 b2 h2
          go_wp2_with (at_builtin; go_must (refine wpList_append_bytes rfl _ _ rfl (w.heap.size + 1) _ (acc) y2 rfl D2.out.own a2 p2 rfl H2.out (by omega) D2.out.few ?_))
          rintro v2 w2 o2 g2
          have P2 := Lib.hid (D2.out.put o2 g2)
          clear o2 g2 D2 H2 PR
          obtain ⟨⟨c0, c1, c2, c3, c4⟩, c5, c6, c7, c8⟩ := CO.out _ P2.out.bat
          have HL10 := Lib.hid (show (acc ++ y2).length ≤ 300 by rw [List.length_append]; omega)
          go_wp2_with fail
          clear c0 c1 c2 c3 c4 c5 c6 c7 c8
          obtain ⟨accX, hX⟩ : ∃ q, acc ++ y2 = q := ⟨_, rfl⟩
          rw [hX] at P2 HL10
          have HX := Lib.hid hX
          clear hX
          go_loopw [3, 63] (fun v i wr => ∃ (k : Nat) (acc : List Nat), k ≤ ls.length ∧ i = .int .i64 k ∧ Hid (PutB w oa oc o acc v wr) ∧ Hid (acc ++ textsL (ls.drop k) = accX ++ textsL ls) ∧ acc.length ≤ 300 + 50 * k) (fun _ i _ => ls.length - (intOf i).toNat)
          case atStart => exact ⟨0, accX, Nat.zero_le _, rfl, P2, Lib.hid rfl, HL10.out⟩
          case round =>
            obtain ⟨k, acc1, hk, rfl, PR, HS, hac⟩ := hrel
            by_cases hlt : k < ls.length
            · have HLR := Lib.hid (HLN.out.below PR.out.low)
              obtain ⟨bb, oo, rfl, q1, g1⟩ := HLR.out.at k hlt
              have pc := HLR.out.cap
              have hx := HM32.out _ (List.getElem_mem hlt)
              have HD := Lib.hid (textsL_drop hlt)
              generalize ls[k] = x at *
              have C9 := Lib.hid (fun W => refText_any x W (by omega))
              have hy9l := textL_32 hx
              have Y9 := Lib.hid (textL_bytes x)
              have HN := Lib.hid (show (acc1 ++ textL x) ++ textsL (ls.drop (k + 1)) = accX ++ textsL ls by rw [← HS.out, HD.out, List.append_assoc])
              clear HD HS hx
              generalize textL x = y9 at *
              go_wp2_with fail
              refine (C9.out _).mono ?_
              rintro e x9 ⟨u99, rfl, q9, b9⟩
              obtain ⟨a9, p9, e9, h9⟩ := q9.bytes Y9.out
              subst e9
              have D9 := Lib.hid (PR.out.below b9)
              have H9 := Lib.hid h9
              clear q9 b9 h9
              go_wp2_with (at_builtin; go_must (refine wpList_append_bytes rfl _ _ rfl (w.heap.size + 1) _ (acc1) y9 rfl D9.out.own a9 p9 rfl H9.out (by omega) D9.out.few ?_))
              rintro v9 w9 o9 g9
              have P9 := Lib.hid (D9.out.put o9 g9)
              clear o9 g9 D9 H9
              have HL9 := Lib.hid (show (acc1 ++ y9).length ≤ 300 + 50 * (k + 1) by rw [List.length_append]; omega)
              go_wp2_with fail
              go_roundw
              case rel => exact ⟨k + 1, acc1 ++ y9, by omega, by go_num, P9, HN, HL9.out⟩
              case measure => simp [intOf]; omega
            · have HE3 := Lib.hid (show acc1 = accX ++ textsL ls by
                have := HS.out
                rw [List.drop_eq_nil_of_le (by omega)] at this
                simpa [textsL] using this)
              go_wp2_with fail
              go_ret
              refine ⟨_, rfl, ?_, PR.out.low⟩
              rw [HF.out, ← HE.out, ← HE2.out, HX.out, ← HE3.out]
              exact PR.out.own.base (by omega)
end

/- ObRefB: The document's bytes of an outbox. -/
section
set_option maxRecDepth 100000
open Go.RowKit Go.ChangeShapes Go.WideShapes Go.ChangeAt
attribute [local go_sem ↓] ldEf stEf alEf bxEf eqEf bdEf bsEf
attribute [local go_sem] al_ef bx_ef st_new bd_ef bs_ef bs_ef0

/-- An effect's numbers in a block, the effect in a variable, the bytes so far. -/
structure NumI (w : World) (X : Nat) (e : Ef) (ns : List Nat) (acc : List Nat) (v : Value) (W : World) : Prop where
  put : PutE w X e acc v W
  num : Row W (X + 1) 2 (ns.map fun n : Nat => Value.int .i64 (n : Int)).toArray
theorem NumI.below {w W W' : World} {X : Nat} {e : Ef} {ns acc : List Nat} {v : Value} (h : NumI w X e ns acc v W) (bl : Below W.heap.size W W') : NumI w X e ns acc v W' := ⟨h.put.below bl, h.num.below bl⟩
theorem NumI.more {w W W' : World} {X : Nat} {e : Ef} {ns acc acc' : List Nat} {v v' : Value} (h : NumI w X e ns acc v W) (own : OwnB W' w.heap.size v' acc') (g : W.grownBy W' v.ownBlock) : NumI w X e ns acc' v' W' := ⟨h.put.put own g, h.num.own h.put.own (by decide) g⟩

set_option maxHeartbeats 4000000 in
theorem refBytes_any13 (oa : Option Addr) (oc : Nat) (l : List Ef) (w : World) (hO : SlP LE w oa oc l) (hr : rightE l = true) (hm : l.length ≤ 100) :
    Calls Tryz.prog 70 #[.slice oa l.length oc] w (OwnPost (boxL l) w) := by
  have HO := Lib.hid hO
  have hoc := hO.cap
  have HR := Lib.hid (fun e he => ((rightE_iff l).1 hr).1 e he)
  have hn2 : IntKind.u64.wrap (l.length : Int) = (l.length : Int) := by rw [IntKind.wrap_u64]; omega
  have C0 := Lib.hid (fun W => refNumber_any l.length W (by omega))
  have hy0l := numL_ten (show l.length < 18446744073709551616 by omega)
  have HF := Lib.hid (show boxL l = numL l.length ++ effsL l from rfl)
  clear hO hr
  generalize numL l.length = y0 at *
  generalize boxL l = F at *
  go_enter Tryz.func70, Tryz.ntmps70
  go_wp2_with fail
  refine (C0.out _).mono ?_
  rintro e w2 ⟨v2, rfl, o2, b2⟩
  have O3 := Lib.hid o2
  have B3 := Lib.hid b2
  clear o2 b2
  go_wp2_with fail
  go_loopw [3, 14] (fun s i wr => ∃ (k : Nat) (acc : List Nat), k ≤ l.length ∧ i = .int .i64 k ∧ Hid (OwnB wr w.heap.size s acc) ∧ Hid (acc ++ effsL (l.drop k) = F) ∧ acc.length ≤ 1010 + 92 * k ∧ Hid (Below w.heap.size w wr)) (fun _ i _ => l.length - (intOf i).toNat)
  case atStart => exact ⟨0, y0, Nat.zero_le _, rfl, O3, Lib.hid (by rw [HF.out]; rfl), by omega, B3⟩
  case round =>
    clear O3 B3 HF
    obtain ⟨k, acc, hk, rfl, HW, HS, hac, hbw⟩ := hrel
    by_cases hlt : k < l.length
    · obtain ⟨b, o, rfl, hb, ld, hrest⟩ := (HO.out.below hbw.out).ef k hlt
      have h1 := HR.out _ (List.getElem_mem hlt)
      have hel := effL_len h1
      have HN := Lib.hid (HS.out.symm.trans (by rw [effsL_drop hlt, ← List.append_assoc]))
      have P0 : Hid (PutE w wr.heap.size l[k] acc u3 (wr.alloc (.cells (efC l[k]) 138))) := Lib.hid ⟨own_alloc HW.out _, Row.new _ _ _, hbw.out.alloc hbw.out.size _⟩
      clear hrest HS HW hbw
      generalize l[k] = y at *
      obtain ⟨r1, r2, r3, r4, r5, r6⟩ := oneB_of h1
      obtain ⟨m1, e1⟩ : ∃ m : Nat, y.key = (m : Int) := ⟨y.key.toNat, by omega⟩
      obtain ⟨m2, e2⟩ : ∃ m : Nat, y.kind = (m : Int) := ⟨y.kind.toNat, by omega⟩
      obtain ⟨m3, e3⟩ : ∃ m : Nat, y.tries = (m : Int) := ⟨y.tries.toNat, by omega⟩
      obtain ⟨m4, e4⟩ : ∃ m : Nat, y.due = (m : Int) := ⟨y.due.toNat, by omega⟩
      obtain ⟨m5, e5⟩ : ∃ m : Nat, y.batch = (m : Int) := ⟨y.batch.toNat, by omega⟩
      have HNS := Lib.hid (show ∀ n ∈ [m1, m2, m3, m4, m5], n ≤ 1099511627776 by
        intro n hn
        simp only [List.mem_cons, List.not_mem_nil, or_false] at hn
        rcases hn with rfl | rfl | rfl | rfl | rfl <;> omega)
      have he2 : effL y = numsL [m1, m2, m3, m4, m5] ++ textL y.order := by
        have := effL_two y m1 m2 m3 m4 m5 (by omega) (by omega) (by omega) (by omega) (by omega)
        simpa [textsL] using this
      obtain ⟨c0, c1, c2, c3, c4, c5⟩ := P0.out.row.c
      rw [e1] at c0
      rw [e5] at c1
      rw [e4] at c2
      rw [e2] at c3
      rw [e3] at c4
      have N0 : Hid (NumI w wr.heap.size y [m1, m2, m3, m4, m5] acc u3 ((wr.alloc (.cells (efC y) 138)).alloc (.cells #[.int .i64 (m1 : Int), .int .i64 (m2 : Int), .int .i64 (m3 : Int), .int .i64 (m4 : Int), .int .i64 (m5 : Int)] 2))) := Lib.hid ⟨P0.out.below ((Below.refl _ _).alloc (Nat.le_refl _) _), by
        have := Row.new (wr.alloc (.cells (efC y) 138)) #[.int .i64 (m1 : Int), .int .i64 (m2 : Int), .int .i64 (m3 : Int), .int .i64 (m4 : Int), .int .i64 (m5 : Int)] 2
        rwa [show (wr.alloc (.cells (efC y) 138)).heap.size = wr.heap.size + 1 by simp] at this⟩
      have HT := Lib.hid (fun W => refText_any y.order W (by omega))
      have YT := Lib.hid (textL_bytes y.order)
      have hnl : [m1, m2, m3, m4, m5].length = 5 := rfl
      rw [he2, List.length_append] at hel
      rw [he2] at HN
      clear h1 r1 r2 r3 r4 r5 r6 e1 e2 e3 e4 e5 he2 P0
      generalize textL y.order = yt at *
      go_wp2_with fail
      clear c0 c1 c2 c3 c4 c5 ld
      generalize (wr.alloc (.cells (efC y) 138)).alloc (.cells #[.int .i64 (m1 : Int), .int .i64 (m2 : Int), .int .i64 (m3 : Int), .int .i64 (m4 : Int), .int .i64 (m5 : Int)] 2) = W1 at *
      generalize [m1, m2, m3, m4, m5] = ns at *
      generalize wr.heap.size = X at *
      go_loopw [3, 30] (fun s j wq => ∃ (i : Nat) (ac : List Nat), i ≤ 5 ∧ j = .int .i64 i ∧ Hid (NumI w X y ns ac s wq) ∧ Hid (ac ++ numsL (ns.drop i) = acc ++ numsL ns) ∧ ac.length ≤ acc.length + 10 * i) (fun _ j _ => 5 - (intOf j).toNat)
      case atStart => exact ⟨0, acc, Nat.zero_le _, rfl, N0, Lib.hid rfl, by omega⟩
      case round =>
        clear N0
        obtain ⟨i, ac, hi, rfl, NI, HQ, hacc⟩ := hrel
        cases hlt2 : decide ((i : Int) < 5) with
        | true =>
          have hit : i < ns.length := by simp at hlt2; omega
          have ct := NI.out.num.nth i hit
          have hx := HNS.out _ (List.getElem_mem hit)
          have HD := Lib.hid (numsL_drop hit)
          generalize ns[i] = x at *
          have ex : IntKind.u64.wrap (x : Int) = (x : Int) := by rw [IntKind.wrap_u64]; omega
          have C1 := Lib.hid (fun W => refNumber_any x W (by omega))
          have hyl := numL_ten (show x < 18446744073709551616 by omega)
          have YB := Lib.hid (numL_bytes x)
          have HM := Lib.hid (show (ac ++ numL x) ++ numsL (ns.drop (i + 1)) = acc ++ numsL ns by rw [← HQ.out, HD.out, List.append_assoc])
          have hi5 : i < 5 := by omega
          clear HD HQ hx
          generalize numL x = z at *
          go_wp2_with fail
          refine (C1.out _).mono ?_
          rintro e x1 ⟨q1', rfl, q1, b1⟩
          obtain ⟨a1, p1, e1, h1⟩ := q1.bytes YB.out
          subst e1
          have D1 := Lib.hid (NI.out.below b1)
          have H1 := Lib.hid h1
          have hs1 : ac.length + z.length ≤ 10000000 := by omega
          have hw1 := D1.out.put.low.size
          clear q1 b1 h1 NI ct
          go_wp2_with (at_builtin; go_must (refine wpList_append_bytes rfl _ _ rfl w.heap.size _ ac z rfl D1.out.put.own a1 p1 rfl H1.out hs1 hw1 ?_))
          rintro v3 w3 o3 g3
          have D3 := Lib.hid (D1.out.more o3 g3)
          clear o3 g3 D1 H1
          go_wp2_with fail
          go_roundw
          case rel => exact ⟨i + 1, ac ++ z, by omega, by go_num, D3, HM, by rw [List.length_append]; omega⟩
          case measure => simp [intOf]; omega
        | false =>
          have HE := Lib.hid (show ac = acc ++ numsL ns by
            have hlt' : ¬ i < 5 := by simp at hlt2; omega
            have := HQ.out
            rw [List.drop_eq_nil_of_le (by omega)] at this
            simpa [numsL] using this)
          obtain ⟨_, _, _, _, _, c5⟩ := NI.out.put.row.c
          have hacl : ac.length ≤ acc.length + 50 := by omega
          go_wp2_with fail
          refine (HT.out _).mono ?_
          rintro e x1 ⟨q1', rfl, q1, b1⟩
          obtain ⟨a1, p1, e1, h1⟩ := q1.bytes YT.out
          subst e1
          have D1 := Lib.hid (NI.out.below b1)
          have H1 := Lib.hid h1
          have hs1 : ac.length + yt.length ≤ 10000000 := by omega
          have hw1 := D1.out.put.low.size
          clear q1 b1 h1 NI c5
          go_wp2_with (at_builtin; go_must (refine wpList_append_bytes rfl _ _ rfl w.heap.size _ ac yt rfl D1.out.put.own a1 p1 rfl H1.out hs1 hw1 ?_))
          rintro v3 w3 o3 g3
          have D3 := Lib.hid (D1.out.more o3 g3)
          clear o3 g3 D1 H1
          have HG := Lib.hid (show (ac ++ yt) ++ effsL (l.drop (k + 1)) = F by rw [HE.out, HN.out]; simp only [List.append_assoc])
          have hlen := HE.out
          have hlen2 : ac.length = acc.length + (numsL ns).length := by rw [hlen, List.length_append]
          clear hlen
          go_wp2_with fail
          go_roundw
          case rel => exact ⟨k + 1, ac ++ yt, hlt, by go_num, Lib.hid D3.out.put.own, HG, by rw [List.length_append]; omega, Lib.hid D3.out.put.low⟩
          case measure => simp [intOf]; omega
    · have HE := Lib.hid (show F = acc by rw [← HS.out, List.drop_eq_nil_of_le (by omega)]; exact List.append_nil _)
      go_wp2_with fail
      go_ret
      exact ⟨_, rfl, by rw [HE.out]; exact HW.out, hbw.out⟩
end

/- SnRef2: The document's bytes of numbers, of a group, of a command. -/
section
set_option maxRecDepth 100000
open Go.RowKit Go.ChangeShapes Go.WideShapes Go.ChangeAt
attribute [local go_sem ↓] ldCm stCm alCm bxCm bdCm ldGr bxGr eqGr
attribute [local go_sem] al_cm bx_cm st_cmnew bd_cm bd_cmKind bx_gr ne_gr eq_grX

set_option maxHeartbeats 4000000 in
theorem refNumbers_any (a : Option Addr) (cap : Nat) (l : List Int) (w : World) (h : IntsP w a cap l) (hr : ∀ x ∈ l, 0 ≤ x ∧ x < 9223372036854775808) (hl : l.length ≤ 100000) :
    Calls Tryz.prog 50 #[.slice a l.length cap] w (OwnPost (numsL (natsI l)) w) := by
  have H := Lib.hid h
  have hcap := h.cap
  have HR := Lib.hid hr
  have OE := Lib.hid (own_fresh w w.heap.size (Nat.le_refl _))
  have BW := Lib.hid ((Below.refl w.heap.size w).alloc (Nat.le_refl _) (.cells #[] 5))
  clear h hr
  go_enter Tryz.func50, Tryz.ntmps50
  go_wp2_with fail
  go_loopw [3, 9] (fun v i wr => ∃ (k : Nat) (acc : List Nat), k ≤ l.length ∧ i = .int .i64 k ∧ Hid (OwnB wr w.heap.size v acc) ∧ Hid (acc ++ numsL (natsI (l.drop k)) = numsL (natsI l)) ∧ acc.length ≤ 10 * k ∧ Hid (Below w.heap.size w wr)) (fun _ i _ => l.length - (intOf i).toNat)
  case atStart => exact ⟨0, [], Nat.zero_le _, rfl, OE, Lib.hid rfl, by simp, BW⟩
  case round =>
    clear OE BW
    obtain ⟨k, acc, hk, rfl, O, HS, hac, B⟩ := hrel
    have hB := B.out.size
    by_cases hlt : k < l.length
    · obtain ⟨b, o, rfl, hb, c1⟩ := (H.out.below B.out).at k hlt
      obtain ⟨n, hn⟩ : ∃ n : Nat, l[k] = (n : Int) := ⟨l[k].toNat, by have := HR.out _ (List.getElem_mem hlt); omega⟩
      have hn2 : n < 9223372036854775808 := by have := HR.out _ (List.getElem_mem hlt); omega
      have HD := Lib.hid (show numsL (natsI (l.drop k)) = numL n ++ numsL (natsI (l.drop (k + 1))) by rw [List.drop_eq_getElem_cons hlt, natsI_cons, numsL_one, hn, Int.toNat_natCast])
      rw [hn] at c1
      have C := Lib.hid (fun W => refNumber_any n W (by omega))
      have Y := Lib.hid (numL_bytes n)
      have hy := numL_ten (show n < 18446744073709551616 by omega)
      have hw : IntKind.u64.wrap (n : Int) = (n : Int) := by rw [IntKind.wrap_u64]; omega
      clear hn
      generalize numL n = y at *
      go_wp2_with fail
      refine (C.out _).mono ?_
      rintro e x2 ⟨u2, rfl, q2, b2⟩
      obtain ⟨a2, p2, e2, h2⟩ := q2.bytes Y.out
      subst e2
      have O2 := Lib.hid (O.out.below b2)
      have B2 := Lib.hid (B.out.trans (b2.mono hB))
      have H2 := Lib.hid h2
      clear q2 b2 h2 C
      have hB2 := B2.out.size
      go_wp2_with (at_builtin; go_must (refine wpList_append_bytes rfl _ _ rfl w.heap.size _ acc y rfl O2.out a2 p2 rfl H2.out (by omega) hB2 ?_))
      rintro v2 w2 o2 g2
      have B3 := Lib.hid (B2.out.grown g2 hB2 O2.out.row)
      have O3 := Lib.hid o2
      clear o2 g2 O2 B2 H2
      go_wp2_with fail
      go_roundw
      case rel => exact ⟨k + 1, acc ++ y, by omega, by go_num, O3, Lib.hid (by rw [List.append_assoc, ← HD.out, HS.out]), by rw [List.length_append]; omega, B3⟩
      case measure => simp [intOf]; omega
    · have HE := Lib.hid (show acc = numsL (natsI l) by
        have := HS.out
        rw [List.drop_eq_nil_of_le (by omega)] at this
        simpa [natsI, numsL] using this)
      go_wp2_with fail
      go_ret
      refine ⟨_, rfl, ?_, B.out⟩
      rw [← HE.out]
      exact O.out
end

/- SnRef3: The document's bytes of a command. -/
section
set_option maxRecDepth 100000
open Go.RowKit Go.ChangeShapes Go.WideShapes Go.ChangeAt
attribute [local go_sem ↓] ldCm stCm alCm bxCm bdCm ldGr bxGr eqGr
attribute [local go_sem] al_cm bx_cm st_cmnew bd_cm bd_cmKind bx_gr ne_gr eq_grX

theorem num_one {x : Int} (h : 0 ≤ x ∧ x < 9223372036854775808) {y : List Nat} (hy : numL x.toNat = y) (W : World) : Calls Tryz.prog 50 #[.slice (some ⟨W.heap.size, 0, none⟩) 1 1] (W.alloc (.cells #[.int .i64 x] 2)) (OwnPost y (W.alloc (.cells #[.int .i64 x] 2))) := by
  have := refNumbers_any (some ⟨W.heap.size, 0, none⟩) 1 [x] _ (ints_one W x 2) (fun z hz => by rw [List.mem_singleton.1 hz]; exact h) (by simp)
  have e : numsL (natsI [x]) = y := by rw [← hy]; simp [natsI, numsL]
  rwa [e] at this
end

/- SnRef4: The document's bytes of a state. -/
section
set_option maxRecDepth 100000
open Go.RowKit Go.ChangeShapes Go.WideShapes Go.ChangeAt
attribute [local go_sem ↓] ldOr stOr alOr bxOr bdOr ldBa stBa alBa bxBa bdBa ldSt stSt alSt bxSt bdSt
attribute [local go_sem] al_or bx_or st_ornew bd_or al_ba bx_ba st_banew bd_ba al_sta bx_sta st_stnew bd_sta

theorem ints_lit (W : World) (l : List Int) (T : TypeId) : IntsP (W.alloc (.cells (l.map iv).toArray T)) (some ⟨W.heap.size, 0, none⟩) l.length l := by
  refine ⟨Nat.le_refl _, fun _ => ⟨W.heap.size, 0, rfl, by simp, fun j y hj => ?_⟩⟩
  rw [Nat.zero_add, (Row.new W (l.map iv).toArray T).cell j]
  simp [hj, iv]
theorem num_list (l : List Int) (hl : l.length ≤ 100) (h : ∀ x ∈ l, 0 ≤ x ∧ x < 9223372036854775808) {y : List Nat} (hy : numsL (natsI l) = y) (W : World) :
    Calls Tryz.prog 50 #[.slice (some ⟨W.heap.size, 0, none⟩) l.length l.length] (W.alloc (.cells (l.map iv).toArray 2)) (OwnPost y (W.alloc (.cells (l.map iv).toArray 2))) := by
  rw [← hy]
  exact refNumbers_any (some ⟨W.heap.size, 0, none⟩) l.length l _ (ints_lit W l 2) h (by omega)
theorem doorsL_drop (l : List Int) (k : Nat) (h : k < l.length) : numsL (natsI (l.drop k)) = numL l[k].toNat ++ numsL (natsI (l.drop (k + 1))) := by
  rw [List.drop_eq_getElem_cons h, natsI_cons, numsL_one]


set_option maxHeartbeats 16000000 in
theorem refState_any (r : StR) (w : World) (h : StP w r) (hr : rightS r.st = true) (ho : r.ords.length ≤ 60) (hb : r.bats.length ≤ 40) (he : r.effs.length ≤ 100) :
    Calls Tryz.prog 22 #[stV r] w (OwnPost (stateL r.st) w) := by
  have HW := Lib.hid h
  have hp := rightP_of hr
  obtain ⟨k1, k2, k3, k4, k5, k6, k7, k8, k9, k10, k11⟩ := hp.head
  have k1 : 0 ≤ r.waves.count ∧ r.waves.count ≤ 64 := k1
  have k2 : 0 ≤ r.waves.wt ∧ r.waves.wt ≤ 1000000000000 := k2
  have k3 : 0 ≤ r.mans.count ∧ r.mans.count ≤ 64 := k3
  have k4 : 0 ≤ r.mans.wt ∧ r.mans.wt ≤ 1000000000000 := k4
  have k5 : 0 ≤ r.limit ∧ r.limit ≤ 100 := k5
  have k6 : ∀ x ∈ r.doors, 0 ≤ x ∧ x ≤ 95 := k6
  have k7 : r.doors.length ≤ 96 := k7
  have k8 : 0 ≤ r.now ∧ r.now ≤ 1099511627776 := k8
  have k9 : 0 ≤ r.nb ∧ r.nb ≤ 1000000000000 := k9
  have k10 : 0 ≤ r.nk ∧ r.nk ≤ 1000000000000 := k10
  have HDo := Lib.hid k6
  have HOr := Lib.hid (show ∀ x ∈ r.ords, rightO x.o = true from fun x hx => hp.ords x.o (List.mem_map_of_mem hx))
  have HBa := Lib.hid (show ∀ x ∈ r.bats, rightBt x.b = true from fun x hx => hp.bats x.b (List.mem_map_of_mem hx))
  obtain ⟨y0, hy0⟩ : ∃ y0, numsL (natsI [r.waves.count, r.waves.wt, r.mans.count, r.mans.wt, r.limit, ((r.doors.length : Nat) : Int)]) = y0 := ⟨_, rfl⟩
  have l0 : y0.length ≤ 60 := by
    rw [← hy0]
    exact numsL_len _ (fun n hn => by
      simp only [natsI, List.map_cons, List.map_nil, List.mem_cons, List.not_mem_nil, or_false] at hn
      rcases hn with rfl | rfl | rfl | rfl | rfl | rfl <;> omega)
  have C0 := Lib.hid (show Calls Tryz.prog 50 #[.slice (some ⟨(w.alloc (.cells (stC r) 37)).heap.size, 0, none⟩) 6 6] ((w.alloc (.cells (stC r) 37)).alloc (.cells #[.int .i64 r.waves.count, .int .i64 r.waves.wt, .int .i64 r.mans.count, .int .i64 r.mans.wt, .int .i64 r.limit, .int .i64 ((r.doors.length : Nat) : Int)] 2)) (OwnPost y0 ((w.alloc (.cells (stC r) 37)).alloc (.cells #[.int .i64 r.waves.count, .int .i64 r.waves.wt, .int .i64 r.mans.count, .int .i64 r.mans.wt, .int .i64 r.limit, .int .i64 ((r.doors.length : Nat) : Int)] 2))) from num_list [r.waves.count, r.waves.wt, r.mans.count, r.mans.wt, r.limit, ((r.doors.length : Nat) : Int)] (by simp) (fun x hx => by
    simp only [List.mem_cons, List.not_mem_nil, or_false] at hx
    rcases hx with rfl | rfl | rfl | rfl | rfl | rfl <;> omega) hy0 (w.alloc (.cells (stC r) 37)))
  rw [show (w.alloc (.cells (stC r) 37)).heap.size = w.heap.size + 1 by simp] at C0
  have hz : w.heap.size + 1 ≤ ((w.alloc (.cells (stC r) 37)).alloc (.cells #[.int .i64 r.waves.count, .int .i64 r.waves.wt, .int .i64 r.mans.count, .int .i64 r.mans.wt, .int .i64 r.limit, .int .i64 ((r.doors.length : Nat) : Int)] 2)).heap.size := by simp
  obtain ⟨y1, hy1⟩ : ∃ y1, numsL (natsI [r.now, r.nb, r.nk, ((r.ords.length : Nat) : Int)]) = y1 := ⟨_, rfl⟩
  have l1 : y1.length ≤ 40 := by
    rw [← hy1]
    exact numsL_len _ (fun n hn => by
      simp only [natsI, List.map_cons, List.map_nil, List.mem_cons, List.not_mem_nil, or_false] at hn
      rcases hn with rfl | rfl | rfl | rfl <;> omega)
  have Y1 : Hid (Bytes y1) := Lib.hid (by rw [← hy1]; exact numsL_bytes _)
  have C1 := Lib.hid (fun W : World => show Calls Tryz.prog 50 #[.slice (some ⟨W.heap.size, 0, none⟩) 4 4] (W.alloc (.cells #[.int .i64 r.now, .int .i64 r.nb, .int .i64 r.nk, .int .i64 ((r.ords.length : Nat) : Int)] 2)) (OwnPost y1 (W.alloc (.cells #[.int .i64 r.now, .int .i64 r.nb, .int .i64 r.nk, .int .i64 ((r.ords.length : Nat) : Int)] 2))) from num_list [r.now, r.nb, r.nk, ((r.ords.length : Nat) : Int)] (by simp) (fun x hx => by
    simp only [List.mem_cons, List.not_mem_nil, or_false] at hx
    rcases hx with rfl | rfl | rfl | rfl <;> omega) hy1 W)
  obtain ⟨y2, hy2⟩ : ∃ y2, numL ((r.bats.length : Nat) : Int).toNat = y2 := ⟨_, rfl⟩
  have l2 : y2.length ≤ 10 := by rw [← hy2]; exact numL_ten (by omega)
  have Y2 : Hid (Bytes y2) := Lib.hid (by rw [← hy2]; exact numL_bytes _)
  have C2 := Lib.hid (fun W => num_one (x := ((r.bats.length : Nat) : Int)) (by omega) hy2 W)
  have Y3 := Lib.hid (boxL_bytes r.effs)
  have l3 : (boxL r.effs).length ≤ 10000 := boxL_len hp.effs he
  have CE := Lib.hid (fun W hW => refBytes_any13 r.ea r.ec r.effs W hW hp.effs he)
  have HF := Lib.hid (show stateL r.st = y0 ++ (numsL (natsI r.doors) ++ (y1 ++ (ordersL (odsOf r.ords) ++ (y2 ++ (batchesL (btsOf r.bats) ++ boxL r.effs))))) by
    rw [← hy0, ← hy1, ← hy2]
    simp [stateL, capsN, nextN, natsI, StR.st, odsOf, btsOf])
  have I := Lib.hid (OnI.begin w r h)
  obtain ⟨⟨c0, c1, c2, c3, c4, c5⟩, c6, c7, c8, c9, c10, c11⟩ := I.out.one.st
  clear h hr hp k1 k2 k3 k4 k5 k6 k8 k9 k10 k11 hy0 hy1 hy2
  generalize boxL r.effs = y3 at *
  go_enter Tryz.func22, Tryz.ntmps22
  go_wp2_with fail
  generalize (w.alloc (.cells (stC r) 37)) = W0 at *
  refine C0.out.mono ?_
  rintro e W1 ⟨v1, rfl, o1, b1⟩
  have P : Hid (SwI w r y0 v1 W1) := Lib.hid ⟨(I.out.below ((Below.refl _ _).alloc (Nat.le_refl _) _)).below b1, o1.base hz, Nat.le_trans hz b1.size⟩
  clear o1 b1 I C0 hz
  clear c0 c1 c2 c3 c4 c5 c6 c7 c8 c9 c10 c11
  obtain ⟨⟨c0, c1, c2, c3, c4, c5⟩, c6, c7, c8, c9, c10, c11⟩ := P.out.on.one.st
  go_wp2_with fail
  clear c0 c1 c2 c3 c4 c5 c6 c7 c8 c9 c10 c11
  go_loopw [3, 32] (fun v i wr => ∃ (k : Nat) (acc : List Nat), k ≤ r.doors.length ∧ i = .int .i64 k ∧ Hid (SwI w r acc v wr) ∧ Hid (acc ++ numsL (natsI (r.doors.drop k)) = y0 ++ numsL (natsI r.doors)) ∧ acc.length ≤ 60 + 10 * k) (fun _ i _ => r.doors.length - (intOf i).toNat)
  case atStart => exact ⟨0, y0, Nat.zero_le _, rfl, P, Lib.hid rfl, by omega⟩
  case round =>
    clear P
    obtain ⟨k, acc, hk, rfl, PR, HS, hac⟩ := hrel
    by_cases hlt : k < r.doors.length
    · have hl := PR.out.on.st.doors
      obtain ⟨b, of, eo, hb, r1⟩ := hl.at k hlt
      have hcap := hl.cap
      have hrg := HDo.out _ (List.getElem_mem hlt)
      have HD := Lib.hid (doorsL_drop r.doors k hlt)
      generalize r.doors[k] = x at *
      have CX := Lib.hid (fun W => num_one (x := x) (by omega) (rfl) W)
      have YX := Lib.hid (numL_bytes x.toNat)
      have lx := numL_ten (show x.toNat < 18446744073709551616 by omega)
      have HN := Lib.hid (show (acc ++ numL x.toNat) ++ numsL (natsI (r.doors.drop (k + 1))) = y0 ++ numsL (natsI r.doors) by rw [← HS.out, HD.out, List.append_assoc])
      rw [eo]
      clear HD HS hl eo hrg
      generalize numL x.toNat = yx at *
      go_wp2_with fail
      clear r1
      refine (CX.out _).mono ?_
      rintro e x5 ⟨u55, rfl, q5, b5⟩
      obtain ⟨a5, p5, e5, h5⟩ := q5.bytes YX.out
      subst e5
      have D5 := Lib.hid (PR.out.laid b5)
      have H5 := Lib.hid h5
      clear q5 b5 h5 PR CX
      go_wp2_with (at_builtin; go_must (refine wpList_append_bytes rfl _ _ rfl (w.heap.size + 1) _ acc yx rfl D5.out.own a5 p5 rfl H5.out (by omega) D5.out.few ?_))
      rintro v5 w5 o5 g5
      have P5 := Lib.hid (D5.out.put HW.out o5 g5)
      clear o5 g5 D5 H5
      go_wp2_with fail
      go_roundw
      case rel => exact ⟨k + 1, acc ++ yx, by omega, by go_num, P5, HN, by rw [List.length_append]; omega⟩
      case measure => simp [intOf]; omega
    · have hkn : k = r.doors.length := by omega
      subst hkn
      have HE := Lib.hid (show acc = y0 ++ numsL (natsI r.doors) by
        have q := HS.out
        rw [List.drop_eq_nil_of_le (Nat.le_refl _)] at q
        simpa [natsI, numsL] using q)
      have P := PR
      clear HS PR HDo
      obtain ⟨⟨c0, c1, c2, c3, c4, c5⟩, c6, c7, c8, c9, c10, c11⟩ := P.out.on.one.st
      go_wp2_with fail
      refine (C1.out _).mono ?_
      rintro e x2 ⟨u2, rfl, q2, b2⟩
      obtain ⟨a2, p2, e2, h2⟩ := q2.bytes Y1.out
      subst e2
      have D := Lib.hid (P.out.laid b2)
      have H2 := Lib.hid h2
      clear q2 b2 h2 P
      clear c0 c1 c2 c3 c4 c5 c6 c7 c8 c9 c10 c11
      go_wp2_with (at_builtin; go_must (refine wpList_append_bytes rfl _ _ rfl (w.heap.size + 1) _ (acc) y1 rfl D.out.own a2 p2 rfl H2.out (by omega) D.out.few ?_))
      rintro v2 w2 o2 g2
      have P := Lib.hid (D.out.put HW.out o2 g2)
      clear o2 g2 D H2
      obtain ⟨⟨c0, c1, c2, c3, c4, c5⟩, c6, c7, c8, c9, c10, c11⟩ := P.out.on.one.st
      go_wp2_with fail
      clear c0 c1 c2 c3 c4 c5 c6 c7 c8 c9 c10 c11
      have lA : (acc ++ y1).length ≤ 1060 := by rw [List.length_append]; omega
      obtain ⟨A1, hA1⟩ : ∃ A1, acc ++ y1 = A1 := ⟨_, rfl⟩
      have HA1 := Lib.hid hA1
      rw [hA1] at P lA
      clear hA1 C1 Y1
      generalize wr = wo1 at *
      go_loopw [3, 58] (fun v i wr => ∃ (k : Nat) (ac : List Nat), k ≤ r.ords.length ∧ i = .int .i64 k ∧ Hid (SwI w r ac v wr) ∧ Hid (ac ++ ordersL (odsOf (r.ords.drop k)) = A1 ++ ordersL (odsOf r.ords)) ∧ ac.length ≤ 1060 + 1000 * k) (fun _ i _ => r.ords.length - (intOf i).toNat)
      case atStart => exact ⟨0, A1, Nat.zero_le _, rfl, P, Lib.hid rfl, by omega⟩
      case round =>
        clear P
        obtain ⟨k, ac, hk, rfl, PR, HS, hac2⟩ := hrel
        by_cases hlt : k < r.ords.length
        · have hl := PR.out.on.st.ords
          obtain ⟨b, of, eo, hb, _, ld1, hod⟩ := hl.ld k hlt
          have hcap := hl.sl.cap
          have hrg := HOr.out _ (List.getElem_mem hlt)
          have HD := Lib.hid (ordersL_drop r.ords k hlt)
          generalize r.ords[k] = x at *
          have CX := Lib.hid (fun W hW => refBytes_any x.a x.c x.o W hW hrg)
          have YX := Lib.hid (orderL_bytes x.o)
          have lx := orderL_len hrg
          have HN := Lib.hid (show (ac ++ orderL x.o) ++ ordersL (odsOf (r.ords.drop (k + 1))) = A1 ++ ordersL (odsOf r.ords) by rw [← HS.out, HD.out, List.append_assoc])
          have HOD := Lib.hid (hod.below ((Below.refl _ wr).alloc (Nat.le_refl _) (Obj.cells (orC x) 93)))
          have A5 := Lib.hid (PR.out.below ((Below.refl _ wr).alloc (Nat.le_refl _) (Obj.cells (orC x) 93)))
          have la := ld_or (Row.new wr (orC x) 93)
          rw [eo]
          clear HD HS hl eo hrg hod PR
          generalize orderL x.o = yx at *
          go_wp2_with fail
          clear ld1 la
          generalize wr.alloc (.cells (orC x) 93) = W5 at *
          refine (CX.out _ HOD.out).mono ?_
          rintro e x5 ⟨u55, rfl, q5, b5⟩
          obtain ⟨a5, p5, e5, h5⟩ := q5.bytes YX.out
          subst e5
          have D5 := Lib.hid (A5.out.below b5)
          have H5 := Lib.hid h5
          clear q5 b5 h5 A5 CX HOD
          go_wp2_with (at_builtin; go_must (refine wpList_append_bytes rfl _ _ rfl (w.heap.size + 1) _ ac yx rfl D5.out.own a5 p5 rfl H5.out (by omega) D5.out.few ?_))
          rintro v5 w5 o5 g5
          have P5 := Lib.hid (D5.out.put HW.out o5 g5)
          clear o5 g5 D5 H5
          go_wp2_with fail
          go_roundw
          case rel => exact ⟨k + 1, ac ++ yx, by omega, by go_num, P5, HN, by rw [List.length_append]; omega⟩
          case measure => simp [intOf]; omega
        · have hkn : k = r.ords.length := by omega
          subst hkn
          have HE1 := Lib.hid (show ac = A1 ++ ordersL (odsOf r.ords) by
            have q := HS.out
            rw [List.drop_eq_nil_of_le (Nat.le_refl _)] at q
            simpa [odsOf, ordersL] using q)
          have P := PR
          clear HS PR HOr
          obtain ⟨⟨c0, c1, c2, c3, c4, c5⟩, c6, c7, c8, c9, c10, c11⟩ := P.out.on.one.st
          go_wp2_with fail
          refine (C2.out _).mono ?_
          rintro e x2 ⟨u2, rfl, q2, b2⟩
          obtain ⟨a2, p2, e2, h2⟩ := q2.bytes Y2.out
          subst e2
          have D := Lib.hid (P.out.laid b2)
          have H2 := Lib.hid h2
          clear q2 b2 h2 P
          clear c0 c1 c2 c3 c4 c5 c6 c7 c8 c9 c10 c11
          go_wp2_with (at_builtin; go_must (refine wpList_append_bytes rfl _ _ rfl (w.heap.size + 1) _ (ac) y2 rfl D.out.own a2 p2 rfl H2.out (by omega) D.out.few ?_))
          rintro v2 w2 o2 g2
          have P := Lib.hid (D.out.put HW.out o2 g2)
          clear o2 g2 D H2
          obtain ⟨⟨c0, c1, c2, c3, c4, c5⟩, c6, c7, c8, c9, c10, c11⟩ := P.out.on.one.st
          go_wp2_with fail
          clear c0 c1 c2 c3 c4 c5 c6 c7 c8 c9 c10 c11
          have lA2 : (ac ++ y2).length ≤ 61070 := by rw [List.length_append]; omega
          obtain ⟨A2, hA2⟩ : ∃ A2, ac ++ y2 = A2 := ⟨_, rfl⟩
          have HA2 := Lib.hid hA2
          rw [hA2] at P lA2
          clear hA2 C2 Y2
          generalize wr = wo2 at *
          go_loopw [3, 77] (fun v i wr => ∃ (k : Nat) (az : List Nat), k ≤ r.bats.length ∧ i = .int .i64 k ∧ Hid (SwI w r az v wr) ∧ Hid (az ++ batchesL (btsOf (r.bats.drop k)) = A2 ++ batchesL (btsOf r.bats)) ∧ az.length ≤ 61070 + 3000 * k) (fun _ i _ => r.bats.length - (intOf i).toNat)
          case atStart => exact ⟨0, A2, Nat.zero_le _, rfl, P, Lib.hid rfl, by omega⟩
          case round =>
            clear P
            obtain ⟨k, az, hk, rfl, PR, HS, hac3⟩ := hrel
            by_cases hlt : k < r.bats.length
            · have hl := PR.out.on.st.bats
              obtain ⟨b, of, eo, hb, _, ld1, hod⟩ := hl.ld k hlt
              have hcap := hl.sl.cap
              have hrg := HBa.out _ (List.getElem_mem hlt)
              have HD := Lib.hid (batchesL_drop r.bats k hlt)
              generalize r.bats[k] = x at *
              have CX := Lib.hid (fun W hW => refBtBytes_any x.a x.c x.b W hW hrg)
              have YX := Lib.hid (batchL_bytes x.b)
              have lx := batchL_len hrg
              have HN := Lib.hid (show (az ++ batchL x.b) ++ batchesL (btsOf (r.bats.drop (k + 1))) = A2 ++ batchesL (btsOf r.bats) by rw [← HS.out, HD.out, List.append_assoc])
              have HOD := Lib.hid ((hod.below ((Below.refl _ wr).alloc (Nat.le_refl _) (Obj.cells (baC x) 98))).mem)
              have A5 := Lib.hid (PR.out.below ((Below.refl _ wr).alloc (Nat.le_refl _) (Obj.cells (baC x) 98)))
              have la := ld_ba (Row.new wr (baC x) 98)
              rw [eo]
              clear HD HS hl eo hrg hod PR
              generalize batchL x.b = yx at *
              go_wp2_with fail
              clear ld1 la
              generalize wr.alloc (.cells (baC x) 98) = W5 at *
              refine (CX.out _ HOD.out).mono ?_
              rintro e x5 ⟨u55, rfl, q5, b5⟩
              obtain ⟨a5, p5, e5, h5⟩ := q5.bytes YX.out
              subst e5
              have D5 := Lib.hid (A5.out.below b5)
              have H5 := Lib.hid h5
              clear q5 b5 h5 A5 CX HOD
              go_wp2_with (at_builtin; go_must (refine wpList_append_bytes rfl _ _ rfl (w.heap.size + 1) _ az yx rfl D5.out.own a5 p5 rfl H5.out (by omega) D5.out.few ?_))
              rintro v5 w5 o5 g5
              have P5 := Lib.hid (D5.out.put HW.out o5 g5)
              clear o5 g5 D5 H5
              go_wp2_with fail
              go_roundw
              case rel => exact ⟨k + 1, az ++ yx, by omega, by go_num, P5, HN, by rw [List.length_append]; omega⟩
              case measure => simp [intOf]; omega
            · have hkn : k = r.bats.length := by omega
              subst hkn
              have HE2 := Lib.hid (show az = A2 ++ batchesL (btsOf r.bats) by
                have q := HS.out
                rw [List.drop_eq_nil_of_le (Nat.le_refl _)] at q
                simpa [btsOf, batchesL] using q)
              have P := PR
              clear HS PR HBa
              have hle := P.out.on.st.effs.sl.cap
              have hl3 : az.length + y3.length ≤ 10000000 := by omega
              obtain ⟨⟨c0, c1, c2, c3, c4, c5⟩, c6, c7, c8, c9, c10, c11⟩ := P.out.on.one.st
              go_wp2_with fail
              refine (CE.out _ P.out.on.st.effs.sl).mono ?_
              rintro e x2 ⟨u2, rfl, q2, b2⟩
              obtain ⟨a2, p2, e2, h2⟩ := q2.bytes Y3.out
              subst e2
              have D := Lib.hid (P.out.below b2)
              have H2 := Lib.hid h2
              clear q2 b2 h2 P
              clear c0 c1 c2 c3 c4 c5 c6 c7 c8 c9 c10 c11
              go_wp2_with (at_builtin; go_must (refine wpList_append_bytes rfl _ _ rfl (w.heap.size + 1) _ (az) y3 rfl D.out.own a2 p2 rfl H2.out (by exact hl3) D.out.few ?_))
              rintro v2 w2 o2 g2
              have P := Lib.hid (D.out.put HW.out o2 g2)
              clear o2 g2 D H2
              obtain ⟨⟨c0, c1, c2, c3, c4, c5⟩, c6, c7, c8, c9, c10, c11⟩ := P.out.on.one.st
              go_wp2_with fail
              go_ret
              refine ⟨_, rfl, ?_, P.out.on.low⟩
              have q := P.out.own.base (Nat.le_succ _)
              rw [HF.out]
              have e : y0 ++ (numsL (natsI r.doors) ++ (y1 ++ (ordersL (odsOf r.ords) ++ (y2 ++ (batchesL (btsOf r.bats) ++ y3))))) = az ++ y3 := by
                rw [HE2.out, ← HA2.out, HE1.out, ← HA1.out, HE.out]
                simp only [List.append_assoc]
              rw [e]
              exact q
end

end Go.Proofs.YtfmpibmhhfmajaaGreatDoor
