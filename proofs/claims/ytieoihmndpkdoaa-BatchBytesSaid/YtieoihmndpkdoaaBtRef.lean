/- What the document's Bytes of a batch answers, at every batch that can be. -/
import Derived.Test.YtieoihmndpkdoaaBtPut
namespace Go.Proofs.Ytieoihmndpkdoaa
set_option maxRecDepth 100000
open Go.RowKit Go.ChangeShapes Go.WideShapes Go.ChangeAt

set_option maxHeartbeats 8000000 in
theorem refBtBytes_any (oa : Option Addr) (oc : Nat) (b : Bt) (w : World) (hO : StrsP w oa oc b.mem) (hr : rightBt b = true) :
    Calls Try.prog 28 #[btV oa oc b] w (OwnPost (batchL b) w) := by
  obtain ⟨r1, r2, r3, r4, r5, r6, r7, r8, _⟩ := rightBt_of hr
  obtain ⟨g1, g2, g3⟩ := groupB_of r6
  have s4 := right_32 g1
  have s5 := right_32 g2
  have s6 := right_32 g3
  have HM32 := Lib.hid (fun x hx => right_32 (r8 x hx))
  obtain ⟨i, t, f, k, p, c, z, s, ls⟩ := b
  have HLN := Lib.hid hO
  dsimp only at *
  obtain ⟨m1, rfl⟩ : ∃ m : Nat, i = (m : Int) := ⟨i.toNat, by omega⟩
  obtain ⟨m2, rfl⟩ : ∃ m : Nat, k = (m : Int) := ⟨k.toNat, by omega⟩
  obtain ⟨m3, rfl⟩ : ∃ m : Nat, p = (m : Int) := ⟨p.toNat, by omega⟩
  obtain ⟨m4, rfl⟩ : ∃ m : Nat, t = (m : Int) := ⟨t.toNat, by omega⟩
  obtain ⟨m5, rfl⟩ : ∃ m : Nat, f = (m : Int) := ⟨f.toNat, by omega⟩
  have hN : ∀ n ∈ [m1, m2, m3, m4, m5], n ≤ 1099511627776 := by
    intro n hn
    simp only [List.mem_cons, List.not_mem_nil, or_false] at hn
    rcases hn with rfl | rfl | rfl | rfl | rfl <;> omega
  obtain ⟨ns, hns⟩ : ∃ ns, [m1, m2, m3, m4, m5] = ns := ⟨_, rfl⟩
  have hnl : ns.length = 5 := by rw [← hns]; rfl
  obtain ⟨ts, hts⟩ : ∃ ts, [c, z, s] = ts := ⟨_, rfl⟩
  have htl : ts.length = 3 := by rw [← hts]; rfl
  have HT32 := Lib.hid (show ∀ x ∈ ts, x.size ≤ 32 by
    rw [← hts]
    intro x hx
    simp only [List.mem_cons, List.not_mem_nil, or_false] at hx
    rcases hx with rfl | rfl | rfl <;> assumption)
  rw [hns] at hN
  have HNS := Lib.hid hN
  have HF := Lib.hid (show batchL ⟨(m1 : Int), (m4 : Int), (m5 : Int), (m2 : Int), (m3 : Int), c, z, s, ls⟩ = ((numsL ns ++ textsL ts) ++ numL ls.length) ++ textsL ls by
    rw [← hns, ← hts]
    simp [batchL, textsL, numsL])
  have HTS := Lib.hid hts
  have HNN := Lib.hid hns
  have C2 := Lib.hid (fun W => refNumber_any ls.length W (by omega))
  have hy2l := numL_ten (show ls.length < 18446744073709551616 by omega)
  have Y2 := Lib.hid (numL_bytes ls.length)
  generalize numL ls.length = y2 at *
  have B0 := (Below.refl w.heap.size w).alloc (Nat.le_refl _) (Obj.cells #[.int .i64 (m1 : Int), .int .i64 (m4 : Int), .int .i64 (m5 : Int), .int .i64 (m2 : Int), .int .i64 (m3 : Int), .string c, .string z, .string s, .slice oa ls.length oc] 28)
  have P0 : Hid (PutB w oa oc ⟨(m1 : Int), (m4 : Int), (m5 : Int), (m2 : Int), (m3 : Int), c, z, s, ls⟩ [] (.slice (some ⟨w.heap.size + 1, 0, none⟩) 0 0) ((w.alloc (.cells #[.int .i64 (m1 : Int), .int .i64 (m4 : Int), .int .i64 (m5 : Int), .int .i64 (m2 : Int), .int .i64 (m3 : Int), .string c, .string z, .string s, .slice oa ls.length oc] 28)).alloc (.cells #[] 5))) := Lib.hid ⟨by
      have := own_fresh (w.alloc (.cells #[.int .i64 (m1 : Int), .int .i64 (m4 : Int), .int .i64 (m5 : Int), .int .i64 (m2 : Int), .int .i64 (m3 : Int), .string c, .string z, .string s, .slice oa ls.length oc] 28)) (w.heap.size + 1) (by simp)
      rwa [show (w.alloc (.cells #[.int .i64 (m1 : Int), .int .i64 (m4 : Int), .int .i64 (m5 : Int), .int .i64 (m2 : Int), .int .i64 (m3 : Int), .string c, .string z, .string s, .slice oa ls.length oc] 28)).heap.size = w.heap.size + 1 by simp] at this,
    BtB.below (b := ⟨(m1 : Int), (m4 : Int), (m5 : Int), (m2 : Int), (m3 : Int), c, z, s, ls⟩) (BtB.new w oa oc ⟨(m1 : Int), (m4 : Int), (m5 : Int), (m2 : Int), (m3 : Int), c, z, s, ls⟩) ((Below.refl _ _).alloc (Nat.le_refl _) _), B0.alloc B0.size _, by simp⟩
  have hn2 : IntKind.u64.wrap (ls.length : Int) = (ls.length : Int) := by rw [IntKind.wrap_u64]; omega
  clear hr r1 r2 r3 r4 r5 r6 r8 g1 g2 g3 hO s4 s5 s6 hN hns hts B0
  generalize ho : (⟨(m1 : Int), (m4 : Int), (m5 : Int), (m2 : Int), (m3 : Int), c, z, s, ls⟩ : Bt) = o at *
  have HOD := Lib.hid ho
  have cellsO : ∀ (W : World), BtB W w.heap.size oa oc o → ((W.cell? ⟨w.heap.size, 0, none⟩ = some (.int .i64 (m1 : Int)) ∧ W.cell? ⟨w.heap.size, 1, none⟩ = some (.int .i64 (m4 : Int)) ∧ W.cell? ⟨w.heap.size, 2, none⟩ = some (.int .i64 (m5 : Int)) ∧ W.cell? ⟨w.heap.size, 3, none⟩ = some (.int .i64 (m2 : Int)) ∧ W.cell? ⟨w.heap.size, 4, none⟩ = some (.int .i64 (m3 : Int))) ∧
      W.cell? ⟨w.heap.size, 5, none⟩ = some (.string c) ∧ W.cell? ⟨w.heap.size, 6, none⟩ = some (.string z) ∧ W.cell? ⟨w.heap.size, 7, none⟩ = some (.string s) ∧ W.cell? ⟨w.heap.size, 8, none⟩ = some (.slice oa ls.length oc)) := by
    intro W h
    rw [← HOD.out] at h
    exact BtB.cells (b := ⟨(m1 : Int), (m4 : Int), (m5 : Int), (m2 : Int), (m3 : Int), c, z, s, ls⟩) h
  have CO := Lib.hid cellsO
  clear cellsO
  have hov : btV oa oc o = .agg #[.int .i64 (m1 : Int), .int .i64 (m4 : Int), .int .i64 (m5 : Int), .int .i64 (m2 : Int), .int .i64 (m3 : Int), .string c, .string z, .string s, .slice oa ls.length oc] := by rw [← ho]; rfl
  rw [hov]
  clear ho hov
  have A0 := Lib.hid (P0.out.below ((Below.refl _ _).alloc (Nat.le_refl _) (Obj.cells #[Value.int .i64 (m1 : Int), Value.int .i64 (m2 : Int), Value.int .i64 (m3 : Int), Value.int .i64 (m4 : Int), Value.int .i64 (m5 : Int)] 2)))
  have RN : Hid (Row (((w.alloc (.cells #[.int .i64 (m1 : Int), .int .i64 (m4 : Int), .int .i64 (m5 : Int), .int .i64 (m2 : Int), .int .i64 (m3 : Int), .string c, .string z, .string s, .slice oa ls.length oc] 28)).alloc (.cells #[] 5)).alloc (Obj.cells #[Value.int .i64 (m1 : Int), Value.int .i64 (m2 : Int), Value.int .i64 (m3 : Int), Value.int .i64 (m4 : Int), Value.int .i64 (m5 : Int)] 2)) (w.heap.size + 2) 2 (ns.map fun n : Nat => Value.int .i64 (n : Int)).toArray) := Lib.hid (by
    rw [← HNN.out]
    have := heap_alloc_new ((w.alloc (.cells #[.int .i64 (m1 : Int), .int .i64 (m4 : Int), .int .i64 (m5 : Int), .int .i64 (m2 : Int), .int .i64 (m3 : Int), .string c, .string z, .string s, .slice oa ls.length oc] 28)).alloc (.cells #[] 5)) (Obj.cells #[Value.int .i64 (m1 : Int), Value.int .i64 (m2 : Int), Value.int .i64 (m3 : Int), Value.int .i64 (m4 : Int), Value.int .i64 (m5 : Int)] 2)
    rwa [show ((w.alloc (.cells #[.int .i64 (m1 : Int), .int .i64 (m4 : Int), .int .i64 (m5 : Int), .int .i64 (m2 : Int), .int .i64 (m3 : Int), .string c, .string z, .string s, .slice oa ls.length oc] 28)).alloc (.cells #[] 5)).heap.size = w.heap.size + 2 by simp] at this)
  have hz2 : w.heap.size + 2 ≠ w.heap.size := by omega
  obtain ⟨⟨c0, c1, c2, c3, c4⟩, c5, c6, c7, c8⟩ := CO.out _ P0.out.bat
  go_enter Try.func28, Try.ntmps28
  go_wp2_with fail
  clear c0 c1 c2 c3 c4 c5 c6 c7 c8
  clear P0
  generalize ((w.alloc (Obj.cells #[Value.int .i64 (m1 : Int), Value.int .i64 (m4 : Int), Value.int .i64 (m5 : Int), Value.int .i64 (m2 : Int), Value.int .i64 (m3 : Int), Value.string c, Value.string z, Value.string s, Value.slice oa ls.length oc] 28)).alloc (Obj.cells #[] 5)).alloc (Obj.cells #[Value.int .i64 (m1 : Int), Value.int .i64 (m2 : Int), Value.int .i64 (m3 : Int), Value.int .i64 (m4 : Int), Value.int .i64 (m5 : Int)] 2) = W0 at *
  go_loopw [3, 23] (fun v i wr => ∃ (k : Nat) (acc : List Nat), k ≤ 5 ∧ i = .int .i64 k ∧ Hid (PutB w oa oc o acc v wr) ∧ Hid (Row wr (w.heap.size + 2) 2 (ns.map fun n : Nat => Value.int .i64 (n : Int)).toArray) ∧ Hid (acc ++ numsL (ns.drop k) = numsL ns) ∧ acc.length ≤ 10 * k) (fun _ i _ => 5 - (intOf i).toNat)
  case atStart => exact ⟨0, [], Nat.zero_le _, rfl, A0, RN, Lib.hid rfl, by simp⟩
  case round =>
    obtain ⟨k, acc, hk, rfl, PR, RT, HS, hac⟩ := hrel
    cases hlt : decide ((k : Int) < 5) with
    | true =>
      have hlt' : k < 5 := by simp at hlt; omega
      have hkt : k < ns.length := by omega
      have ct := RT.out.nth k hkt
      have hx := HNS.out _ (List.getElem_mem hkt)
      have HD := Lib.hid (numsL_drop hkt)
      generalize ns[k] = x at *
      have ex : IntKind.u64.wrap (x : Int) = (x : Int) := by rw [IntKind.wrap_u64]; omega
      have C1 := Lib.hid (fun W => refNumber_any x W (by omega))
      have hyl := numL_ten (show x < 18446744073709551616 by omega)
      have YB := Lib.hid (numL_bytes x)
      have HN := Lib.hid (show (acc ++ numL x) ++ numsL (ns.drop (k + 1)) = numsL ns by rw [← HS.out, HD.out, List.append_assoc])
      clear HD HS hx
      generalize numL x = y at *
      go_wp2_with fail
      refine (C1.out _).mono ?_
      rintro e x1 ⟨u1, rfl, q1, b1⟩
      obtain ⟨a1, p1, e1, h1⟩ := q1.bytes YB.out
      subst e1
      have D1 := Lib.hid (PR.out.below b1)
      have H1 := Lib.hid h1
      have RTd := Lib.hid (RT.out.below b1)
      clear q1 b1 h1
      go_wp2_with (at_builtin; go_must (refine wpList_append_bytes rfl _ _ rfl (w.heap.size + 1) _ (acc) y rfl D1.out.own a1 p1 rfl H1.out (by omega) D1.out.few ?_))
      rintro v1 w1 o1 g1
      have P1 := Lib.hid (D1.out.put o1 g1)
      have RTp := Lib.hid (RTd.out.own D1.out.own (by decide) g1)
      clear o1 g1 D1 H1
      have HL := Lib.hid (show (acc ++ y).length ≤ 10 * (k + 1) by rw [List.length_append]; omega)
      go_wp2_with fail
      go_roundw
      case rel => exact ⟨k + 1, acc ++ y, by omega, by go_num, P1, RTp, HN, HL.out⟩
      case measure => simp [intOf]; omega
    | false =>
      have HE := Lib.hid (show acc = numsL ns by
        have hlt' : ¬ k < 5 := by simp at hlt; omega
        have := HS.out
        rw [List.drop_eq_nil_of_le (by omega)] at this
        simpa [numsL] using this)
      have HL8 := Lib.hid (show acc.length ≤ 50 by omega)
      have A8 := Lib.hid (PR.out.below ((Below.refl _ wr).alloc (Nat.le_refl _) (Obj.cells #[Value.string c, Value.string z, Value.string s] 9)))
      have RT2 : Hid (Row (wr.alloc (Obj.cells #[Value.string c, Value.string z, Value.string s] 9)) wr.heap.size 9 (ts.map Value.string).toArray) := Lib.hid (by rw [← HTS.out]; exact heap_alloc_new _ _)
      obtain ⟨⟨c0, c1, c2, c3, c4⟩, c5, c6, c7, c8⟩ := CO.out _ PR.out.bat
      go_wp2_with fail
      clear c0 c1 c2 c3 c4 c5 c6 c7 c8
      clear PR HS hac RT
      generalize wr.alloc (Obj.cells #[Value.string c, Value.string z, Value.string s] 9) = W8 at *
      generalize wr.heap.size = XX at *
      generalize acc = acc0 at *
      go_loopw [3, 44] (fun v i wr => ∃ (k : Nat) (acc : List Nat), k ≤ 3 ∧ i = .int .i64 k ∧ Hid (PutB w oa oc o acc v wr) ∧ Hid (Row wr XX 9 (ts.map Value.string).toArray) ∧ Hid (acc ++ textsL (ts.drop k) = acc0 ++ textsL ts) ∧ acc.length ≤ 50 + 50 * k) (fun _ i _ => 3 - (intOf i).toNat)
      case atStart => exact ⟨0, acc0, Nat.zero_le _, rfl, A8, RT2, Lib.hid rfl, HL8.out⟩
      case round =>
        obtain ⟨k, acc, hk, rfl, PR, RT, HS, hac⟩ := hrel
        cases hlt : decide ((k : Int) < 3) with
        | true =>
          have hlt' : k < 3 := by simp at hlt; omega
          have hkt : k < ts.length := by omega
          have ct := RT.out.nth k hkt
          have hx := HT32.out _ (List.getElem_mem hkt)
          have HD := Lib.hid (textsL_drop hkt)
          generalize ts[k] = x at *
          have C9 := Lib.hid (fun W => refText_any x W (by omega))
          have hy9l := textL_32 hx
          have Y9 := Lib.hid (textL_bytes x)
          have HN := Lib.hid (show (acc ++ textL x) ++ textsL (ts.drop (k + 1)) = acc0 ++ textsL ts by rw [← HS.out, HD.out, List.append_assoc])
          clear HD HS hx
          generalize textL x = y9 at *
          go_wp2_with fail
          refine (C9.out _).mono ?_
          rintro e x9 ⟨u99, rfl, q9, b9⟩
          obtain ⟨a9, p9, e9, h9⟩ := q9.bytes Y9.out
          subst e9
          have D9 := Lib.hid (PR.out.below b9)
          have H9 := Lib.hid h9
          have RTd := Lib.hid (RT.out.below b9)
          clear q9 b9 h9
          go_wp2_with (at_builtin; go_must (refine wpList_append_bytes rfl _ _ rfl (w.heap.size + 1) _ (acc) y9 rfl D9.out.own a9 p9 rfl H9.out (by omega) D9.out.few ?_))
          rintro v9 w9 o9 g9
          have P9 := Lib.hid (D9.out.put o9 g9)
          have RTp := Lib.hid (RTd.out.own D9.out.own (by decide) g9)
          clear o9 g9 D9 H9
          have HL9 := Lib.hid (show (acc ++ y9).length ≤ 50 + 50 * (k + 1) by rw [List.length_append]; omega)
          go_wp2_with fail
          go_roundw
          case rel => exact ⟨k + 1, acc ++ y9, by omega, by go_num, P9, RTp, HN, HL9.out⟩
          case measure => simp [intOf]; omega
        | false =>
          have HE2 := Lib.hid (show acc = acc0 ++ textsL ts by
            have hlt' : ¬ k < 3 := by simp at hlt; omega
            have := HS.out
            rw [List.drop_eq_nil_of_le (by omega)] at this
            simpa [textsL] using this)
          have hac2 : acc.length ≤ 200 := by omega
          obtain ⟨⟨c0, c1, c2, c3, c4⟩, c5, c6, c7, c8⟩ := CO.out _ PR.out.bat
          clear HS hac RT
          go_wp2_with fail
          clear c0 c1 c2 c3 c4 c5 c6 c7 c8
          refine (C2.out _).mono ?_
          rintro e x2 ⟨u22, rfl, q2, b2⟩
          obtain ⟨a2, p2, e2, h2⟩ := q2.bytes Y2.out
          subst e2
          have D2 := Lib.hid (PR.out.below b2)
          have H2 := Lib.hid h2
          clear q2 b2 h2
          go_wp2_with (at_builtin; go_must (refine wpList_append_bytes rfl _ _ rfl (w.heap.size + 1) _ (acc) y2 rfl D2.out.own a2 p2 rfl H2.out (by omega) D2.out.few ?_))
          rintro v2 w2 o2 g2
          have P2 := Lib.hid (D2.out.put o2 g2)
          clear o2 g2 D2 H2 PR
          obtain ⟨⟨c0, c1, c2, c3, c4⟩, c5, c6, c7, c8⟩ := CO.out _ P2.out.bat
          have HL10 := Lib.hid (show (acc ++ y2).length ≤ 300 by rw [List.length_append]; omega)
          go_wp2_with fail
          clear c0 c1 c2 c3 c4 c5 c6 c7 c8
          obtain ⟨accX, hX⟩ : ∃ q, acc ++ y2 = q := ⟨_, rfl⟩
          rw [hX] at P2 HL10
          have HX := Lib.hid hX
          clear hX
          go_loopw [3, 63] (fun v i wr => ∃ (k : Nat) (acc : List Nat), k ≤ ls.length ∧ i = .int .i64 k ∧ Hid (PutB w oa oc o acc v wr) ∧ Hid (acc ++ textsL (ls.drop k) = accX ++ textsL ls) ∧ acc.length ≤ 300 + 50 * k) (fun _ i _ => ls.length - (intOf i).toNat)
          case atStart => exact ⟨0, accX, Nat.zero_le _, rfl, P2, Lib.hid rfl, HL10.out⟩
          case round =>
            obtain ⟨k, acc1, hk, rfl, PR, HS, hac⟩ := hrel
            by_cases hlt : k < ls.length
            · have HLR := Lib.hid (HLN.out.below PR.out.low)
              obtain ⟨bb, oo, rfl, q1, g1⟩ := HLR.out.at k hlt
              have pc := HLR.out.cap
              have hx := HM32.out _ (List.getElem_mem hlt)
              have HD := Lib.hid (textsL_drop hlt)
              generalize ls[k] = x at *
              have C9 := Lib.hid (fun W => refText_any x W (by omega))
              have hy9l := textL_32 hx
              have Y9 := Lib.hid (textL_bytes x)
              have HN := Lib.hid (show (acc1 ++ textL x) ++ textsL (ls.drop (k + 1)) = accX ++ textsL ls by rw [← HS.out, HD.out, List.append_assoc])
              clear HD HS hx
              generalize textL x = y9 at *
              go_wp2_with fail
              refine (C9.out _).mono ?_
              rintro e x9 ⟨u99, rfl, q9, b9⟩
              obtain ⟨a9, p9, e9, h9⟩ := q9.bytes Y9.out
              subst e9
              have D9 := Lib.hid (PR.out.below b9)
              have H9 := Lib.hid h9
              clear q9 b9 h9
              go_wp2_with (at_builtin; go_must (refine wpList_append_bytes rfl _ _ rfl (w.heap.size + 1) _ (acc1) y9 rfl D9.out.own a9 p9 rfl H9.out (by omega) D9.out.few ?_))
              rintro v9 w9 o9 g9
              have P9 := Lib.hid (D9.out.put o9 g9)
              clear o9 g9 D9 H9
              have HL9 := Lib.hid (show (acc1 ++ y9).length ≤ 300 + 50 * (k + 1) by rw [List.length_append]; omega)
              go_wp2_with fail
              go_roundw
              case rel => exact ⟨k + 1, acc1 ++ y9, by omega, by go_num, P9, HN, HL9.out⟩
              case measure => simp [intOf]; omega
            · have HE3 := Lib.hid (show acc1 = accX ++ textsL ls by
                have := HS.out
                rw [List.drop_eq_nil_of_le (by omega)] at this
                simpa [textsL] using this)
              go_wp2_with fail
              go_ret
              refine ⟨_, rfl, ?_, PR.out.low⟩
              rw [HF.out, ← HE.out, ← HE2.out, HX.out, ← HE3.out]
              exact PR.out.own.base (by omega)

end Go.Proofs.Ytieoihmndpkdoaa
