/- What the document's Right of batches answers, at every batch. -/
import Derived.Test.YtieoihmndpkdoaaBtRight
namespace Go.Proofs.Ytieoihmndpkdoaa
set_option maxRecDepth 100000
open Go.RowKit

theorem right_doc (b : Bt) : rightBt b = (!decide (b.id < 1) && (!decide (1000000000000 < b.id) && (tallyB b.wt && (tickB b.born && (!decide (64 < (b.mem.length : Int)) && ((!((b.kind != 1) && (b.kind != 2))) && (!decide (b.phase < 1) && (!decide (3 < b.phase) && (groupB b.car b.zone b.serv && goodM [] b.mem))))))))) := by
  rw [Bool.eq_iff_iff]
  simp only [rightBt, membersB, kindB, btPhaseB, aboveB, Bool.and_eq_true, decide_eq_true_eq, Bool.not_eq_true', Bool.and_eq_false_iff, decide_eq_false_iff_not, bne_eq_false_iff_eq, Int.not_lt]
  constructor
  · rintro ⟨⟨h1, h2⟩, h3, h4, h5, ⟨h6, h7⟩, h8, h9, h10⟩
    exact ⟨h1, h2, h3, h4, by omega, h5, h6, h7, h8, h10⟩
  · rintro ⟨h1, h2, h3, h4, h5, h6, h7, h8, h9, h10⟩
    exact ⟨⟨h1, h2⟩, h3, h4, h6, ⟨h7, h8⟩, h9, by omega, h10⟩

theorem hasT_take (l : List ByteArray) (x : ByteArray) {j : Nat} (h : j < l.length) (hn : hasT (l.take j) x = false) (hx : (l[j].toList == x.toList) = false) : hasT (l.take (j + 1)) x = false := by
  rw [hasT_no] at hn ⊢
  rw [List.take_succ_eq_append_getElem h, List.mem_append, List.mem_singleton, not_or]
  refine ⟨hn, fun e => ?_⟩
  rw [str_eq e.symm] at hx
  cases hx
theorem hasT_found (l : List ByteArray) (x : ByteArray) {j k : Nat} (h : j < l.length) (hk : j < k) (hx : (l[j].toList == x.toList) = true) : hasT (l.take k) x = true := by
  rw [hasT_iff, List.mem_take_iff_getElem]
  exact ⟨j, by omega, (toList_iff _ _).1 hx⟩

set_option maxHeartbeats 8000000 in
theorem refBtRight_any (a : Option Addr) (cap : Nat) (b : Bt) (w : World) (h : BtP w a cap b) : Calls Try.prog 17 #[btV a cap b] w (Tell (rightBt b) w) := by
  have C2 := Lib.hid (fun w => refTally_any b.wt w)
  have C3 := Lib.hid (fun w => refTick_any b.born w)
  have C4 := Lib.hid (fun w => refGroup_any b.car b.zone b.serv w h.car h.zone h.serv)
  have D := Lib.hid (BtB.new w a cap b)
  have B := Lib.hid ((Below.refl w.heap.size w).alloc (Nat.le_refl _) (Obj.cells (btC a cap b) 28))
  have L := Lib.hid (h.mem.below B.out)
  have HF := Lib.hid h.fit
  have hl := h.mem.len
  have hcp := h.mem.cap
  have HE := Lib.hid (right_doc b)
  clear h
  unfold btV
  unfold btC at *
  go_enter Try.func17, Try.ntmps17
  cases a1 : decide (b.id < 1) with
  | true =>
    go_wp2_with fail
    go_ret
    exact ⟨by rw [HE.out, a1]; rfl, B.out⟩
  | false =>
    cases a2 : decide (1000000000000 < b.id) with
    | true =>
      go_wp2_with fail
      go_ret
      exact ⟨by rw [HE.out, a1, a2]; rfl, B.out⟩
    | false =>
      go_wp2_with fail
      generalize w.alloc (Obj.cells #[Value.int IntKind.i64 b.id, Value.int IntKind.i64 b.wt, Value.int IntKind.i64 b.born, Value.int IntKind.i64 b.kind, Value.int IntKind.i64 b.phase, Value.string b.car, Value.string b.zone, Value.string b.serv, Value.slice a b.mem.length cap] 28) = W at *
      obtain ⟨⟨c0, c1, c2, c3, c4⟩, c5, c6, c7, c8⟩ := BtB.cells (b := b) D.out
      refine (C2.out _).mono ?_
      rintro e w1 ⟨rfl, rfl⟩
      cases h2 : tallyB b.wt with
      | false =>
        go_wp2_with fail
        go_ret
        exact ⟨by rw [HE.out, a1, a2, h2]; rfl, B.out⟩
      | true =>
        go_wp2_with fail
        refine (C3.out _).mono ?_
        rintro e w1 ⟨rfl, rfl⟩
        cases h3 : tickB b.born with
        | false =>
          go_wp2_with fail
          go_ret
          exact ⟨by rw [HE.out, a1, a2, h2, h3]; rfl, B.out⟩
        | true =>
          cases h5 : decide (64 < (b.mem.length : Int)) with
          | true =>
            go_wp2_with fail
            go_ret
            exact ⟨by rw [HE.out, a1, a2, h2, h3, h5]; rfl, B.out⟩
          | false =>
            cases hk : ((b.kind != 1) && (b.kind != 2)) with
            | true =>
              have hk2 := hk
              rw [Bool.and_eq_true] at hk2
              obtain ⟨ka, kb⟩ := hk2
              go_wp2_with fail
              go_ret
              exact ⟨by rw [HE.out, a1, a2, h2, h3, h5, hk]; rfl, B.out⟩
            | false =>
              cases ka : (b.kind != 1) with
              | true =>
                have kb : (b.kind != 2) = false := by rw [ka] at hk; exact hk
                cases p1 : decide (b.phase < 1) with
                | true =>
                  go_wp2_with fail
                  go_ret
                  exact ⟨by rw [HE.out, a1, a2, h2, h3, h5, hk, p1]; rfl, B.out⟩
                | false =>
                  cases p2 : decide (3 < b.phase) with
                  | true =>
                    go_wp2_with fail
                    go_ret
                    exact ⟨by rw [HE.out, a1, a2, h2, h3, h5, hk, p1, p2]; rfl, B.out⟩
                  | false =>
                    go_wp2_with fail
                    refine (C4.out _).mono ?_
                    rintro e w1 ⟨rfl, b1⟩
                    have D1 := Lib.hid (BtB.below (b := b) D.out b1)
                    have B1 := Lib.hid (B.out.trans (b1.mono B.out.size))
                    have L1 := Lib.hid (L.out.below b1)
                    obtain ⟨⟨d0, d1, d2, d3, d4⟩, d5, d6, d7, d8⟩ := BtB.cells (b := b) D1.out
                    clear b1 c0 c1 c2 c3 c4 c5 c6 c7 c8
                    cases h4 : groupB b.car b.zone b.serv with
                    | false =>
                      go_wp2_with fail
                      go_ret
                      exact ⟨by rw [HE.out, a1, a2, h2, h3, h5, hk, p1, p2, h4]; rfl, B1.out⟩
                    | true =>
                      have HM := Lib.hid (show rightBt b = goodM [] b.mem by rw [HE.out, a1, a2, h2, h3, h5, hk, p1, p2, h4]; rfl)
                      clear HE
                      clear L D B
                      have L := L1
                      have D := D1
                      have B := B1
                      clear L1 D1 B1
                      have BW := Lib.hid (Below.refl w1.heap.size w1)
                      have hsz0 := BtB.lt (b := b) D.out
                      clear d0 d1 d2 d3 d4 d5 d6 d7
                      go_wp2_with fail
                      go_loopw [59] (fun i wr => ∃ k : Nat, k ≤ b.mem.length ∧ i = .int .i64 k ∧ Hid (rightBt b = goodM (b.mem.take k) (b.mem.drop k)) ∧ Hid (Below w1.heap.size w1 wr)) (fun i _ => b.mem.length - (intOf i).toNat)
                      case atStart => exact ⟨0, Nat.zero_le _, rfl, HM, BW⟩
                      case round =>
                        obtain ⟨k, hk', rfl, HK, HW⟩ := hrel
                        by_cases hlt : k < b.mem.length
                        · have HP := Lib.hid (L.out.below HW.out)
                          have DW := Lib.hid (BtB.below (b := b) D.out HW.out)
                          obtain ⟨bb, oo, ha, q1, g1⟩ := HP.out.at k hlt
                          subst ha
                          have HS := Lib.hid (goodM_step b.mem k hlt)
                          have hsz := HF.out b.mem[k] (List.getElem_mem hlt)
                          have C := Lib.hid (fun w => show Calls Try.prog 46 #[.string b.mem[k]] w (Tell (rightT b.mem[k]) w) from refRight_any b.mem[k] w hsz)
                          clear hsz
                          generalize b.mem[k] = x at *
                          cases hr : rightT x with
                          | false =>
                            rw [hr] at C
                            have HE := Lib.hid (show rightBt b = false by rw [HK.out, HS.out, hr]; rfl)
                            go_wp2_with fail
                            refine (C.out _).mono ?_
                            rintro e w2 ⟨rfl, b2⟩
                            go_wp2_with fail
                            go_ret
                            exact ⟨by rw [HE.out]; rfl, B.out.trans ((HW.out.trans (b2.mono HW.out.size)).mono B.out.size)⟩
                          | true =>
                            rw [hr] at C
                            go_wp2_with fail
                            refine (C.out _).mono ?_
                            rintro e w2 ⟨rfl, b2⟩
                            have HW2 := Lib.hid (HW.out.trans (b2.mono HW.out.size))
                            have HP2 := Lib.hid (HP.out.below b2)
                            have DW2 := Lib.hid (BtB.below (b := b) DW.out b2)
                            clear b2 g1 q1
                            go_wp2_with fail
                            go_loopw [5] (fun i wr => ∃ j : Nat, j ≤ k ∧ i = .int .i64 j ∧ wr = w2 ∧ Hid (hasT (b.mem.take j) x = false)) (fun i _ => k - (intOf i).toNat)
                            case atStart => exact ⟨0, Nat.zero_le _, rfl, rfl, Lib.hid rfl⟩
                            case round =>
                              obtain ⟨j, hj, rfl, rfl, HJ⟩ := hrel
                              by_cases hjk : j < k
                              · obtain ⟨b3, o3, e3, q3, g3⟩ := HP2.out.at j (by omega)
                                injection e3 with e3
                                injection e3 with e3 e4
                                subst e3 e4
                                obtain ⟨_, _, _, _, d8⟩ := BtB.cells (b := b) DW2.out
                                have hjl : j < b.mem.length := by omega
                                have HT := Lib.hid (fun e => hasT_take b.mem x hjl HJ.out e)
                                have HU := Lib.hid (fun e => hasT_found b.mem x hjl hjk e)
                                generalize b.mem[j] = y at *
                                cases hy : (y.toList == x.toList) with
                                | true =>
                                  have HE := Lib.hid (show rightBt b = false by rw [HK.out, HS.out, hr, HU.out hy]; rfl)
                                  go_wp2_with fail
                                  go_ret
                                  exact ⟨by rw [HE.out]; rfl, B.out.trans (HW2.out.mono B.out.size)⟩
                                | false =>
                                  have HN := Lib.hid (HT.out hy)
                                  go_wp2_with fail
                                  go_roundw
                                  case rel => exact ⟨j + 1, by omega, by go_num, by trivial, HN⟩
                                  case measure => simp [intOf]; omega
                              · obtain rfl : j = k := by omega
                                have HE := Lib.hid (show rightBt b = goodM (b.mem.take (j + 1)) (b.mem.drop (j + 1)) by rw [HK.out, HS.out, hr, HJ.out]; rfl)
                                go_wp2_with fail
                                go_roundw
                                case rel => exact ⟨j + 1, by omega, by go_num, HE, HW2⟩
                                case measure => simp [intOf]; omega
                        · have HE := Lib.hid (show rightBt b = true by rw [HK.out, List.drop_eq_nil_of_le (by omega)]; rfl)
                          go_wp2_with fail
                          go_ret
                          exact ⟨by rw [HE.out]; rfl, B.out.trans (HW.out.mono B.out.size)⟩
              | false =>
                cases p1 : decide (b.phase < 1) with
                | true =>
                  go_wp2_with fail
                  go_ret
                  exact ⟨by rw [HE.out, a1, a2, h2, h3, h5, hk, p1]; rfl, B.out⟩
                | false =>
                  cases p2 : decide (3 < b.phase) with
                  | true =>
                    go_wp2_with fail
                    go_ret
                    exact ⟨by rw [HE.out, a1, a2, h2, h3, h5, hk, p1, p2]; rfl, B.out⟩
                  | false =>
                    go_wp2_with fail
                    refine (C4.out _).mono ?_
                    rintro e w1 ⟨rfl, b1⟩
                    have D1 := Lib.hid (BtB.below (b := b) D.out b1)
                    have B1 := Lib.hid (B.out.trans (b1.mono B.out.size))
                    have L1 := Lib.hid (L.out.below b1)
                    obtain ⟨⟨d0, d1, d2, d3, d4⟩, d5, d6, d7, d8⟩ := BtB.cells (b := b) D1.out
                    clear b1 c0 c1 c2 c3 c4 c5 c6 c7 c8
                    cases h4 : groupB b.car b.zone b.serv with
                    | false =>
                      go_wp2_with fail
                      go_ret
                      exact ⟨by rw [HE.out, a1, a2, h2, h3, h5, hk, p1, p2, h4]; rfl, B1.out⟩
                    | true =>
                      have HM := Lib.hid (show rightBt b = goodM [] b.mem by rw [HE.out, a1, a2, h2, h3, h5, hk, p1, p2, h4]; rfl)
                      clear HE
                      clear L D B
                      have L := L1
                      have D := D1
                      have B := B1
                      clear L1 D1 B1
                      have BW := Lib.hid (Below.refl w1.heap.size w1)
                      have hsz0 := BtB.lt (b := b) D.out
                      clear d0 d1 d2 d3 d4 d5 d6 d7
                      go_wp2_with fail
                      go_loopw [59] (fun i wr => ∃ k : Nat, k ≤ b.mem.length ∧ i = .int .i64 k ∧ Hid (rightBt b = goodM (b.mem.take k) (b.mem.drop k)) ∧ Hid (Below w1.heap.size w1 wr)) (fun i _ => b.mem.length - (intOf i).toNat)
                      case atStart => exact ⟨0, Nat.zero_le _, rfl, HM, BW⟩
                      case round =>
                        obtain ⟨k, hk', rfl, HK, HW⟩ := hrel
                        by_cases hlt : k < b.mem.length
                        · have HP := Lib.hid (L.out.below HW.out)
                          have DW := Lib.hid (BtB.below (b := b) D.out HW.out)
                          obtain ⟨bb, oo, ha, q1, g1⟩ := HP.out.at k hlt
                          subst ha
                          have HS := Lib.hid (goodM_step b.mem k hlt)
                          have hsz := HF.out b.mem[k] (List.getElem_mem hlt)
                          have C := Lib.hid (fun w => show Calls Try.prog 46 #[.string b.mem[k]] w (Tell (rightT b.mem[k]) w) from refRight_any b.mem[k] w hsz)
                          clear hsz
                          generalize b.mem[k] = x at *
                          cases hr : rightT x with
                          | false =>
                            rw [hr] at C
                            have HE := Lib.hid (show rightBt b = false by rw [HK.out, HS.out, hr]; rfl)
                            go_wp2_with fail
                            refine (C.out _).mono ?_
                            rintro e w2 ⟨rfl, b2⟩
                            go_wp2_with fail
                            go_ret
                            exact ⟨by rw [HE.out]; rfl, B.out.trans ((HW.out.trans (b2.mono HW.out.size)).mono B.out.size)⟩
                          | true =>
                            rw [hr] at C
                            go_wp2_with fail
                            refine (C.out _).mono ?_
                            rintro e w2 ⟨rfl, b2⟩
                            have HW2 := Lib.hid (HW.out.trans (b2.mono HW.out.size))
                            have HP2 := Lib.hid (HP.out.below b2)
                            have DW2 := Lib.hid (BtB.below (b := b) DW.out b2)
                            clear b2 g1 q1
                            go_wp2_with fail
                            go_loopw [5] (fun i wr => ∃ j : Nat, j ≤ k ∧ i = .int .i64 j ∧ wr = w2 ∧ Hid (hasT (b.mem.take j) x = false)) (fun i _ => k - (intOf i).toNat)
                            case atStart => exact ⟨0, Nat.zero_le _, rfl, rfl, Lib.hid rfl⟩
                            case round =>
                              obtain ⟨j, hj, rfl, rfl, HJ⟩ := hrel
                              by_cases hjk : j < k
                              · obtain ⟨b3, o3, e3, q3, g3⟩ := HP2.out.at j (by omega)
                                injection e3 with e3
                                injection e3 with e3 e4
                                subst e3 e4
                                obtain ⟨_, _, _, _, d8⟩ := BtB.cells (b := b) DW2.out
                                have hjl : j < b.mem.length := by omega
                                have HT := Lib.hid (fun e => hasT_take b.mem x hjl HJ.out e)
                                have HU := Lib.hid (fun e => hasT_found b.mem x hjl hjk e)
                                generalize b.mem[j] = y at *
                                cases hy : (y.toList == x.toList) with
                                | true =>
                                  have HE := Lib.hid (show rightBt b = false by rw [HK.out, HS.out, hr, HU.out hy]; rfl)
                                  go_wp2_with fail
                                  go_ret
                                  exact ⟨by rw [HE.out]; rfl, B.out.trans (HW2.out.mono B.out.size)⟩
                                | false =>
                                  have HN := Lib.hid (HT.out hy)
                                  go_wp2_with fail
                                  go_roundw
                                  case rel => exact ⟨j + 1, by omega, by go_num, by trivial, HN⟩
                                  case measure => simp [intOf]; omega
                              · obtain rfl : j = k := by omega
                                have HE := Lib.hid (show rightBt b = goodM (b.mem.take (j + 1)) (b.mem.drop (j + 1)) by rw [HK.out, HS.out, hr, HJ.out]; rfl)
                                go_wp2_with fail
                                go_roundw
                                case rel => exact ⟨j + 1, by omega, by go_num, HE, HW2⟩
                                case measure => simp [intOf]; omega
                        · have HE := Lib.hid (show rightBt b = true by rw [HK.out, List.drop_eq_nil_of_le (by omega)]; rfl)
                          go_wp2_with fail
                          go_ret
                          exact ⟨by rw [HE.out]; rfl, B.out.trans (HW.out.mono B.out.size)⟩

end Go.Proofs.Ytieoihmndpkdoaa
