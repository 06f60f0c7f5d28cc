/- What the document's Room, Put and Top of layer 8 answer. -/
import Derived.Test.YtipikkniookanaaMkRef2
import Derived.Test.YtipikkniookanaaRel
namespace Go.Proofs.Ytipikkniookanaa
set_option maxRecDepth 100000
open Go.RowKit

attribute [local go_sem ↓] ld26 ld66 st26 st66 bx26 al26 al66 bd26 bd66 bs61 bs48 mk48 eq26 ap61 ap48 ap49 cp46 cp48
attribute [local go_sem] bx_agg al_cell al_wr bd_zero bd_one bd_two bd_nine

/-- Put of marks, on the document's plate. -/
def Rf.mput (r : Rf) (side : Int) (round : Nat) (at_ : Int) (l : List Nat) : Int × Rf :=
  if okPut r.seen.length side round at_ l.length then r.put ((side.toNat * (r.seen.length / 2) + at_.toNat : Nat) : Int) (markedC (markN round at_.toNat) l) else (81, r)

section
variable {w w1 : World} {R : Nat → Prop} {g : Nat} {sv lv av wv : Value} {r : Rf}

theorem RefPost.of_below {p : Int × Rf} (hd : ∀ k, R k → k < w.heap.size) (hb : Below w.heap.size w w1) {e : Ending} {w' : World} (h : RefPost p R g w1 e w') : RefPost p R g w e w' := by
  obtain ⟨h1, ⟨sv, lv, av, wv, h2⟩, h3⟩ := h
  have hk : Keep R w w' := (Keep.of_below (Keep.refl R w) hb).trans h3 (fun _ _ e => e)
  refine ⟨h1, ⟨sv, lv, av, wv, h2.mono (fun k hr => ?_) (fun k hr => ?_)⟩, hk⟩
  · rcases hr with hr | hr
    · exact Nat.lt_of_lt_of_le (hd k hr) hk.size
    · exact hr.2
  · rcases hr with hr | hr
    · exact .inl hr
    · exact .inr ⟨Nat.le_trans hb.size hr.1, hr.2⟩

theorem rfm_self (h : RfM w R g sv lv av wv r) : RefP w (ext R w w) g r := ⟨sv, lv, av, wv, h.ext⟩

set_option maxHeartbeats 1000000 in
theorem refRoom_any (h : RfM w R g sv lv av wv r) : Calls Try.prog 45 #[ptr g] w (Same (.int .i64 ((r.seen.length / 2 : Nat) : Int)) w) := by
  obtain ⟨c0, c1, c2, c3, c4, c5, c6, hf⟩ := head7 h.head
  have hm := h.good.most
  have hs := h.good.size
  obtain ⟨a, cap, rfl, hcap⟩ := own_slice h.ol
  generalize r.seen.length = n at *
  obtain ⟨q, hq, hq2, E⟩ : ∃ q : Nat, (n : Int) / 2 = (q : Int) ∧ q ≤ 2048 ∧ Hid (n / 2 = q) := ⟨n / 2, by omega, by omega, rfl⟩
  clear h hs hm
  go_enter Try.func45, Try.ntmps45
  go_wp2_with fail
  go_ret
  exact ⟨by rw [E.out]; rfl, rfl⟩

set_option maxHeartbeats 4000000 in
set_option maxRecDepth 100000 in
theorem refMput_any (h : RfM w R g sv lv av wv r) (side : Int) (round : Nat) (at_ : Int) (a : Option Addr) (cap : Nat) (l : List Nat) (hB : BytesP w a cap l) (hla : r.ats.length < 100000) (hlw : r.what.length < 100000) :
    Calls Try.prog 67 #[ptr g, .int .i64 side, .int .u64 (round : Int), .int .i64 at_, .slice a l.length cap] w (RefPost (r.mput side round at_ l) R g w) := by
  have CM := Lib.hid (refRoom_any h)
  have hm := h.good.most
  have hsz := h.good.size
  have hl := hB.len
  have KR := Lib.hid (Keep.refl R w)
  have HS := Lib.hid (rfm_self h)
  have bad : okPut r.seen.length side round at_ l.length = false → r.mput side round at_ l = (81, r) := fun h => by unfold Rf.mput; rw [h]; rfl
  have BAD := Lib.hid bad
  have hn2 : r.seen.length / 2 ≤ 2048 := by omega
  clear bad hsz hm
  cases t1 : isSideB side with
  | false =>
    have E := Lib.hid (BAD.out (by simp [okPut, t1]))
    have s0 : (side != 0) = true := by simp [isSideB] at t1; simp; omega
    have s1 : (side != 1) = true := by simp [isSideB] at t1; simp; omega
    clear h t1
    go_enter Try.func67, Try.ntmps67
    go_wp2_with fail
    go_ret
    rw [E.out]
    exact ⟨rfl, HS.out, KR.out⟩
  | true =>
  have hs : side = 0 ∨ side = 1 := by simp [isSideB] at t1; omega
  clear t1
  cases t2 : ((round : Int) == 0) with
  | true =>
    have E := Lib.hid (BAD.out (by simp at t2; simp [okPut, isRoundB]; omega))
    clear h
    rcases hs with rfl | rfl
    all_goals
      go_enter Try.func67, Try.ntmps67
      go_wp2_with fail
      go_ret
      rw [E.out]
      exact ⟨rfl, HS.out, KR.out⟩
  | false =>
  cases t3 : decide ((round : Int) > 1099511627776) with
  | true =>
    have E := Lib.hid (BAD.out (by simp at t3; simp [okPut, isRoundB]; omega))
    clear h
    rcases hs with rfl | rfl
    all_goals
      go_enter Try.func67, Try.ntmps67
      go_wp2_with fail
      go_ret
      rw [E.out]
      exact ⟨rfl, HS.out, KR.out⟩
  | false =>
  have hrd : isRoundB round = true := by simp at t2 t3; simp [isRoundB]; omega
  have HRD := Lib.hid hrd
  have hrm : round ≤ 1099511627776 := by simp at t3; omega
  clear hrd
  cases t4 : decide (at_ < 0) with
  | true =>
    have E := Lib.hid (BAD.out (by simp at t4; simp [okPut]; omega))
    clear h
    rcases hs with rfl | rfl
    all_goals
      go_enter Try.func67, Try.ntmps67
      go_wp2_with fail
      go_ret
      rw [E.out]
      exact ⟨rfl, HS.out, KR.out⟩
  | false =>
  obtain ⟨k, rfl⟩ := Int.eq_ofNat_of_zero_le (show 0 ≤ at_ by simp at t4; omega)
  by_cases t5 : r.seen.length / 2 ≤ k
  · have E := Lib.hid (BAD.out (by simp [okPut]; omega))
    clear h
    generalize r.seen.length / 2 = n at *
    rcases hs with rfl | rfl
    all_goals
      go_enter Try.func67, Try.ntmps67
      go_wp2_with fail
      refine CM.out.mono ?_
      rintro e w' ⟨rfl, rfl⟩
      go_wp2_with fail
      go_ret
      rw [E.out]
      exact ⟨rfl, HS.out, KR.out⟩
  cases t6 : decide ((l.length : Int) > 48) with
  | true =>
    have E := Lib.hid (BAD.out (by simp at t6; simp [okPut]; omega))
    clear h
    generalize r.seen.length / 2 = n at *
    rcases hs with rfl | rfl
    all_goals
      go_enter Try.func67, Try.ntmps67
      go_wp2_with fail
      refine CM.out.mono ?_
      rintro e w' ⟨rfl, rfl⟩
      go_wp2_with fail
      go_ret
      rw [E.out]
      exact ⟨rfl, HS.out, KR.out⟩
  | false =>
  have hl48 : l.length ≤ 48 := by simp at t6; omega
  have hk : k ≤ 100000 := by omega
  have hok : ∀ sd : Nat, sd ≤ 1 → r.mput (sd : Int) round (k : Int) l = r.put ((sd * (r.seen.length / 2) + k : Nat) : Int) (markedC (markN round k) l) := fun sd hsd => by
    unfold Rf.mput
    rw [show okPut r.seen.length (sd : Int) round (k : Int) l.length = true by unfold okPut; rw [HRD.out, show isSideB (sd : Int) = true by simp [isSideB]; omega]; simp; omega]
    rfl
  have HOK := Lib.hid hok
  have CD := Lib.hid (refCell_any round k hrm hk a cap l w hB hl48)
  have CP := Lib.hid (fun W (b : Below w.heap.size w W) (i : Int) => refPut_any (h.below b) i (markedC_is (markN round k) hl48 hB.byte) hla hlw)
  have HD := Lib.hid h.dom
  generalize markedC (markN round k) l = mc at *
  clear h hok
  generalize r.seen.length / 2 = n at *
  rcases hs with rfl | rfl
  · have E := Lib.hid (show r.mput 0 round (k : Int) l = r.put (k : Int) mc by
      have := HOK.out 0 (by omega)
      rw [Nat.zero_mul, Nat.zero_add] at this
      exact this)
    go_enter Try.func67, Try.ntmps67
    go_wp2_with fail
    refine CM.out.mono ?_
    rintro e w' ⟨rfl, rfl⟩
    go_wp2_with fail
    refine CM.out.mono ?_
    rintro e w' ⟨rfl, rfl⟩
    go_wp2_with fail
    refine CD.out.mono ?_
    rintro e w1 ⟨rfl, b1⟩
    have C2 := Lib.hid (CP.out _ b1)
    have B1 := Lib.hid b1
    clear b1
    go_wp2_with fail
    refine (C2.out _).mono ?_
    rintro e w2 h2
    obtain ⟨h3, h4⟩ := RefPost.of_below HD.out B1.out h2
    subst h3
    have H4 := Lib.hid h4
    clear h2 h4
    go_wp2_with fail
    go_ret
    rw [E.out]
    exact ⟨rfl, H4.out⟩
  · obtain ⟨u, hu, hu2, HU⟩ : ∃ u : Nat, (n : Int) + (k : Int) = (u : Int) ∧ u ≤ 200000 ∧ Hid (n + k = u) := ⟨n + k, by omega, by omega, rfl⟩
    have E := Lib.hid (show r.mput 1 round (k : Int) l = r.put (u : Int) mc by
      have := HOK.out 1 (by omega)
      rw [Nat.one_mul, HU.out] at this
      exact this)
    go_enter Try.func67, Try.ntmps67
    go_wp2_with fail
    refine CM.out.mono ?_
    rintro e w' ⟨rfl, rfl⟩
    go_wp2_with fail
    refine CM.out.mono ?_
    rintro e w' ⟨rfl, rfl⟩
    go_wp2_with fail
    refine CD.out.mono ?_
    rintro e w1 ⟨rfl, b1⟩
    have C2 := Lib.hid (CP.out _ b1)
    have B1 := Lib.hid b1
    clear b1
    go_wp2_with fail
    refine (C2.out _).mono ?_
    rintro e w2 h2
    obtain ⟨h3, h4⟩ := RefPost.of_below HD.out B1.out h2
    subst h3
    have H4 := Lib.hid h4
    clear h2 h4
    go_wp2_with fail
    go_ret
    rw [E.out]
    exact ⟨rfl, H4.out⟩

/-- The seen cells lie in a block. -/
theorem RfM.seenAt (h : RfM w R g sv lv av wv r) {k : Nat} (hk : k < r.seen.length) : ∃ b cap, lv = .slice (some ⟨b, 0, none⟩) r.seen.length cap ∧ r.seen.length ≤ cap ∧ R b ∧ RowAt w b 90 (rowL r.seen) := by
  obtain ⟨b, cap, rfl, h1, h2⟩ := own_some h.ol (by omega)
  exact ⟨b, cap, rfl, h1, (h.bl b rfl).1, h2⟩

set_option maxHeartbeats 4000000 in
set_option maxRecDepth 100000 in
theorem refTop_any (h : RfM w R g sv lv av wv r) : Calls Try.prog 43 #[ptr g] w (NumB (topL r.seen) w) := by
  obtain ⟨c0, c1, c2, c3, c4, c5, c6, hf⟩ := head7 h.head
  obtain ⟨a, cap, rfl, hcap⟩ := own_slice h.ol
  have HP := Lib.hid h
  have hm : r.seen.length ≤ 4096 := by have := h.good.most; have := h.good.size; omega
  have HCL := Lib.hid h.good.cl
  clear h
  go_enter Try.func43, Try.ntmps43
  go_wp2_with fail
  go_loopw [3, 11] (fun s i wr => ∃ (k n : Nat), k ≤ r.seen.length ∧ i = .int .i64 k ∧ s = .int .u64 n ∧ n < 18446744073709551616 ∧ Hid (max n (topM (r.seen.drop k) / 65536) = topM r.seen / 65536) ∧ Hid (Below w.heap.size w wr)) (fun _ i _ => r.seen.length - (intOf i).toNat)
  case atStart => exact ⟨0, 0, Nat.zero_le _, rfl, rfl, by decide, Lib.hid (by simp), Lib.hid (Below.refl _ _)⟩
  case round =>
    clear c0 c1 c2 c3 c4 c5 c6 hf
    obtain ⟨k, n, hk, rfl, rfl, hn, HN, HB⟩ := hrel
    by_cases hlt : k < r.seen.length
    · obtain ⟨b, cap', e, hc', hRb, hrow⟩ := (HP.out.below HB.out).seenAt hlt
      injection e with e1 e2 e3
      subst e1 e3
      have ic := getD_cell HCL.out hlt
      have L1 := ld_cell hrow ic.len (rowL_cell HCL.out hlt)
      have hd := topM_drop hlt
      have hgd : r.seen.getD k [] = r.seen[k] := by simp [List.getElem?_eq_getElem hlt]
      rw [hgd] at L1 ic
      generalize r.seen[k] = c at *
      have N0 := Lib.hid (show ∀ W, Calls Try.prog 66 #[.agg (arr c), .int .i64 0] W (fun e w' => e = .returned (.int .u64 (numC c 0 : Int)) ∧ Below W.heap.size W w') from fun W => numBx_below (refNumber_any ic 0 (by omega) W))
      have N1 := Lib.hid (show ∀ W, Calls Try.prog 66 #[.agg (arr c), .int .i64 56] W (fun e w' => e = .returned (.int .u64 (numC c 56 : Int)) ∧ Below W.heap.size W w') from fun W => numBx_below (refNumber_any ic 56 (by omega) W))
      have b0 := numC_lt ic 0
      have b1 := numC_lt ic 56
      generalize numC c 0 = x at *
      generalize numC c 56 = y at *
      obtain ⟨x6, hx6, HX6⟩ : ∃ x6 : Nat, (x : Int) / 65536 = (x6 : Int) ∧ Hid (x6 = x / 65536) := ⟨x / 65536, by omega, rfl⟩
      obtain ⟨y6, hy6, HY6⟩ : ∃ y6 : Nat, (y : Int) / 65536 = (y6 : Int) ∧ Hid (y6 = y / 65536) := ⟨y / 65536, by omega, rfl⟩
      have hx7 : x6 < 18446744073709551616 := by have := HX6.out; omega
      have hy7 : y6 < 18446744073709551616 := by have := HY6.out; omega
      have HE := Lib.hid (show max (max (max n x6) y6) (topM (r.seen.drop (k + 1)) / 65536) = topM r.seen / 65536 by rw [← HN.out, hd, max_div, max_div, HX6.out, HY6.out]; omega)
      clear hd hrow hgd
      obtain ⟨m1, hm1, hm2, HM1⟩ : ∃ m1 : Nat, (if n < x6 then (x6 : Int) else (n : Int)) = (m1 : Int) ∧ m1 < 18446744073709551616 ∧ Hid (m1 = max n x6) := ⟨max n x6, by split <;> omega, by omega, rfl⟩
      obtain ⟨m2, hm3, hm4, HM2⟩ : ∃ m2 : Nat, (if m1 < y6 then (y6 : Int) else (m1 : Int)) = (m2 : Int) ∧ m2 < 18446744073709551616 ∧ Hid (m2 = max (max n x6) y6) := ⟨max m1 y6, by split <;> omega, by omega, by rw [HM1.out]; rfl⟩
      obtain ⟨w5, s5, r5, b5, z5⟩ := local_cell (w := wr) ic
      have B5 := Lib.hid (HB.out.trans (b5.mono HB.out.size))
      have L5 := ld_block ic.len r5
      have R5 := Lib.hid r5
      clear b5 r5 z5
      go_wp2_with fail
      refine (N0.out _).mono ?_
      rintro e w6 ⟨rfl, b6⟩
      have B6 := Lib.hid (B5.out.trans (b6.mono B5.out.size))
      have L6 := ld_block (w := w6) ic.len (R5.out.same (b6.block _ R5.out.lt))
      clear b6 L5
      go_wp2_with fail
      refine (N1.out _).mono ?_
      rintro e w7 ⟨rfl, b7⟩
      have B7 := Lib.hid (B6.out.trans (b7.mono B6.out.size))
      have HE2 := Lib.hid (show max m2 (topM (r.seen.drop (k + 1)) / 65536) = topM r.seen / 65536 by rw [HM2.out]; exact HE.out)
      clear b7 L6
      go_wp2_with fail
      go_roundw
      case rel => exact ⟨k + 1, m2, by omega, by go_num, rfl, hm4, HE2, B7⟩
      case measure => simp [intOf]; omega
    · have HE := Lib.hid (show topL r.seen = n by
        unfold topL
        rw [← HN.out, List.drop_eq_nil_of_le (by omega)]
        simp [topM])
      go_wp2_with fail
      go_ret
      exact ⟨by rw [HE.out]; rfl, HB.out⟩
end

end Go.Proofs.Ytipikkniookanaa
