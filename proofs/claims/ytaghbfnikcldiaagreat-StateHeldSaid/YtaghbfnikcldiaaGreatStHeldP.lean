/- What package state's Held answers. -/
import Derived.Test.YtaghbfnikcldiaaGreatMgStates
import Derived.Test.YtaghbfnikcldiaaGreatStShelf
import Derived.Test.YtaghbfnikcldiaaGreatMgProg
import Derived.Sort.OwnSortedInts
namespace Go.Proofs.YtaghbfnikcldiaaGreat
set_option maxRecDepth 100000
open Go.RowKit Go.ChangeShapes Go.WideShapes Go.ChangeAt
attribute [local go_sem ↓] ldOr stOr alOr bxOr bdOr ldBa stBa alBa bxBa bdBa ldSt stSt alSt bxSt bdSt ldEf stEf alEf bxEf eqEf bdEf bsEf ldGr bxGr eqGr ldCa bxCa eqCa
attribute [local go_sem] al_or bx_or st_ornew bd_or al_ba bx_ba st_banew bd_ba al_sta bx_sta st_stnew bd_sta al_ef bx_ef st_new bd_ef bs_ef bs_ef0 bx_gr ne_gr bx_ca ne_ca eq_caX eq_grX

theorem heldV_rise {l : List Bt} (h : l.Pairwise (fun x y => x.id < y.id)) (kind : Int) (a b c : ByteArray) : (heldV l kind a b c).Pairwise (fun x y : Int => x < y) := by
  unfold heldV
  rw [List.pairwise_map]
  exact h.filter _
theorem sorted_rise {l : List Int} (h : l.Pairwise (fun x y : Int => x < y)) : (l.mergeSort fun x y => decide (x ≤ y)) = l :=
  List.mergeSort_of_pairwise (h.imp fun {x y} hxy => by simpa using Int.le_of_lt hxy)
theorem compact_rise {l : List Int} (h : l.Pairwise (fun x y : Int => x < y)) : Lib.compact l = l := by
  refine Lib.compact_all l fun j hj => ?_
  cases j with
  | zero => exact Lib.keeps_lt_one _ 0 (by omega)
  | succ j =>
    refine Lib.keeps_pos ?_
    have h1 := List.pairwise_iff_getElem.1 h j (j + 1) (by omega) hj (by omega)
    have e1 : l.toArray[j + 1]! = l[j + 1] := by simp [hj]
    have e2 : l.toArray[j + 1 - 1]! = l[j] := by
      have : j < l.length := by omega
      simp [this]
    rw [e1, e2]
    omega
/-- A row that has been sorted, or compacted, and was so already. -/
theorem OwnJ.sorted {w : World} {base g cap n : Nat} {l : List Int} {os : Array Obj} (h : OwnJ w base (.slice (some ⟨g, 0, none⟩) l.length cap) l) (hb : base ≤ w.heap.size) :
    OwnJ (Go.Sort.grow (Go.Sort.putRow (Value.int .i64) (Go.Sort.ahead w n) g 0 l.toArray) os) base (.slice (some ⟨g, 0, none⟩) l.length cap) l ∧ Below base w (Go.Sort.grow (Go.Sort.putRow (Value.int .i64) (Go.Sort.ahead w n) g 0 l.toArray) os) ∧ Go.Sort.Holds (Value.int .i64) w g 0 l.toArray ∧ g < w.heap.size ∧ l.length ≤ cap := by
  rcases h.2 with ⟨e, _⟩ | ⟨g2, c2, cur, e, h1, h2, h3, h4, h5, h6⟩
  · cases e
  · injection e with e1 _ e3
    injection e1 with e1
    injection e1 with e1
    subst e1 e3
    rw [Nat.mul_one] at h6
    refine ⟨ownsRow_sortedI (ts := l) rfl h1 h2 h3 h4 h5, below_grown (grownBy_sortedI l.toArray) h1 hb, holds_of_blockI h2 h6, (Array.getElem?_eq_some_iff.1 h2).1, h3⟩
set_option maxHeartbeats 8000000 in
theorem held_of : HeldC := by
  intro r kind a b c w h hf hr
  obtain ⟨i0, hi, hz0, hz1, hz2⟩ := info_parts Tryz.info2
  have I := Lib.hid (FoI.begin w r h 35 (grC a b c))
  have p1 := h.bats.sl.cap
  have hfb := hf.2.1
  have c10 := I.out.box.st.2.2.2.2.2.1
  have H := Lib.hid h
  have HRi := Lib.hid (show (heldV (btsOf r.bats) kind a b c).Pairwise (fun x y : Int => x < y) from heldV_rise (hung_of hr).bats kind a b c)
  clear h hf hr
  go_enter Tryz.func11, Tryz.ntmps11
  go_wp2_with fail
  generalize (w.alloc (.cells (stC r) 29)).alloc (.cells (grC a b c) 35) = W0 at *
  have O0 := Lib.hid (OwnJ.nil W0 (w.heap.size + 1 + 1))
  go_loopw [7, 13] (fun s i wr => ∃ (k : Nat), k ≤ r.bats.length ∧ i = .int .i64 k ∧ Hid (OwnJ wr (w.heap.size + 1 + 1) s (heldV (btsOf (r.bats.take k)) kind a b c)) ∧ Hid (FoI w r 35 (grC a b c) wr)) (fun _ i _ => r.bats.length - (intOf i).toNat)
  case atStart => exact ⟨0, Nat.zero_le _, rfl, O0, I⟩
  case round =>
    clear O0 I c10
    obtain ⟨k, hk, rfl, HO, HI⟩ := hrel
    obtain ⟨a2, c2, e2, i2⟩ := HO.out.nums
    subst e2
    by_cases hlt : k < r.bats.length
    · obtain ⟨bb, oo, e, hb, _, ld, _⟩ := HI.out.st.bats.ld k hlt
      rw [e]
      clear e i2
      have HD := Lib.hid (heldV_take r.bats kind a b c k hlt)
      have hlen := heldV_len (r.bats.take k) kind a b c
      rw [List.length_take] at hlen
      generalize r.bats[k] = x at *
      generalize heldV (btsOf (r.bats.take k)) kind a b c = l at *
      have R := Lib.hid (Row.new wr (baC x) 46)
      have J := Lib.hid (HI.out.more (.cells (baC x) 46))
      have HO2 := Lib.hid (HO.out.below ((Below.refl wr.heap.size wr).alloc (Nat.le_refl _) (.cells (baC x) 46)))
      have d3 := R.out.b.1.2.2.2.1
      have d4 := R.out.b.1.2.2.2.2
      have d0 := R.out.b.1.1
      have lg := ld_grAt R.out.b.2.1 R.out.b.2.2.1 R.out.b.2.2.2.1
      have lg2 := aggGr2 _ a b c J.out.res
      cases q1 : (x.b.phase == 1) with
      | false =>
        have HN := Lib.hid (show heldV (btsOf (r.bats.take (k + 1))) kind a b c = l by rw [HD.out]; simp [heldP, q1])
        go_wp2_with fail
        go_roundw
        case rel => exact ⟨k + 1, by omega, by go_num, by rw [HN.out]; exact HO2, J⟩
        case measure => simp [intOf]; omega
      | true =>
        cases q2 : (x.b.kind == kind) with
        | false =>
          have HN := Lib.hid (show heldV (btsOf (r.bats.take (k + 1))) kind a b c = l by rw [HD.out]; simp [heldP, q1, q2])
          go_wp2_with fail
          go_roundw
          case rel => exact ⟨k + 1, by omega, by go_num, by rw [HN.out]; exact HO2, J⟩
          case measure => simp [intOf]; omega
        | true =>
          cases q3 : (sameG x.b.car x.b.zone x.b.serv a b c) with
          | false =>
            have HN := Lib.hid (show heldV (btsOf (r.bats.take (k + 1))) kind a b c = l by rw [HD.out]; simp [heldP, q1, q2, q3])
            go_wp2_with fail
            go_roundw
            case rel => exact ⟨k + 1, by omega, by go_num, by rw [HN.out]; exact HO2, J⟩
            case measure => simp [intOf]; omega
          | true =>
            have HN := Lib.hid (show heldV (btsOf (r.bats.take (k + 1))) kind a b c = l ++ [x.b.id] by rw [HD.out]; simp [heldP, q1, q2, q3])
            have hsz : w.heap.size ≤ (wr.alloc (.cells (baC x) 46)).heap.size := J.out.low.size
            have hq := cell_one_new (wr.alloc (.cells (baC x) 46)) (.int .i64 x.b.id) 2
            rw [show (wr.alloc (.cells (baC x) 46)).heap.size = wr.heap.size + 1 by simp] at hq
            have hs1 := J.out.res.lt
            rw [show (wr.alloc (.cells (baC x) 46)).heap.size = wr.heap.size + 1 by simp] at hs1
            have J2 := Lib.hid (J.out.more (.cells #[.int .i64 x.b.id] 2))
            have HO3 := Lib.hid (HO2.out.below (below_new _ (.cells #[.int .i64 x.b.id] 2)))
            go_wp2_with (at_builtin; go_must (refine wpList_append_own _ rfl _ _ 43 rfl (w.heap.size + 1 + 1) 2 i0 (.int .i64 0) 1 8 Tryz.underlying43 hi hz0 hz1 hz2 rfl (by decide) _ _ _ rfl HO3.out ⟨wr.heap.size + 1, 0, none⟩ 1 1 [.int .i64 x.b.id] rfl rfl hq (fun y hy => by simp at hy; subst hy; rfl) (by unfold maxLen; omega) (by omega) (by simp; omega) ?_; intro v' w3 hown' hgrow3 hnil3))
            have b3 : Below (w.heap.size + 1 + 1) ((wr.alloc (.cells (baC x) 46)).alloc (.cells #[.int .i64 x.b.id] 2)) w3 := Below.grown (Below.refl _ _) hgrow3 (by simp; omega) HO3.out.block
            have HO4 := Lib.hid (show OwnJ w3 (w.heap.size + 1 + 1) v' (heldV (btsOf (r.bats.take (k + 1))) kind a b c) by
              unfold OwnJ
              rw [HN.out]
              simpa using hown')
            have J3 := Lib.hid (J2.out.keep H.out b3)
            clear hown' hgrow3 hnil3 b3
            go_roundw
            case rel => exact ⟨k + 1, by omega, by go_num, HO4, J3⟩
            case measure => simp [intOf]; omega
    · have HT := Lib.hid (show btsOf (r.bats.take k) = btsOf r.bats by rw [List.take_of_length_le (by omega)])
      rw [HT.out] at HO i2
      rw [HT.out]
      have hlen := heldV_len r.bats kind a b c
      have hc2 := i2.cap
      clear HT i2
      generalize heldV (btsOf r.bats) kind a b c = l at *
      have hbase : w.heap.size + 1 + 1 ≤ wr.heap.size := HI.out.res.lt
      have HLow := Lib.hid HI.out.low
      rcases HO.out.2 with ⟨hv, h0⟩ | ⟨g, c3, cur, hv, _⟩
      · injection hv with hv1 hv2 hv3
        subst hv1 hv3
        obtain rfl := List.eq_nil_of_length_eq_zero h0
        have CS := Lib.hid (Tryz.slices_Sort_int_none none 0 wr)
        have CC := Lib.hid (Tryz.slices_Compact_int_empty none 0 wr)
        clear h0 hv2
        go_wp2_with fail
        refine CS.out.mono ?_
        rintro e w4 ⟨rfl, rfl⟩
        go_wp2_with fail
        refine CC.out.mono ?_
        rintro e w5 ⟨rfl, rfl⟩
        go_wp2_with fail
        go_ret
        exact ⟨none, 0, rfl, ⟨by simp, fun h => absurd rfl h⟩, HLow.out⟩
      · injection hv with hv1 hv2 hv3
        subst hv1 hv3
        have hP := HO.out
        have CS := Lib.hid (Tryz.slices_Sort_int g 0 c2 l wr (hP.sorted (n := 0) (os := #[]) hbase).2.2.1 (hP.sorted (n := 0) (os := #[]) hbase).2.2.2.1 (by omega))
        rw [sorted_rise HRi.out] at CS
        clear hv2 hP
        go_wp2_with fail
        refine CS.out.mono ?_
        rintro e w4 ⟨rfl, n4, os4, hw4⟩
        have HS4 := HO.out.sorted (n := n4) (os := os4) hbase
        rw [← hw4] at HS4
        have O4 := Lib.hid HS4.1
        have B4 := Lib.hid (HLow.out.trans (HS4.2.1.mono (by omega)))
        have hbase4 : w.heap.size + 1 + 1 ≤ w4.heap.size := Nat.le_trans hbase HS4.2.1.size
        clear HS4 hw4 CS
        have CC := Lib.hid (Tryz.slices_Compact_int g 0 c2 l w4 (O4.out.sorted (n := 0) (os := #[]) hbase4).2.2.1 (by omega) (O4.out.sorted (n := 0) (os := #[]) hbase4).2.2.2.2)
        rw [compact_rise HRi.out, Nat.sub_self, List.replicate_zero, List.append_nil] at CC
        go_wp2_with fail
        refine CC.out.mono ?_
        rintro e w5 ⟨rfl, n5, hw5⟩
        have HS5 := O4.out.sorted (n := n5) (os := #[]) hbase4
        rw [Go.Sort.grow_empty, ← hw5] at HS5
        obtain ⟨a6, c6, e6, i6⟩ := HS5.1.nums
        have B5 := Lib.hid (B4.out.trans (HS5.2.1.mono (by omega)))
        injection e6 with e6 _ e7
        subst e6 e7
        clear HS5 hw5 CC
        go_wp2_with fail
        go_ret
        exact ⟨_, _, rfl, i6, B5.out⟩

end Go.Proofs.YtaghbfnikcldiaaGreat
