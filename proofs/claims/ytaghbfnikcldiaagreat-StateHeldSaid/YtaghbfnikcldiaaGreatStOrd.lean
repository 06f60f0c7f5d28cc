/- What package state's Order, Batch and Weight answer. -/
import Derived.Test.YtaghbfnikcldiaaGreatMgProg
import Derived.Test.YtaghbfnikcldiaaGreatMgStates
namespace Go.Proofs.YtaghbfnikcldiaaGreat
set_option maxRecDepth 100000
open Go.RowKit Go.ChangeShapes Go.WideShapes Go.ChangeAt
attribute [local go_sem ↓] ldOr stOr alOr bxOr bdOr ldBa stBa alBa bxBa bdBa ldSt stSt alSt bxSt bdSt ldEf stEf alEf bxEf eqEf bdEf bsEf ldGr bxGr eqGr ldCa bxCa eqCa
attribute [local go_sem] al_or bx_or st_ornew bd_or al_ba bx_ba st_banew bd_ba al_sta bx_sta st_stnew bd_sta al_ef bx_ef st_new bd_ef bs_ef bs_ef0 bx_gr ne_gr bx_ca ne_ca eq_caX eq_grX

theorem right_lines {o : Od} (h : rightO o = true) : o.ls.length ≤ 8 := by
  simp only [rightO, Bool.and_eq_true] at h
  have h2 : rightLB o.ls = true := h.1.1.1.1.2
  exact ((rightLB_iff o.ls).1 h2).1.2
theorem weight_of : WeightC := fun r a cap ids w h _ _ hs hn => weightS_any r a cap ids w h hs hn

set_option maxHeartbeats 8000000 in
theorem order_of : OrderC := by
  intro r id w h hf hr
  have I := Lib.hid (FoI.begin w r h 39 (orC noOdR))
  have CO := Lib.hid (fun W hW => findOr_any r.oa r.oc r.ords id W hW)
  have HP := Lib.hid (hung_of hr)
  have HQ := Lib.hid (first_or (isO id) r.ords)
  have c9 := I.out.box.st.2.2.2.2.1
  have HS := Lib.hid h
  clear h hf hr
  go_enter Tryz.func8, Tryz.ntmps8
  go_wp2_with fail
  generalize (w.alloc (.cells (stC r) 29)).alloc (.cells (orC noOdR) 39) = W0 at *
  have CO1 := Lib.hid (CO.out W0 I.out.st.ords)
  clear CO
  rcases HQ.out with hn | ⟨j, hj, hjp, hjb⟩
  · rw [ptrG_none r.oa hn] at CO1
    have HE := Lib.hid (findO_none hn)
    clear hn HQ
    refine CO1.out.mono ?_
    rintro e w1 ⟨rfl, rfl⟩
    have st := st_or I.out.res noOdR
    go_wp2_with fail
    (try simp only [Exit.inBlock, Exit.then])
    apply bodyPost_ret
    case hd => rfl
    case hr => exact results_cell_one rfl _ _ (w.heap.size + 1) _ rfl (load10 (setRow_heap _ _ _ _ _ _ I.out.res))
    case hR => exact ⟨noOdR, by rw [HE.out]; rfl, by rw [HE.out]; rfl, OdP.none _ _ _, I.out.done _⟩
  · obtain ⟨b2, o2, e2, hb3, _, ld, hP⟩ := I.out.st.ords.ld j hj
    have HE := Lib.hid (findO_at hj hjp hjb)
    have hmem : r.ords[j].o ∈ r.st.ords := List.mem_map_of_mem (List.getElem_mem hj)
    have hlen : r.ords[j].o.ls.length ≤ 100000 := Nat.le_trans (right_lines (HP.out.right _ hmem)) (by decide)
    rw [e2, ptrG_at hj hjp hjb, ← e2] at CO1
    clear hmem HQ hjp hjb e2
    generalize r.ords[j] = x at *
    have CC := Lib.hid (copyO_any x W0 hP hlen)
    refine CO1.out.mono ?_
    rintro e w1 ⟨rfl, rfl⟩
    clear c9 CO1
    have hz : w.heap.size + 2 ≤ W0.heap.size := I.out.res.lt
    go_wp2_with fail
    refine CC.out.mono ?_
    rintro e w2 ⟨y, rfl, hy, hO, b2⟩
    have J := Lib.hid (I.out.below b2)
    have hP2 := hP.below b2
    have st := st_or J.out.res y
    clear ld CC b2
    go_wp2_with fail
    (try simp only [Exit.inBlock, Exit.then])
    apply bodyPost_ret
    case hd => rfl
    case hr => exact results_cell_one rfl _ _ (w.heap.size + 1) _ rfl (load10 (setRow_heap _ _ _ _ _ _ J.out.res))
    case hR =>
      have hO2 := hO.grown (w' := w2.setRow (w.heap.size + 1) (orC y)) fun k h1 h2 => setRow_other _ _ k _ (by omega)
      obtain ⟨a3, c3, e3, l3⟩ := hO2.lns (fun z hz => hP2.lns.size z (by rw [hy] at hz; exact hz))
      injection e3 with e3 _ e4
      subst e3 e4
      refine ⟨y, by rw [HE.out]; rfl, by rw [HE.out, hy]; rfl, ?_, J.out.done _⟩
      exact ⟨l3, by rw [hy]; exact hP2.len, by rw [hy]; exact hP2.id, by rw [hy]; exact hP2.car, by rw [hy]; exact hP2.zone, by rw [hy]; exact hP2.serv⟩

set_option maxHeartbeats 8000000 in
theorem batch_of : BatchC := by
  intro r id w h hf hr
  have I := Lib.hid (FoI.begin w r h 46 (baC noBtR))
  have CO := Lib.hid (fun W hW => findBa_any r.ba r.bc r.bats id W hW)
  have HP := Lib.hid (hung_of hr)
  have HQ := Lib.hid (first_or (isB id) r.bats)
  have c10 := I.out.box.st.2.2.2.2.2.1
  have HS := Lib.hid h
  clear h hf hr
  go_enter Tryz.func13, Tryz.ntmps13
  go_wp2_with fail
  generalize (w.alloc (.cells (stC r) 29)).alloc (.cells (baC noBtR) 46) = W0 at *
  have CO1 := Lib.hid (CO.out W0 I.out.st.bats)
  clear CO
  rcases HQ.out with hn | ⟨j, hj, hjp, hjb⟩
  · rw [ptrG_none r.ba hn] at CO1
    have HE := Lib.hid (findB_none hn)
    clear hn HQ
    refine CO1.out.mono ?_
    rintro e w1 ⟨rfl, rfl⟩
    have st := st_ba I.out.res noBtR
    go_wp2_with fail
    (try simp only [Exit.inBlock, Exit.then])
    apply bodyPost_ret
    case hd => rfl
    case hr => exact results_cell_one rfl _ _ (w.heap.size + 1) _ rfl (load9B (setRow_heap _ _ _ _ _ _ I.out.res))
    case hR => exact ⟨noBtR, by rw [HE.out]; rfl, by rw [HE.out]; rfl, BtP.none _ _ _, I.out.done _⟩
  · obtain ⟨b2, o2, e2, hb3, _, ld, hP⟩ := I.out.st.bats.ld j hj
    have HE := Lib.hid (findB_at hj hjp hjb)
    have hmem : r.bats[j].b ∈ r.st.bats := List.mem_map_of_mem (List.getElem_mem hj)
    have hlen : r.bats[j].b.mem.length ≤ 100000 := Nat.le_trans (HP.out.weighs hmem).2.2.2 (by decide)
    rw [e2, ptrG_at hj hjp hjb, ← e2] at CO1
    clear hmem HQ hjp hjb e2
    generalize r.bats[j] = x at *
    have CC := Lib.hid (ownBatch_any x W0 hP hlen)
    refine CO1.out.mono ?_
    rintro e w1 ⟨rfl, rfl⟩
    clear c10 CO1
    have hz : w.heap.size + 2 ≤ W0.heap.size := I.out.res.lt
    go_wp2_with fail
    refine CC.out.mono ?_
    rintro e w2 ⟨y, rfl, hy, hO, b2⟩
    have J := Lib.hid (I.out.below b2)
    have hP2 := hP.below b2
    have st := st_ba J.out.res y
    clear ld CC b2
    go_wp2_with fail
    (try simp only [Exit.inBlock, Exit.then])
    apply bodyPost_ret
    case hd => rfl
    case hr => exact results_cell_one rfl _ _ (w.heap.size + 1) _ rfl (load9B (setRow_heap _ _ _ _ _ _ J.out.res))
    case hR =>
      have hO2 := hO.grown (w' := w2.setRow (w.heap.size + 1) (baC y)) fun k h1 h2 => setRow_other _ _ k _ (by omega)
      obtain ⟨_, s3⟩ := hO2.reads
      refine ⟨y, by rw [HE.out]; rfl, by rw [HE.out, hy]; rfl, ?_, J.out.done _⟩
      exact ⟨s3, by rw [hy]; exact hP2.fit, by rw [hy]; exact hP2.car, by rw [hy]; exact hP2.zone, by rw [hy]; exact hP2.serv⟩

end Go.Proofs.YtaghbfnikcldiaaGreat
