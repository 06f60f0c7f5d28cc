/- StateBreaks: the law returns true for any state and any number: a state that hangs together doesn't any more without one of its effects, or with one of its orders in another phase that asks for something else. It has no conditions. -/
import Derived.Test.YtaghbfnikcldiaaMgCopy
import Derived.Test.YtaghbfnikcldiaaMgStates
import Derived.Test.YtaghbfnikcldiaaMgProg
import Derived.Deep.RegionLaw
namespace Go.Proofs.Ytaghbfnikcldiaa
open Go.ChangeShapes Go.WideShapes Go.ChangeAt Go.RowKit

set_option maxRecDepth 100000
attribute [local go_sem ↓] ldOr stOr alOr bxOr bdOr ldBa stBa alBa bxBa bdBa ldSt stSt alSt bxSt bdSt ldEf stEf alEf bxEf eqEf bdEf bsEf ldGr bxGr eqGr ldCa bxCa eqCa
attribute [local go_sem] al_or bx_or st_ornew bd_or al_ba bx_ba st_banew bd_ba al_sta bx_sta st_stnew bd_sta al_ef bx_ef st_new bd_ef bs_ef bs_ef0 bx_gr ne_gr bx_ca ne_ca

set_option maxHeartbeats 16000000 in
theorem breaks_walk (HN : NewC) (HR : RightC) (HC : CopyC) (r : StR) (at_ : Int) (w : World) (h : StP w r) : Calls Try.prog 7 #[stV r, .int .i64 at_] w (Tell true w) := by
  have CV := Lib.hid (fun W => alive_of HN HR W)
  have I := Lib.hid (OnI.begin w r h)
  have HS0 := Lib.hid h
  have p1 := h.ords.sl.cap
  have p2 := h.effs.sl.cap
  clear h HN
  go_enter Try.func7, Try.ntmps7
  go_wp2_with fail
  generalize w.alloc (.cells (stC r) 29) = W0 at *
  refine (CV.out _).mono ?_
  rintro e W1 ⟨rfl, b1⟩
  replace I := Lib.hid (I.out.below b1)
  clear CV b1
  have ld := ld_sta I.out.one
  have CG := Lib.hid (great_any r W1 I.out.st)
  cases hg : greatB r with
  | true =>
    rw [hg] at CG
    go_wp2_with fail
    refine CG.out.mono ?_
    rintro e W2 ⟨rfl, b2⟩
    have B2 := Lib.hid (I.out.below b2).low
    clear ld b2 CG I
    go_wp2_with fail
    go_ret
    exact ⟨rfl, B2.out⟩
  | false =>
    rw [hg] at CG
    have HSm := Lib.hid (small_of hg)
    have hf := HSm.out.few
    go_wp2_with fail
    refine CG.out.mono ?_
    rintro e W2 ⟨rfl, b2⟩
    replace I := Lib.hid (I.out.below b2)
    clear ld b2 CG hg
    have ld := ld_sta I.out.one
    have CR := Lib.hid (HR r W2 I.out.st hf)
    cases hr : rightS r.st with
    | false =>
      rw [hr] at CR
      go_wp2_with fail
      refine CR.out.mono ?_
      rintro e W3 ⟨rfl, b3⟩
      have B3 := Lib.hid (I.out.below b3).low
      clear ld b3 CR I
      go_wp2_with fail
      go_ret
      exact ⟨rfl, B3.out⟩
    | true =>
      rw [hr] at CR
      have HRt := Lib.hid hr
      clear hr
      go_wp2_with fail
      refine CR.out.mono ?_
      rintro e W3 ⟨rfl, b3⟩
      replace I := Lib.hid (I.out.below b3)
      clear ld b3 CR
      have c11 := I.out.one.st.2.2.2.2.2.2
      by_cases he : r.effs = []
      · have hl0 : ¬ (0 : Int) < (r.effs.length : Int) := by rw [he]; simp
        have c9 := I.out.one.st.2.2.2.2.1
        by_cases hn : r.ords = []
        · have hl1 : ¬ (0 : Int) < (r.ords.length : Int) := by rw [hn]; simp
          have BX := Lib.hid I.out.low
          clear I
          go_wp2_with fail
          go_ret
          exact ⟨rfl, BX.out⟩
        · have hl1 : (0 : Int) < (r.ords.length : Int) := by have := List.length_pos_iff.2 hn; omega
          have hposq := List.length_pos_iff.2 hn
          obtain ⟨q, hq, hmq⟩ := clamp_of at_ r.ords.length hposq
          have ld := ld_sta I.out.one
          have CC := Lib.hid (HC r W3 I.out.st HSm.out)
          clear hn
          go_wp2_with fail
          refine CC.out.mono ?_
          rintro e W9 ⟨s, rfl, hs, hP, hO, b9⟩
          have Z9 := Lib.hid ((sizes_of I.out.st).like hs)
          obtain ⟨g2, p, p', e1, hg1, hg2, hcap, hqs, hpe, hpp, hcell, hnext⟩ := next_state hO hs Z9.out HSm.out HRt.out hq
          have ba : Below W9.heap.size W9 (W9.alloc (.cells (stC s) 29)) := (Below.refl _ _).alloc (Nat.le_refl _) _
          have R9 := Lib.hid (Row.new W9 (stC s) 29)
          have I9 := Lib.hid ((I.out.below b9).more (.cells (stC s) 29))
          have hT : w.heap.size < W9.heap.size := Nat.lt_of_lt_of_le I.out.one.lt b9.size
          have hgw : w.heap.size < g2 := Nat.lt_of_lt_of_le I.out.one.lt hg1
          have BA := Lib.hid ba
          have HNx := Lib.hid hnext
          clear ld c9 CC hP hO hs b9 I Z9 ba hnext hg1
          have c9 := I9.out.one.st.2.2.2.2.1
          have cT : (W9.alloc (.cells (stC s) 29)).cell? ⟨W9.heap.size, 9, none⟩ = some (.slice (some ⟨g2, 0, none⟩) s.ords.length s.oc) := by rw [← e1]; exact R9.out.st.2.2.2.2.1
          obtain ⟨cp, fp⟩ := hcell _ BA.out
          have hmw : max 0 (min at_ (wrap64 ((r.ords.length : Int) - 1))) = (q : Int) := by rw [show wrap64 ((r.ords.length : Int) - 1) = (r.ords.length : Int) - 1 from by have := HSm.out.ords; simp only [wrap64]; omega]; exact hmq
          obtain ⟨s2, hC2, hP2, hF2, hB2⟩ := HNx.out _ BA.out
          have IB := Lib.hid (I9.out.keep HS0.out ((Below.refl (w.heap.size + 1) (W9.alloc (.cells (stC s) 29))).setCell (p := ⟨g2, q * 10 + 6, none⟩) hgw (.int .i64 p')))
          have RB : Row ((W9.alloc (.cells (stC s) 29)).setCell ⟨g2, q * 10 + 6, none⟩ (.int .i64 p')) W9.heap.size 29 (stC s2) := by
            rw [hC2]
            exact (setCell_else _ _ _ (by omega)).trans R9.out
          have ldT := ld_sta RB
          obtain ⟨b, o, e2, hbl, hcs, _⟩ := IB.out.st.ords.sl.at LO_ok q hq
          have c9B : ((W9.alloc (.cells (stC s) 29)).setCell ⟨g2, q * 10 + 6, none⟩ (.int .i64 p')).cell? ⟨w.heap.size, 9, none⟩ = some (.slice (some ⟨b, o, none⟩) r.ords.length r.oc) := by rw [← e2]; exact IB.out.one.st.2.2.2.2.1
          have c9 : (W9.alloc (.cells (stC s) 29)).cell? ⟨w.heap.size, 9, none⟩ = some (.slice (some ⟨b, o, none⟩) r.ords.length r.oc) := by rw [← e2]; exact I9.out.one.st.2.2.2.2.1
          have cW : ((W9.alloc (.cells (stC s) 29)).setCell ⟨g2, q * 10 + 6, none⟩ (.int .i64 p')).cell? ⟨b, o + q * 10 + 6, none⟩ = some (.int .i64 p) := by rw [← hpe]; exact hcs 6 _ rfl
          have CR := Lib.hid (HR _ _ hP2 hF2)
          have LB := Lib.hid IB.out.low
          clear e1 hcell e2 hcs hbl RB hC2 hP2 hF2 R9 I9 IB HNx BA hpe hg2 hT hgw
          cases hb : rightS s2.st with
          | true =>
            have hp11 := hB2 hb
            rw [hb] at CR
            subst hp11
            obtain rfl : p' = 12 := by omega
            clear hb hB2 hpp
            go_wp2_with fail
            refine CR.out.mono ?_
            rintro e WC ⟨rfl, bc⟩
            have LC := Lib.hid (LB.out.trans (bc.mono LB.out.size))
            clear ldT CR LB bc c9 c9B cW cT cp fp hmw
            go_wp2_with fail
            go_ret
            exact ⟨rfl, LC.out⟩
          | false =>
            rw [hb] at CR
            clear hb hB2
            rcases hpp with ⟨rfl, rfl⟩ | ⟨rfl, rfl⟩ | ⟨rfl, rfl⟩ | ⟨rfl, rfl⟩ | ⟨rfl, rfl⟩ | ⟨rfl, rfl⟩ | ⟨rfl, rfl⟩ | ⟨rfl, rfl⟩ | ⟨rfl, rfl⟩ | ⟨rfl, rfl⟩ | ⟨rfl, rfl⟩ | ⟨rfl, rfl⟩
            all_goals
              go_wp2_with fail
              refine CR.out.mono ?_
              rintro e WC ⟨rfl, bc⟩
              have LC := Lib.hid (LB.out.trans (bc.mono LB.out.size))
              clear ldT CR LB bc c9 c9B cW cT cp fp hmw
              go_wp2_with fail
              go_ret
              exact ⟨rfl, LC.out⟩
      · have hl0 : (0 : Int) < (r.effs.length : Int) := by have := List.length_pos_iff.2 he; omega
        have hpos := List.length_pos_iff.2 he
        obtain ⟨k, hk, hmm⟩ := clamp_of at_ r.effs.length hpos
        have ld := ld_sta I.out.one
        have CC := Lib.hid (HC r W3 I.out.st HSm.out)
        clear he
        go_wp2_with fail
        refine CC.out.mono ?_
        rintro e W4 ⟨s, rfl, hs, hP, hO, b4⟩
        have R5 := Lib.hid (Row.new W4 (stC s) 29)
        have I5 := Lib.hid ((I.out.below b4).more (.cells (stC s) 29))
        have O5 := Lib.hid (hO.below ((Below.refl W4.heap.size W4).alloc (Nat.le_refl _) (.cells (stC s) 29)))
        have HEq := Lib.hid hs
        have B4 := Lib.hid b4
        have O4 := Lib.hid hO
        have hT : w.heap.size < W4.heap.size := Nat.lt_of_lt_of_le I.out.one.lt b4.size
        have hbase : W3.heap.size ≤ W4.heap.size := b4.size
        have hef : s.effs = r.effs := congrArg St.effs hs
        have Z5 := Lib.hid ((sizes_of I.out.st).like hs)
        clear ld c11 CC hP hO hs b4 I
        have c11 := I5.out.one.st.2.2.2.2.2.2
        go_wp2_with fail
        have hmw : max 0 (min at_ (wrap64 ((r.effs.length : Int) - 1))) = (k : Int) := by rw [show wrap64 ((r.effs.length : Int) - 1) = (r.effs.length : Int) - 1 from by have := HSm.out.effs; simp only [wrap64]; omega]; exact hmm
        simp only [hmw]
        have hks : k < s.effs.length := by rw [hef]; exact hk
        have hgE := (rowS_at (owns_effs O4.out))
        have bd := below_drewS (W4.alloc (.cells (stC s) 29))
        have Rd := Lib.hid (R5.out.below bd)
        have Id := Lib.hid (I5.out.below bd)
        have Od := Lib.hid (O5.out.below bd)
        have hsz : (W4.alloc (.cells (stC s) 29)).drew.heap.size = W4.heap.size + 1 := by show (W4.heap.push _).size = _; rw [Array.size_push]
        have bW : Below W4.heap.size W4 (W4.alloc (.cells (stC s) 29)).drew := ((Below.refl _ _).alloc (Nat.le_refl _) _).trans ((below_drewS _).mono (Nat.le_trans (Nat.le_succ _) (Nat.le_of_eq hsz.symm)))
        clear R5 I5 O5 bd
        generalize W4.alloc (.cells (stC s) 29) = W5 at *
        have hoE := owns_effs Od.out
        obtain ⟨g2, cap2, e2, hg2, _, hcap, _, _, _⟩ := hoE.at LE_ok k hks
        injection e2 with e3 _ e4
        obtain ⟨a0, c0, e5, hsl⟩ := hoE.sl
        injection e5 with e6 _ e7
        subst e6 e7
        have cT : W5.drew.cell? ⟨W4.heap.size, 11, none⟩ = some (.slice s.ea s.effs.length s.ec) := by exact Rd.out.st.2.2.2.2.2.2
        have s1 : ∀ W, (Instr.slice 27 (.slice s.ea s.effs.length s.ec) none (some (.int .i64 (k : Int))) (some (.int .i64 (k : Int)))).run Try.prog W = .ok (.slice s.ea k k) W := by intro W; rw [e3]; exact ef_full W g2 s.effs.length s.ec k (k : Int) rfl (by omega) hsl.cap
        obtain ⟨a', c', s2, t2⟩ := sl_from LE_ok (a := s.ea) hsl.cap (k + 1) ((k : Int) + 1) (by omega) (by omega)
        have s2 : ∀ W, (Instr.slice 27 (.slice s.ea s.effs.length s.ec) (some (.int .i64 ((k : Int) + 1))) none none).run Try.prog W = .ok (.slice a' (s.effs.drop (k + 1)).length c') W := s2
        have hA := t2 W5.drew hsl
        have hoE2 := hoE
        rw [e3] at hoE2
        obtain ⟨a2, c2, W6, s3, hT2, b6, hb6⟩ := run_append_cut W5.drew g2 k s.ec W3.heap.size s.effs hoE2 hks a' c' hA (by rw [hef]; have := HSm.out.effs; omega) 27
        rw [← e3] at s3
        have hcc := hsl.cap
        have hw : IntKind.i64.wrap ((k : Int) + 1) = (k : Int) + 1 := by rw [IntKind.wrap_i64]; have := HSm.out.effs; omega
        have R6 := Lib.hid (Rd.out.below b6)
        have I6 := Lib.hid (Id.out.below b6)
        have hg4 : g2 < W4.heap.size := (hgE _ e3).2
        have ha2 : ∀ p, a2 = some p → p.block ≠ W4.heap.size := fun p hp => by rcases hb6 p hp with e | e <;> omega
        have bA : Below W4.heap.size W4 W6 := bW.trans (b6.mono (by omega))
        have FC := Lib.hid (cut_state O4.out HEq.out Z5.out HSm.out bA R6.out hT2 ha2 rfl)
        have I7 := Lib.hid (I6.out.keep HS0.out ((Below.refl (w.heap.size + 1) W6).setCell (p := ⟨W4.heap.size, 11, none⟩) hT (.slice a2 (s.effs.take k ++ s.effs.drop (k + 1)).length c2)))
        have cT6 : W6.cell? ⟨W4.heap.size, 11, none⟩ = some (.slice s.ea s.effs.length s.ec) := by exact R6.out.st.2.2.2.2.2.2
        have fT6 := R6.out.free 11
        have O6 := Lib.hid (Od.out.below b6)
        have HT := Lib.hid hT2
        clear ha2 hb6 bA bW hgE hoE hoE2 hsl hA e3 e4 hcap t2 hT2 b6 Rd Id Od
        have HEf := Lib.hid hef
        have hkc : k ≤ s.ec := by omega
        clear hef
        generalize hTl : s.effs.take k ++ s.effs.drop (k + 1) = tl at *
        go_region_law (refine step_append_eqS rfl _ _ 27 27 rfl (.slice s.ea k k) (.slice a' (s.effs.drop (k + 1)).length c') (by simp [Act.eval, Act.put]) (by simp [Act.eval, Act.put]) (.slice a2 tl.length c2) W6 s3 ?_)
        all_goals
          have ldT := ld_sta FC.out.1
          have CR2 := Lib.hid (HR _ _ FC.out.2.1 FC.out.2.2.1)
          rw [FC.out.2.2.2, break_eff HRt.out hk] at CR2
          go_wp2_with fail
          refine CR2.out.mono ?_
          rintro e W8 ⟨rfl, b8⟩
          have I8 := Lib.hid (I7.out.below b8)
          have c9 := I8.out.one.st.2.2.2.2.1
          clear ldT CR2 FC I7 b8 I6 R6 O6 HT cT cT6 fT6 s1 s2 s3 hw
          by_cases hn : r.ords = []
          · have hl1 : ¬ (0 : Int) < (r.ords.length : Int) := by rw [hn]; simp
            have BX := Lib.hid I8.out.low
            clear I8
            go_wp2_with fail
            go_ret
            exact ⟨rfl, BX.out⟩
          · have hl1 : (0 : Int) < (r.ords.length : Int) := by have := List.length_pos_iff.2 hn; omega
            have hposq := List.length_pos_iff.2 hn
            obtain ⟨q, hq, hmq⟩ := clamp_of at_ r.ords.length hposq
            have ld := ld_sta I8.out.one
            have CC := Lib.hid (HC r W8 I8.out.st HSm.out)
            clear hn
            go_wp2_with fail
            refine CC.out.mono ?_
            rintro e W9 ⟨s, rfl, hs, hP, hO, b9⟩
            have Z9 := Lib.hid ((sizes_of I8.out.st).like hs)
            obtain ⟨g2, p, p', e1, hg1, hg2, hcap, hqs, hpe, hpp, hcell, hnext⟩ := next_state hO hs Z9.out HSm.out HRt.out hq
            have ba : Below W9.heap.size W9 (W9.alloc (.cells (stC s) 29)) := (Below.refl _ _).alloc (Nat.le_refl _) _
            have R9 := Lib.hid (Row.new W9 (stC s) 29)
            have I9 := Lib.hid ((I8.out.below b9).more (.cells (stC s) 29))
            have hT : w.heap.size < W9.heap.size := Nat.lt_of_lt_of_le I8.out.one.lt b9.size
            have hgw : w.heap.size < g2 := Nat.lt_of_lt_of_le I8.out.one.lt hg1
            have BA := Lib.hid ba
            have HNx := Lib.hid hnext
            clear ld c9 CC hP hO hs b9 I8 Z9 ba hnext hg1
            have c9 := I9.out.one.st.2.2.2.2.1
            have cT : (W9.alloc (.cells (stC s) 29)).cell? ⟨W9.heap.size, 9, none⟩ = some (.slice (some ⟨g2, 0, none⟩) s.ords.length s.oc) := by rw [← e1]; exact R9.out.st.2.2.2.2.1
            obtain ⟨cp, fp⟩ := hcell _ BA.out
            have hmw : max 0 (min at_ (wrap64 ((r.ords.length : Int) - 1))) = (q : Int) := by rw [show wrap64 ((r.ords.length : Int) - 1) = (r.ords.length : Int) - 1 from by have := HSm.out.ords; simp only [wrap64]; omega]; exact hmq
            obtain ⟨s2, hC2, hP2, hF2, hB2⟩ := HNx.out _ BA.out
            have IB := Lib.hid (I9.out.keep HS0.out ((Below.refl (w.heap.size + 1) (W9.alloc (.cells (stC s) 29))).setCell (p := ⟨g2, q * 10 + 6, none⟩) hgw (.int .i64 p')))
            have RB : Row ((W9.alloc (.cells (stC s) 29)).setCell ⟨g2, q * 10 + 6, none⟩ (.int .i64 p')) W9.heap.size 29 (stC s2) := by
              rw [hC2]
              exact (setCell_else _ _ _ (by omega)).trans R9.out
            have ldT := ld_sta RB
            obtain ⟨b, o, e2, hbl, hcs, _⟩ := IB.out.st.ords.sl.at LO_ok q hq
            have c9B : ((W9.alloc (.cells (stC s) 29)).setCell ⟨g2, q * 10 + 6, none⟩ (.int .i64 p')).cell? ⟨w.heap.size, 9, none⟩ = some (.slice (some ⟨b, o, none⟩) r.ords.length r.oc) := by rw [← e2]; exact IB.out.one.st.2.2.2.2.1
            have c9 : (W9.alloc (.cells (stC s) 29)).cell? ⟨w.heap.size, 9, none⟩ = some (.slice (some ⟨b, o, none⟩) r.ords.length r.oc) := by rw [← e2]; exact I9.out.one.st.2.2.2.2.1
            have cW : ((W9.alloc (.cells (stC s) 29)).setCell ⟨g2, q * 10 + 6, none⟩ (.int .i64 p')).cell? ⟨b, o + q * 10 + 6, none⟩ = some (.int .i64 p) := by rw [← hpe]; exact hcs 6 _ rfl
            have CR := Lib.hid (HR _ _ hP2 hF2)
            have LB := Lib.hid IB.out.low
            clear e1 hcell e2 hcs hbl RB hC2 hP2 hF2 R9 I9 IB HNx BA hpe hg2 hT hgw
            cases hb : rightS s2.st with
            | true =>
              have hp11 := hB2 hb
              rw [hb] at CR
              subst hp11
              obtain rfl : p' = 12 := by omega
              clear hb hB2 hpp
              go_wp2_with fail
              refine CR.out.mono ?_
              rintro e WC ⟨rfl, bc⟩
              have LC := Lib.hid (LB.out.trans (bc.mono LB.out.size))
              clear ldT CR LB bc c9 c9B cW cT cp fp hmw
              go_wp2_with fail
              go_ret
              exact ⟨rfl, LC.out⟩
            | false =>
              rw [hb] at CR
              clear hb hB2
              rcases hpp with ⟨rfl, rfl⟩ | ⟨rfl, rfl⟩ | ⟨rfl, rfl⟩ | ⟨rfl, rfl⟩ | ⟨rfl, rfl⟩ | ⟨rfl, rfl⟩ | ⟨rfl, rfl⟩ | ⟨rfl, rfl⟩ | ⟨rfl, rfl⟩ | ⟨rfl, rfl⟩ | ⟨rfl, rfl⟩ | ⟨rfl, rfl⟩
              all_goals
                go_wp2_with fail
                refine CR.out.mono ?_
                rintro e WC ⟨rfl, bc⟩
                have LC := Lib.hid (LB.out.trans (bc.mono LB.out.size))
                clear ldT CR LB bc c9 c9B cW cT cp fp hmw
                go_wp2_with fail
                go_ret
                exact ⟨rfl, LC.out⟩



set_option maxRecDepth 100000 in
set_option maxHeartbeats 1000000 in
theorem stateBreaks_lifted (os : Os) (started : os.Started) (H : Type) (enc : TypeId × Value → H) :
    ReturnsInHanded {} Try.checked os 7 .any (Rows.stateBreaksSpec.pre6 enc Try.prog Try.f7 Rows.stateBreaksRow.domain false) (Rows.stateBreaksSpec.post enc Try.prog Try.f7 false true false false) := by
  refine returnsInHanded_of_change (C := Try.checked) own started (by kernel_rfl) Try.func7
    (ChangeSpec.witness6 (enc := enc) (C := Try.checked) false ⟨#[], #[.agg #[.int .i64 0, .int .i64 0, .int .i64 0, .int .i64 0, .int .i64 0, .slice none 0 0, .int .i64 0, .int .i64 0, .int .i64 0, .slice none 0 0, .slice none 0 0, .slice none 0 0], .int .i64 0], []⟩ 8 (by kernel_rfl) (by kernel_rfl) (by kernel_rfl) (by kernel_rfl)) ?_
  intro W base args ds gs before hval0 hW _ _
  have hval : ∀ (j : Nat) t v, Try.f7.params[j]? = some t → args[j]? = some v → Value.okWide Try.prog W .any base t v := hval0
  have hW' := hW
  obtain ⟨p, q, hA0, hV, rfl, _, _⟩ := hW
  have hA : DataW.TrodAll enc Try.prog W 0 (fun _ => true) true Try.f7.params.toList args.toList ds p := hA0
  rw [Try.params7] at hA hval
  obtain ⟨v0, vs0, d0, ds0, p0, q_0, hargs, rfl, rfl, h0, r0⟩ := trodAll_cons hA
  obtain ⟨v1, vs1, d1, ds1, p1, q_1, rfl, rfl, rfl, h1, r1⟩ := trodAll_cons r0
  obtain ⟨rfl, rfl, rfl⟩ := trodAll_nil r1
  obtain rfl : args = #[v0, v1] := by cases args; simp_all
  obtain ⟨rfl, rfl⟩ := trodVars_none hV
  clear hA0 hval0
  simp only [List.append_nil] at hW'
  obtain ⟨st0, rfl, hS0, hw0⟩ := state_of_trod (hval 0 29 v0 rfl rfl) h0
  have hlt0 : ∀ x ∈ p0, x.block < W.heap.size := fun x hx => by simpa using hW'.lt x (by simpa using (by simp [hx]))
  obtain ⟨a1, rfl, rfl, rfl, w1⟩ := open_int Try.underlying3 (hval 1 3 v1 rfl rfl) h1
  refine (breaks_walk new_of right_of copy_of st0 a1 W hS0).mono fun e W' ⟨he, hb⟩ => ?_
  subst he
  have hT : DataW.TrodAll enc Try.prog W' 0 (fun b => decide (b < W.heap.size)) true _ _ _ _ := (trodAll_cons_mk (Below.trod laidOut (by kernel_rfl) (of_decide_eq_true (by kernel_rfl)) h0 hb hlt0) (trodAll_cons_mk (shut_int Try.underlying3 w1) trodAll_mk0))
  simp only [List.append_nil] at hT
  exact ⟨_, rfl, _, _, _, [], p0, [], hW', trodAll_mk1 (shut_bool Try.underlying4 _), hT, rfl, hb.frame _, fun h => by cases h⟩

theorem stateBreaks_holds : Rows.StateBreaksSaid :=
  OpenClaim.holds_of_wide 7 Try.f7 rfl rfl rfl rfl rfl rfl rfl ⟨rfl, rfl, rfl, rfl, rfl⟩ rfl rfl rfl rfl rfl (by kernel_rfl) Try.func7 (by kernel_rfl)
    (of_decide_eq_true (by kernel_rfl)) (by unfold Func.isWrapper; first | (rw [if_pos (by decide +kernel)]; kernel_rfl) | (rw [if_neg (by decide +kernel)]; exact ⟨rfl, rfl⟩))
    (fun os started H enc _ => stateBreaks_lifted os started H enc)
#print axioms stateBreaks_holds


end Go.Proofs.Ytaghbfnikcldiaa
