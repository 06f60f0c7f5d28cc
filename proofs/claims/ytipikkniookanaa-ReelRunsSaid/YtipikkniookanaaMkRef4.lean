/- What the document's Read of layer 8 answers. -/
import Derived.Test.YtipikkniookanaaMkRef3
import Derived.Test.YtipikkniookanaaTexts
import Derived.Deep.DeepCutAuto
namespace Go.Proofs.Ytipikkniookanaa
set_option maxRecDepth 100000
open Go.RowKit

attribute [local go_sem ↓] ld26 ld66 st26 st66 bx26 al26 al66 bd26 bd66 bs61 bs48 mk48 eq26 ap61 ap48 ap49 cp46 cp48 apSS
attribute [local go_sem] bx_agg al_cell al_wr bd_zero bd_one bd_two bd_nine

/-- A round and texts in memory of the call's own are answered; all that was there stays. -/
def RReadPost (r : Nat × List (List Nat)) (w : World) (e : Ending) (w' : World) : Prop := ∃ a cap, e = .returned (.tuple #[.int .u64 (r.1 : Int), .slice a r.2.length cap]) ∧ SSP w' a cap r.2 ∧ Below w.heap.size w w'

/-- A cell in a local variable, within a region that draws. -/
theorem local_drew {w : World} {c : List Nat} (hc : IsCell c) : ∃ w', StR 90 (.pointer (some ⟨w.heap.size, 0, none⟩)) (.agg (arr c)) (w.alloc (.cells (arr zeroC) 90)).drew = .ok .skip w' ∧ RowAt w' w.heap.size 90 (c.map bv) ∧ Below w.heap.size w w' := by
  obtain ⟨w', h1, h2, h3⟩ := st_block (w := (w.alloc (.cells (arr zeroC) 90)).drew) zeroC_len hc.len (cell_block w zeroC)
  exact ⟨w', h1, h2, ((Below.refl w.heap.size w).alloc (Nat.le_refl _) _).drew.trans (h3.below (Nat.le_refl _))⟩

section
variable {w : World} {R : Nat → Prop} {g : Nat} {sv lv av wv : Value} {r : Rf}

theorem RfM.seenCell (h : RfM w R g sv lv av wv r) : w.cell? ⟨g, 1, none⟩ = some lv := (head7 h.head).2.1

set_option maxHeartbeats 4000000 in
set_option maxRecDepth 100000 in
theorem refRead_0 (h : RfM w R g sv lv av wv r) : Calls Try.prog 61 #[ptr g, .int .i64 0] w (RReadPost (readS (sideL r.seen 0)) w) := by
  have bF := (Below.refl w.heap.size w).alloc (Nat.le_refl _) (.cells #[] 9)
  have hm : r.seen.length ≤ 4096 := by have := h.good.most; have := h.good.size; omega
  have HCL := Lib.hid h.good.cl
  have HP := Lib.hid h
  have CR := Lib.hid (fun W (b : Below w.heap.size w W) => refRoom_any (HP.out.below b))
  have CM := Lib.hid (CR.out _ bF)
  have BF := Lib.hid bF
  have OF := Lib.hid (ownSS_fresh w w.heap.size (Nat.le_refl _))
  have NB := Lib.hid (show ∀ W a cap, Below w.heap.size w W → RReadPost (0, []) w (.returned (.tuple #[.int .u64 0, .slice a 0 cap])) W from fun W a cap b => ⟨a, cap, rfl, ⟨by simp, by simp, fun h => absurd rfl h⟩, b⟩)
  have HSL := Lib.hid (sideL_len r.seen (side := 0) (by omega))
  have HSC := Lib.hid (sideL_cells HCL.out 0)
  cases t2 : (((r.seen.length / 2 : Nat) : Int) == 0) with
  | true =>
    have E := Lib.hid (show readS (sideL r.seen 0) = (0, []) by rw [List.eq_nil_of_length_eq_zero (HSL.out.trans (by simp at t2; omega))]; rfl)
    clear h bF
    generalize r.seen.length / 2 = n at *
    go_enter Try.func61, Try.ntmps61
    go_wp2_with fail
    refine CM.out.mono ?_
    rintro e w' ⟨rfl, rfl⟩
    go_wp2_with fail
    go_ret2
    rw [E.out]
    exact NB.out _ _ _ BF.out
  | false =>
  have hn0 : 0 < r.seen.length / 2 := by simp at t2; omega
  obtain ⟨b, cap, rfl, hcap, hRb, _⟩ := h.seenAt (k := 0) (by omega)
  have HROW := Lib.hid (show ∀ W, Below w.heap.size w W → RowAt W b 90 (rowL r.seen) from fun W hb => by
    obtain ⟨b', c', e, _, _, hr⟩ := (HP.out.below hb).seenAt (k := 0) (by omega)
    injection e with e1 e2 e3
    injection e1 with e1
    injection e1 with e1
    subst e1
    exact hr)
  have HC1 := Lib.hid (show ∀ W, Below w.heap.size w W → W.cell? ⟨g, 1, none⟩ = some (.slice (some ⟨b, 0, none⟩) r.seen.length cap) from fun W hb => (HP.out.below hb).seenCell)
  have HSG := Lib.hid (show ∀ k (hk : k < r.seen.length / 2) W, Below w.heap.size w W → LdR 90 (.pointer (some ⟨b, (0 * (r.seen.length / 2) + k) * 64, none⟩)) W = .ok (.value (.agg (arr ((sideL r.seen 0)[k]'(by rw [HSL.out]; exact hk))))) W from fun k hk W hb => by
    have hk2 : 0 * (r.seen.length / 2) + k < r.seen.length := by omega
    have hc := HCL.out _ (List.getElem_mem hk2)
    rw [sideL_get r.seen (side := 0) (k := k) (by omega) hk]
    refine ld_cell (HROW.out W hb) hc.len ?_
    rw [rowL_cell HCL.out hk2]
    simp only [List.getD_eq_getElem?_getD, List.getElem?_eq_getElem hk2, Option.getD_some])
  have hk0 : 0 < (sideL r.seen 0).length := by rw [HSL.out]; exact hn0
  have ic := HSC.out _ (List.getElem_mem hk0)
  have HF := Lib.hid (show readS (sideL r.seen 0) = if isRoundB (markC (sideL r.seen 0)[0] / 65536) then (if runS (markC (sideL r.seen 0)[0] / 65536) 0 (sideL r.seen 0) = [] then (0, []) else (markC (sideL r.seen 0)[0] / 65536, runS (markC (sideL r.seen 0)[0] / 65536) 0 (sideL r.seen 0))) else (0, []) by
    rw [readS_ref]
    generalize sideL r.seen 0 = S at *
    cases S with
    | nil => simp at hk0
    | cons c t => rfl)
  have bZ := bF.alloc bF.size (.cells (arr zeroC) 90)
  have c1 := HC1.out _ bF
  have c1a := HC1.out _ bZ
  have l1 := HSG.out 0 hn0 _ bF.drew
  have l2 := HSG.out 0 hn0 _ bZ.drew
  have C1 := Lib.hid (CR.out _ bF.drew)
  have C2 := Lib.hid (CR.out _ bZ.drew)
  generalize (sideL r.seen 0)[0] = c at *
  simp only [Nat.zero_mul, Nat.add_zero] at l1 l2
  have HLN := Lib.hid (show ∀ k, k < r.seen.length / 2 → 0 * (r.seen.length / 2) + k < r.seen.length from fun k hk => by omega)
  generalize sideL r.seen 0 = S at *
  obtain ⟨w4, s4, r4, b4⟩ := local_drew (w := w.alloc (.cells #[] 9)) ic
  have hs1 : (w.alloc (.cells #[] 9)).heap.size = w.heap.size + 1 := by simp
  rw [hs1] at s4 r4
  have R4 := Lib.hid r4
  have O4 := Lib.hid (OF.out.below b4)
  have B4 := Lib.hid (BF.out.trans (b4.mono BF.out.size))
  clear h bF bZ hs1 r4 b4
  have hn2 : r.seen.length / 2 ≤ 2048 := by omega
  have hlen1 : 0 < r.seen.length := by omega
  have hln : r.seen.length ≤ 4096 := hm
  generalize r.seen.length / 2 = n at *
  generalize r.seen.length = ln at *
  clear hm
  have MC := Lib.hid (fun W => refMark_any ic W)
  have hmk : markC c < 18446744073709551616 := by
    have := numC_lt ic 0
    unfold markC
    split <;> omega
  generalize markC c = x at *
  obtain ⟨q, hq, hq2, HQ⟩ : ∃ q : Nat, (x : Int) / 65536 = (q : Int) ∧ q < 18446744073709551616 ∧ Hid (x / 65536 = q) := ⟨x / 65536, by omega, by omega, rfl⟩
  rw [HQ.out] at HF
  have hw0 : IntKind.i64.wrap 0 = 0 := by decide
  go_enter Try.func61, Try.ntmps61
  go_wp2_with fail
  refine CM.out.mono ?_
  rintro e w' ⟨rfl, rfl⟩
  go_wp2_with fail
  go_cut [7] (fun s7 wx => s7 = .pointer (some ⟨w.heap.size + 1, 0, none⟩) ∧ Hid (RowAt wx (w.heap.size + 1) 90 (c.map bv)) ∧ Hid (OwnSS wx w.heap.size (.slice (some ⟨w.heap.size, 0, none⟩) 0 0) []) ∧ Hid (Below w.heap.size w wx))
  case first =>
    go_region_law (first
      | (go_simp; go_at_call 45; (with_reducible refine C1.out.mono ?_); rintro e w' ⟨rfl, rfl⟩)
      | (go_simp; go_at_call 45; (with_reducible refine C2.out.mono ?_); rintro e w' ⟨rfl, rfl⟩))
    all_goals
      go_wp2_with fail
      go_meet
      exact ⟨rfl, R4, O4, B4⟩
  case rest =>
    obtain ⟨rfl, RC, OC, BC⟩ := hcut
    have LC := ld_block ic.len RC.out
    clear C1 C2 l1 l2 c1 c1a s4 R4 O4 B4 CM OF BF
    go_wp2_with fail
    refine (MC.out _).mono ?_
    rintro e w5 ⟨rfl, b5⟩
    have B5 := Lib.hid (BC.out.trans (b5.mono BC.out.size))
    have O5 := Lib.hid (OC.out.below b5)
    clear b5 LC RC OC BC MC ic
    cases t3 : decide ((q : Int) < 1) with
    | true =>
      have E := Lib.hid (show readS S = (0, []) by rw [HF.out, show isRoundB q = false by simp at t3; simp [isRoundB]; omega]; rfl)
      go_wp2_with fail
      go_ret2
      rw [E.out]
      exact NB.out _ _ _ B5.out
    | false =>
    cases t4 : decide ((q : Int) > 1099511627776) with
    | true =>
      have E := Lib.hid (show readS S = (0, []) by rw [HF.out, show isRoundB q = false by simp at t4; simp [isRoundB]; omega]; rfl)
      go_wp2_with fail
      go_ret2
      rw [E.out]
      exact NB.out _ _ _ B5.out
    | false =>
    have hqm : q ≤ 1099511627776 := by simp at t4; omega
    have HE := Lib.hid (show readS S = if runS q 0 S = [] then (0, []) else (q, runS q 0 S) by rw [HF.out, show isRoundB q = true by simp at t3 t4; simp [isRoundB]; omega]; rfl)
    clear HF
    go_wp2_with fail
    go_loopw [6, 9] (fun v i wr => ∃ (k : Nat) (ls : List (List Nat)), k ≤ n ∧ i = .int .i64 k ∧ Hid (ls.length = k) ∧ Hid (OwnSS wr w.heap.size v ls) ∧ Hid (ls ++ runS q k (S.drop k) = runS q 0 S) ∧ Hid (Below w.heap.size w wr)) (fun _ i _ => n - (intOf i).toNat)
    case atStart => exact ⟨0, [], Nat.zero_le _, rfl, Lib.hid rfl, O5, Lib.hid (by simp), B5⟩
    case round =>
      clear O5 B5
      obtain ⟨k, ls, hk, rfl, HLL, HO, HRR, HB⟩ := hrel
      have CK := Lib.hid (CR.out _ HB.out)
      by_cases hlt : k < n
      · have hSk : k < S.length := by rw [HSL.out]; exact hlt
        have bZ := HB.out.alloc HB.out.size (.cells (arr zeroC) 90)
        have c1 := HC1.out _ HB.out
        have c1a := HC1.out _ bZ
        have l1 := HSG.out k hlt _ HB.out.drew
        have l2 := HSG.out k hlt _ bZ.drew
        have C1 := Lib.hid (CR.out _ HB.out.drew)
        have C2 := Lib.hid (CR.out _ bZ.drew)
        have jc := HSC.out _ (List.getElem_mem hSk)
        have HD := Lib.hid (runS_drop q hSk)
        have hb2 := HLN.out k hlt
        generalize S[k] = d at *
        simp only [Nat.zero_mul, Nat.zero_add] at l1 l2 hb2
        have hwk : IntKind.i64.wrap (k : Int) = (k : Int) := IntWalk.i64_in _ (by omega)
        obtain ⟨w9, s9, r9, b9⟩ := local_drew (w := wr) jc
        have R9 := Lib.hid r9
        have B9 := Lib.hid b9
        clear bZ r9 b9
        go_wp2_with fail
        refine CK.out.mono ?_
        rintro e w' ⟨rfl, rfl⟩
        go_wp2_with fail
        go_cut [10] (fun s10 wx => s10 = .pointer (some ⟨wr.heap.size, 0, none⟩) ∧ Hid (RowAt wx wr.heap.size 90 (d.map bv)) ∧ Hid (Below wr.heap.size wr wx))
        case first =>
          go_region_law (first
            | (go_simp; go_at_call 45; (with_reducible refine C1.out.mono ?_); rintro e w' ⟨rfl, rfl⟩)
            | (go_simp; go_at_call 45; (with_reducible refine C2.out.mono ?_); rintro e w' ⟨rfl, rfl⟩))
          all_goals
            go_wp2_with fail
            go_meet
            exact ⟨rfl, R9, B9⟩
        case rest =>
          obtain ⟨rfl, RC, BC⟩ := hcut
          have LC := ld_block jc.len RC.out
          have MD := Lib.hid (fun W => refMark_any jc W)
          have hmm : markN q k < 18446744073709551616 := markN_lt hqm (by omega)
          have CE := Lib.hid (show ∀ W, Calls Try.prog 84 #[.int .u64 (q : Int), .int .i64 (k : Int), .slice none 0 0] W (CellPost (markedC (markN q k) []) W) from fun W => refCell_any q k hqm (by omega) none 0 [] W (BytesP.nil _ _ _) (by simp))
          have ME := Lib.hid (fun W => refMark_any (markedC_is (markN q k) (l := []) (by simp) (fun _ h => by simp at h)) W)
          rw [markC_marked hmm (by simp)] at ME
          have HBE := Lib.hid (markC_bears d q k)
          generalize markedC (markN q k) [] = mc at *
          generalize markC d = xd at *
          generalize markN q k = mk at *
          clear C1 C2 l1 l2 c1 c1a s9 R9 B9 CK
          go_wp2_with fail
          refine (MD.out _).mono ?_
          rintro e w6 ⟨rfl, b6⟩
          have B6 := Lib.hid b6
          clear b6 LC
          go_wp2_with fail
          refine (CE.out _).mono ?_
          rintro e w7 ⟨rfl, b7⟩
          have B7 := Lib.hid (B6.out.trans (b7.mono B6.out.size))
          clear b7
          go_wp2_with fail
          refine (ME.out _).mono ?_
          rintro e w8 ⟨rfl, b8⟩
          have B8 := Lib.hid (B7.out.trans (b8.mono B7.out.size))
          have BW := Lib.hid (BC.out.trans (B8.out.mono BC.out.size))
          clear b8 B6 B7
          by_cases t5 : xd = mk
          · have ht : bearsC d mk = true := HBE.out.1 t5
            subst t5
            rw [ht] at HD
            have hil := innerC_len jc
            have RT := run_text (inner_bytes jc (RC.out.same (B8.out.block _ RC.out.lt)))
            obtain ⟨a', n', c', wC, hap, hoC, hbC⟩ := (HO.out.below BW.out).push (HB.out.trans (BW.out.mono HB.out.size)).size (innerC d) (by rw [HLL.out]; omega) 38
            have HOC := Lib.hid hoC
            have HBC := Lib.hid ((HB.out.trans (BW.out.mono HB.out.size)).trans hbC)
            have HLC := Lib.hid (show (ls ++ [innerC d]).length = k + 1 by rw [List.length_append, HLL.out]; rfl)
            have HRC := Lib.hid (show (ls ++ [innerC d]) ++ runS q (k + 1) (S.drop (k + 1)) = runS q 0 S by rw [← HRR.out, HD.out]; simp)
            rw [hil] at RT
            generalize ls ++ [innerC d] = ls2 at *
            generalize strB (innerC d) = tx at *
            clear hoC hbC hil HD HRR HLL HO HB BW B8 BC RC ht
            go_wp2_with fail
            go_roundw
            case rel => exact ⟨k + 1, ls2, by omega, by go_num, HLC, HOC, HRC, HBC⟩
            case measure => simp [intOf]; omega
          · have ht : bearsC d mk = false := by
              cases hb : bearsC d mk with
              | false => rfl
              | true => exact absurd (HBE.out.2 hb) t5
            rw [ht] at HD
            have HEQ := Lib.hid (show ls = runS q 0 S by rw [← HRR.out, HD.out]; simp)
            have t5' : ((xd : Int) == (mk : Int)) = false := by simp; omega
            have hO := HO.out.below BW.out
            rw [HEQ.out] at hO
            obtain ⟨av, cv, rfl, hL⟩ := hO.lists (by have := runS_len q S 0; rw [HSL.out] at this; omega)
            have HL := Lib.hid hL
            have HBB := Lib.hid (HB.out.trans (BW.out.mono HB.out.size))
            clear hO hL HO HD HRR HLL HB BW B8 BC RC ht
            by_cases hz : runS q 0 S = []
            · have E := Lib.hid (show readS S = (0, []) by rw [HE.out, if_pos hz])
              have hz2 : (runS q 0 S).length = 0 := by rw [hz]; rfl
              generalize (runS q 0 S).length = rl at *
              subst hz2
              go_wp2_with fail
              go_ret2
              rw [E.out]
              exact NB.out _ _ _ HBB.out
            · have E := Lib.hid (show readS S = (q, runS q 0 S) by rw [HE.out, if_neg hz])
              have hz2 : (((runS q 0 S).length : Int) == 0) = false := by
                cases hr : runS q 0 S with
                | nil => exact absurd hr hz
                | cons y ys => simp; omega
              generalize hgl : (runS q 0 S).length = rl at *
              have HGL := Lib.hid hgl
              clear hgl hz
              go_wp2_with fail
              go_ret2
              rw [E.out]
              exact ⟨av, cv, by rw [HGL.out]; rfl, HL.out, HBB.out⟩
      · have HEQ := Lib.hid (show ls = runS q 0 S by rw [← HRR.out, List.drop_eq_nil_of_le (by rw [HSL.out]; omega)]; simp [runS])
        have hO := HO.out
        rw [HEQ.out] at hO
        obtain ⟨av, cv, rfl, hL⟩ := hO.lists (by have := runS_len q S 0; rw [HSL.out] at this; omega)
        have HL := Lib.hid hL
        clear hO hL HO HRR HLL
        by_cases hz : runS q 0 S = []
        · have E := Lib.hid (show readS S = (0, []) by rw [HE.out, if_pos hz])
          have hz2 : (runS q 0 S).length = 0 := by rw [hz]; rfl
          generalize (runS q 0 S).length = rl at *
          subst hz2
          go_wp2_with fail
          refine CK.out.mono ?_
          rintro e w' ⟨rfl, rfl⟩
          go_wp2_with fail
          go_ret2
          rw [E.out]
          exact NB.out _ _ _ HB.out
        · have E := Lib.hid (show readS S = (q, runS q 0 S) by rw [HE.out, if_neg hz])
          have hz2 : (((runS q 0 S).length : Int) == 0) = false := by
            cases hr : runS q 0 S with
            | nil => exact absurd hr hz
            | cons y ys => simp; omega
          generalize hgl : (runS q 0 S).length = rl at *
          have HGL := Lib.hid hgl
          clear hgl hz
          go_wp2_with fail
          refine CK.out.mono ?_
          rintro e w' ⟨rfl, rfl⟩
          go_wp2_with fail
          go_ret2
          rw [E.out]
          exact ⟨av, cv, by rw [HGL.out]; rfl, HL.out, HB.out⟩

end

end Go.Proofs.Ytipikkniookanaa
