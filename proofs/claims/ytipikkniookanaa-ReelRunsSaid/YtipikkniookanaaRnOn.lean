/- What the document's On of layer 9 answers. -/
import Derived.Test.YtipikkniookanaaMgPlain
import Derived.Test.YtipikkniookanaaRnOpen
import Derived.Test.YtipikkniookanaaMgTale
import Derived.Lib.ConvBytes
namespace Go.Proofs.Ytipikkniookanaa
set_option maxRecDepth 100000
open Go.RowKit

attribute [local go_sem ↓] ld26 ld66 st26 st66 bx26 al26 al66 bd26 bd66 bs61 bs48 mk48 eq26 ap61 ap48 ap49 cp46 cp48 apSS
attribute [local go_sem] bx_agg al_cell al_wr bd_zero bd_one bd_two bd_nine

/-- A text as bytes in a row of the call's own. -/
theorem run_bytes_text (w : World) (l : List Nat) (hl : Bytes l) (h : l.length ≤ 1000000) : ∃ c W, (convert 9 24 (.string (strB l))).run Try.prog w = .ok (.slice (some ⟨w.heap.size, 0, none⟩) l.length c) W ∧ BytesP W (some ⟨w.heap.size, 0, none⟩) c l ∧ Below w.heap.size w W := by
  have hr := Lib.run_convert_string_bytes (P := Try.prog) w 9 24 5 (strB l) Try.underlying9 Try.underlying24 Try.underlying5
  have hsz := strB_size l
  rw [hsz] at hr
  refine ⟨_, _, hr, ⟨grownCap_ge _ _ _ _, by omega, hl, fun _ => ⟨w.heap.size, 0, rfl, by rw [Lib.bytesWorld_size]; omega, fun j x hj => ?_⟩⟩, ⟨rfl, rfl, rfl, by rw [Lib.bytesWorld_size]; omega, fun k hk => Lib.bytesWorld_at_old w 5 (strB l) k hk⟩⟩
  have hjl := (List.getElem?_eq_some_iff.1 hj).1
  rw [Nat.zero_add, Lib.bytesWorld_cell w 5 (strB l) j (by rw [hsz]; exact hjl)]
  have hs := strL_strB hl
  unfold strL at hs
  have := congrArg (fun z => z[j]?) hs
  simp only [List.getElem?_map, hj] at this
  obtain ⟨y, hy1, hy2⟩ := Option.map_eq_some_iff.1 this
  rw [List.getD_eq_getElem?_getD, hy1]
  simp [hy2]

/-- A part of a slice of texts. -/
theorem slice_texts {a : Option Addr} {c : Nat} {ls : List (List Nat)} (hc : ls.length ≤ c) (k : Nat) (hk : k ≤ ls.length) :
    ∃ a' c', (∀ W, (Instr.slice 38 (.slice a ls.length c) (some (.int .i64 (k : Int))) none none).run Try.prog W = .ok (.slice a' (ls.length - k) c') W) ∧ ∀ W, SSP W a c ls → SSP W a' c' (ls.drop k) := by
  obtain ⟨i0, hi0, hz0, hzs, hzb⟩ := info_parts infoS
  refine ⟨if c = k then a else a.map (·.add k), c - k, fun W => ?_, fun W hW => ⟨by rw [List.length_drop]; omega, by rw [List.length_drop]; have := hW.len; omega, fun hne => ?_⟩⟩
  · have hz : (Go.sizeOf 9).run Try.prog W = .ok 1 W := by simp [Go.sizeOf, typeInfo, hi0, hzs]
    have h0 : ¬ ((k : Int) < 0) := by omega
    simp [Instr.slice, run_underlying Try.underlying38, Instr.sliceBounds, run_sliceBound, hk]
  · have hlt : k < ls.length := by
      rcases Nat.lt_or_ge k ls.length with h | h
      · exact h
      · rw [List.drop_eq_nil_of_le h] at hne; exact absurd rfl hne
    obtain ⟨b, o, rfl, h1, h2⟩ := hW.cell (by intro e; rw [e] at hlt; simp at hlt)
    rw [if_neg (by omega)]
    refine ⟨b, o + k, by rw [Option.map_some, Addr.add_lit], h1, fun j l hj => ?_⟩
    rw [List.getElem?_drop] at hj
    rw [show o + k + j = o + (k + j) by omega]
    exact h2 (k + j) l hj

/-- A round and texts in memory of the call's own are answered; all that was there stays. -/
def ROnPost (rd : Nat) (ls : List (List Nat)) (w : World) (e : Ending) (w' : World) : Prop := ∃ a cap, e = .returned (.tuple #[.int .u64 (rd : Int), .slice a ls.length cap]) ∧ SSP w' a cap ls ∧ Below w.heap.size w w'

theorem strB_app (a b : List Nat) : strB (a ++ b) = strB a ++ strB b := by
  unfold strB
  apply ByteArray.ext
  apply Array.toList_inj.1
  rw [ByteArray.data_append, Array.toList_append, strOfNums_data, strOfNums_data, strOfNums_data, List.map_append, List.map_append]

set_option maxHeartbeats 8000000 in
theorem refOn_any {w : World} {R : Nat → Prop} {g : Nat} {sv lv av wv : Value} {r : Rf} (h : RfM w R g sv lv av wv r) (side : Int) : Calls Try.prog 41 #[ptr g, .int .i64 side] w (ROnPost (readL r.seen side).1 (onR 1 (readL r.seen side).2) w) := by
  have CR := Lib.hid (refRead_any h side)
  have hfl := readL_flat h.good.cl side
  have heach := readL_each h.good.cl side
  have hlen := readL_room r.seen side
  have hm := h.good.most
  have hsz := h.good.size
  obtain ⟨rd, S, hrs⟩ : ∃ rd S, readL r.seen side = (rd, S) := ⟨_, _, rfl⟩
  rw [hrs] at CR hfl heach hlen ⊢
  dsimp only at hfl heach hlen ⊢
  have hSl : S.length ≤ 4096 := by omega
  have HFL := Lib.hid hfl
  have HEA := Lib.hid heach
  clear h hfl heach hlen hm hsz hrs
  go_enter Try.func41, Try.ntmps41
  go_wp2_with fail
  refine CR.out.mono ?_
  rintro e w1 ⟨la, lc, rfl, hL, b1⟩
  have HL := Lib.hid hL
  have hlc := hL.cap
  have B1 := Lib.hid b1
  have B2 := Lib.hid ((Below.refl w1.heap.size w1).alloc (Nat.le_refl _) (.cells #[] 9))
  have OF := Lib.hid (ownSS_fresh w1 w1.heap.size (Nat.le_refl _))
  clear hL b1 CR
  go_wp2_with fail
  go_loopw [8, 9] (fun s8 s9 wr => ∃ (ls : List (List Nat)) (va : Option Addr) (vc at_ : Nat), s8 = .slice va ls.length vc ∧ s9 = .int .i64 (at_ : Int) ∧ at_ ≤ S.length ∧ ls.length ≤ at_ ∧ Hid (OwnSS wr w1.heap.size (.slice va ls.length vc) ls) ∧ Hid (onR 1 S = ls ++ onR (if at_ = 0 then 1 else 2) (S.drop at_)) ∧ Hid (Below w1.heap.size w1 wr)) (fun _ s9 _ => S.length - (intOf s9).toNat)
  case atStart => exact ⟨[], some ⟨w1.heap.size, 0, none⟩, 0, 0, rfl, rfl, Nat.zero_le _, Nat.zero_le _, OF, Lib.hid (by simp), B2⟩
  case round =>
    clear OF B2
    obtain ⟨ls, va, vc, at_, rfl, rfl, hat, hla, HO, HR, HB⟩ := hrel
    have HL1 := HL
    replace HL := Lib.hid (HL1.out.below HB.out)
    by_cases hlt : at_ < S.length
    · obtain ⟨a', c', hs, hsp⟩ := slice_texts hlc at_ hat
      have HD := Lib.hid (hsp _ HL.out)
      have hdl : (S.drop at_).length = S.length - at_ := List.length_drop
      have HDB := Lib.hid (show Bytes (S.drop at_).flatten ∧ (S.drop at_).flatten.length = (S.drop at_).length * 48 from by
        have he : ∀ x ∈ S.drop at_, x.length = 48 ∧ Bytes x := fun x hx => HEA.out x (List.mem_of_mem_drop hx)
        refine ⟨fun b hb => ?_, ?_⟩
        · obtain ⟨x, hx, hb⟩ := List.mem_flatten.1 hb
          exact (he x hx).2 b hb
        · generalize S.drop at_ = D at he
          induction D with
          | nil => rfl
          | cons c r ih => rw [List.flatten_cons, List.length_append, (he c (by simp)).1, ih (fun d hd => he d (by simp [hd])), List.length_cons]; omega)
      rw [← hdl] at hs
      have hDn : (S.drop at_).length ≤ 4096 := by omega
      have HDL := Lib.hid hdl
      have HS3 := Lib.hid (show ∀ c, (S.drop at_).drop c = S.drop (at_ + c) from fun c => by rw [List.drop_drop])
      clear hsp hdl
      generalize S.drop at_ = D at *
      go_wp2_with fail
      generalize wr = wo at *
      go_loopw [10, 32] (fun s10 s32 wr => ∃ (i : Nat), s32 = .int .i64 (i : Int) ∧ i ≤ D.length ∧ s10 = .string (strB (D.take i).flatten) ∧ wr = wo) (fun _ s32 _ => D.length - (intOf s32).toNat)
      case atStart => exact ⟨0, rfl, Nat.zero_le _, by simp; decide +kernel, rfl⟩
      case round =>
        obtain ⟨i, rfl, hi, rfl, rfl⟩ := hrel
        by_cases hil : i < D.length
        · obtain ⟨b2, o2, rfl, q2, r2⟩ := HD.out.cell (by intro e; rw [e] at hil; simp at hil)
          have g2 := r2 i _ (List.getElem?_eq_getElem hil)
          have hdc := HD.out.cap
          have hadd : strB (D.take i).flatten ++ strB D[i] = strB (D.take (i + 1)).flatten := by
            rw [← strB_app, List.take_add_one, List.getElem?_eq_getElem hil, List.flatten_append]
            simp
          have hsz1 : ¬ 9223372036854775807 < (strB (D.take i).flatten).size + (strB D[i]).size := by
            rw [strB_size, strB_size]
            have h1 : (D.take (i + 1)).flatten.length ≤ D.flatten.length := by
              conv => rhs; rw [← List.take_append_drop (i + 1) D, List.flatten_append, List.length_append]
              omega
            have h2 : (D.take (i + 1)).flatten.length = (D.take i).flatten.length + D[i].length := by
              rw [List.take_add_one, List.getElem?_eq_getElem hil, List.flatten_append, List.length_append]
              simp
            have := HDB.out.2
            omega
          generalize strB (D.take i).flatten = sa at *
          generalize hsc : strB (D.take (i + 1)).flatten = sc at *
          have HSC := Lib.hid hsc
          clear hsc
          generalize strB D[i] = sb at *
          clear r2
          go_wp2_with fail
          go_roundw
          case rel => exact ⟨i + 1, by go_num, by omega, by rw [HSC.out], trivial⟩
          case measure => simp [intOf]; omega
        · have hiD : i = D.length := by omega
          rw [hiD, List.take_length]
          clear hi hil hiD
          obtain ⟨cb, w2, hcv, hB2, b2⟩ := run_bytes_text wr D.flatten HDB.out.1 (by rw [HDB.out.2]; omega)
          have CO := Lib.hid (refPkOpen_any _ cb D.flatten w2 hB2 (by rw [HDB.out.2]; omega))
          have B2 := Lib.hid (HB.out.trans (b2.mono HB.out.size))
          have O2 := Lib.hid (HO.out.below b2)
          have L2 := Lib.hid (HL.out.below b2)
          have hdfl : D.flatten.length ≤ 1000000 := by rw [HDB.out.2]; omega
          have HFB := Lib.hid HDB.out.1
          have HFN := Lib.hid HDB.out.2
          have HN := Lib.hid (show ∀ k, (openL D.flatten).2.2.2 ≠ 0 ∨ (openL D.flatten).1 ≠ k → onR k D = [] from fun k h => onR_zero (by
            unfold frameAtR
            rw [if_neg (fun e => h.elim (fun h => h e.1) (fun h => h e.2))]))
          have HY := Lib.hid (show ∀ k body n, openL D.flatten = (k, body, n, 0) → 1 ≤ (n + 47) / 48 ∧ (n + 47) / 48 ≤ D.length ∧ n ≤ 1000000 ∧ onR k D = body :: onR 2 (D.drop ((n + 47) / 48)) from fun k body n h => by
            have h1 := open_alone HDB.out.1 h
            have h2 := congrArg List.length h1.1
            rw [frameL_len, List.length_take] at h2
            have h3 := h1.2.2.1
            have h4 := HDB.out.2
            have hfr : frameAtR D.flatten k = (body, (n + 47) / 48) := by unfold frameAtR; rw [h, if_pos ⟨rfl, rfl⟩]
            refine ⟨by omega, by omega, by omega, ?_⟩
            rw [onR, dif_neg (by rw [hfr]; simp only; omega), hfr])
          clear hB2 b2 HB HO HL HDB
          generalize D.flatten = F at *
          generalize wr.heap.size = fb at *
          go_wp2_with fail
          refine CO.out.mono ?_
          rintro e w3 ⟨k2, a2, c2, body, n2, err, rfl, hcase, hB3, b3⟩
          have b4 := b3.alloc b3.size (.cells #[.int .u8 (k2 : Int), .slice a2 body.length c2] 76)
          have B4 := Lib.hid (B2.out.trans (b4.mono B2.out.size))
          have O4 := Lib.hid (O2.out.below b4)
          have L4 := Lib.hid (L2.out.below b4)
          have HB4 := Lib.hid (hB3.below ((Below.refl w3.heap.size w3).alloc (Nat.le_refl _) (.cells #[.int .u8 (k2 : Int), .slice a2 body.length c2] 76)))
          have HG4 := Lib.hid (heap_alloc_new w3 (.cells #[.int .u8 (k2 : Int), .slice a2 body.length c2] 76))
          obtain ⟨z0, z1, _, _⟩ := row_cell HG4.out
          have HCS := Lib.hid hcase
          have hlt3 : w3.heap.size < (w3.alloc (.cells #[.int .u8 (k2 : Int), .slice a2 body.length c2] 76)).heap.size := by simp
          clear b3 b4 hB3 hcase B2 O2 L2 CO hcv
          obtain ⟨kd, hkd⟩ : ∃ kd : Nat, (if at_ = 0 then 1 else 2) = kd := ⟨_, rfl⟩
          rw [hkd] at HR
          rcases HCS.out with ⟨he, ho⟩ | ⟨he, ho⟩
          · subst he
            by_cases hkk : k2 = kd
            · subst hkk
              obtain ⟨hy1, hy2, hy3, hy4⟩ := HY.out _ _ _ ho
              have HY4 := Lib.hid hy4
              obtain ⟨cs, hcs, HCC⟩ : ∃ cs : Nat, ((n2 : Int) + 47).tdiv 48 = (cs : Int) ∧ Hid (cs = (n2 + 47) / 48) := ⟨(n2 + 47) / 48, by rw [Int.tdiv_eq_ediv_of_nonneg (by omega)]; omega, rfl⟩
              rw [← HCC.out] at hy1 hy2 HY4
              have hcs2 : ((n2 : Int) + 47) / 48 = (cs : Int) := by rw [← hcs, Int.tdiv_eq_ediv_of_nonneg (by omega)]
              have RX := run_text HB4.out
              obtain ⟨a5, n5, c5, w5, hap, o5, b5⟩ := O4.out.push B4.out.size body (by omega) 38
              rw [show (w3.alloc (.cells #[.int .u8 (k2 : Int), .slice a2 body.length c2] 76)).heap.size = w3.heap.size + 1 by simp] at hap
              obtain ⟨fa, fc, e9, _⟩ := o5.lists (by simp; omega)
              have HLL2 := Lib.hid (show (ls ++ [body]).length = ls.length + 1 by simp)
              injection e9 with e9 e8 e10
              subst e9 e8 e10
              have O5 := Lib.hid o5
              have B5 := Lib.hid (B4.out.trans b5)
              have HR5 := Lib.hid (show onR 1 S = (ls ++ [body]) ++ onR (if at_ + cs = 0 then 1 else 2) (S.drop (at_ + cs)) by
                rw [HR.out, HY4.out, HS3.out, if_neg (by omega)]
                simp)
              have hDl := HDL.out
              clear o5 b5 HY4 HR HN HY
              generalize ls ++ [body] = ls2 at *
              cases ta : ((at_ : Int) == 0) with
              | true =>
                have tk : ((k2 : Int) == 1) = true := by
                  simp at ta
                  rw [if_pos (by omega)] at hkd
                  simp; omega
                go_wp2_with fail
                go_roundw
                case rel => exact ⟨ls2, a5, c5, at_ + cs, by rw [HLL2.out], by go_num, by omega, by have := HLL2.out; omega, O5, HR5, B5⟩
                case measure => simp [intOf]; omega
              | false =>
                have tk : ((k2 : Int) == 2) = true := by
                  simp at ta
                  rw [if_neg (by omega)] at hkd
                  simp; omega
                go_wp2_with fail
                go_roundw
                case rel => exact ⟨ls2, a5, c5, at_ + cs, by rw [HLL2.out], by go_num, by omega, by have := HLL2.out; omega, O5, HR5, B5⟩
                case measure => simp [intOf]; omega
            · have HE := Lib.hid (show onR 1 S = ls by rw [HR.out, HN.out kd (.inr (by rw [ho]; exact hkk)), List.append_nil])
              cases ta : ((at_ : Int) == 0) with
              | true =>
                have tk : ((k2 : Int) == 1) = false := by
                  simp at ta
                  rw [if_pos (by omega)] at hkd
                  simp; omega
                obtain ⟨fa, fc, e9, hSS⟩ := O4.out.lists (by omega)
                injection e9 with e9 _ e10
                subst e9 e10
                have HSS := Lib.hid hSS
                clear hSS
                go_wp2_with fail
                go_ret2
                rw [HE.out]
                exact ⟨_, _, rfl, HSS.out, B1.out.trans (B4.out.mono B1.out.size)⟩
              | false =>
                have tk : ((k2 : Int) == 2) = false := by
                  simp at ta
                  rw [if_neg (by omega)] at hkd
                  simp; omega
                obtain ⟨fa, fc, e9, hSS⟩ := O4.out.lists (by omega)
                injection e9 with e9 _ e10
                subst e9 e10
                have HSS := Lib.hid hSS
                clear hSS
                go_wp2_with fail
                go_ret2
                rw [HE.out]
                exact ⟨_, _, rfl, HSS.out, B1.out.trans (B4.out.mono B1.out.size)⟩
          · have te : (err == 0) = false := by simpa using he
            have HE := Lib.hid (show onR 1 S = ls by rw [HR.out, HN.out kd (.inl ho), List.append_nil])
            cases ta : ((at_ : Int) == 0) with
            | true =>
              obtain ⟨fa, fc, e9, hSS⟩ := O4.out.lists (by omega)
              injection e9 with e9 _ e10
              subst e9 e10
              have HSS := Lib.hid hSS
              clear hSS
              go_wp2_with fail
              go_ret2
              rw [HE.out]
              exact ⟨_, _, rfl, HSS.out, B1.out.trans (B4.out.mono B1.out.size)⟩
            | false =>
              obtain ⟨fa, fc, e9, hSS⟩ := O4.out.lists (by omega)
              injection e9 with e9 _ e10
              subst e9 e10
              have HSS := Lib.hid hSS
              clear hSS
              go_wp2_with fail
              go_ret2
              rw [HE.out]
              exact ⟨_, _, rfl, HSS.out, B1.out.trans (B4.out.mono B1.out.size)⟩
    · have hae : at_ = S.length := by omega
      have HE := Lib.hid (show onR 1 S = ls by rw [HR.out, hae, List.drop_length, onR_none, List.append_nil])
      obtain ⟨fa, fc, e9, hSS⟩ := HO.out.lists (by omega)
      injection e9 with e9 _ e10
      subst e9 e10
      have HSS := Lib.hid hSS
      clear hSS
      go_wp2_with fail
      go_ret2
      rw [HE.out]
      exact ⟨_, _, rfl, HSS.out, B1.out.trans (HB.out.mono B1.out.size)⟩

end Go.Proofs.Ytipikkniookanaa
