/- What the document's Fail does. -/
import Derived.Test.YtipikkniookanaaRef3
namespace Go.Proofs.Ytipikkniookanaa
open Go.RowKit

attribute [local go_sem ↓] ld26 ld66 st26 st66 bx26 al26 al66 bd26 bd66 bs61 bs48 mk48 eq26 ap61 ap48 ap49 cp46 cp48
attribute [local go_sem] bx_agg al_cell al_wr bd_zero bd_one bd_two bd_nine bs_none

theorem tmod_two (n r : Nat) : ((n : Int) / 2 ^ r).tmod 2 = (n : Int) / 2 ^ r % 2 := by
  have e : (n : Int) / 2 ^ r = ((n / 2 ^ r : Nat) : Int) := by simp
  rw [e, Int.tmod_eq_emod_of_nonneg (Int.natCast_nonneg _)]

/-- One of them is written, within a part. -/
theorem putL_byte {cur : List Value} {o x : Nat} (v : Value) (h : o + 64 ≤ cur.length) (hx : x < 64) : putL cur o (((cur.drop o).take 64).set x v) = cur.set (o + x) v := by
  have e1 : (cur.take o).length = o := by rw [List.length_take]; omega
  have e2 : (((cur.drop o).take 64).set x v).length = 64 := by rw [List.length_set, List.length_take, List.length_drop]; omega
  apply List.ext_getElem?
  intro m
  unfold putL
  rw [e2]
  by_cases h1 : m < o
  · rw [List.append_assoc, List.getElem?_append_left (by omega), List.getElem?_take, if_pos h1, List.getElem?_set_ne (by omega)]
  · by_cases h2 : m < o + 64
    · rw [List.append_assoc, List.getElem?_append_right (by omega), e1, List.getElem?_append_left (by omega)]
      by_cases h3 : m = o + x
      · subst h3
        rw [show o + x - o = x by omega, List.getElem?_set_self (by rw [List.length_take, List.length_drop]; omega), List.getElem?_set_self (by omega)]
      · rw [List.getElem?_set_ne (by omega), List.getElem?_set_ne (by omega), List.getElem?_take, if_pos (by omega), List.getElem?_drop]
        congr 1
        omega
    · rw [List.getElem?_append_right (by rw [List.length_append, e1, e2]; omega), List.length_append, e1, e2, List.getElem?_drop, List.getElem?_set_ne (by omega)]
      congr 1
      omega

theorem rowL_byte {s : List (List Nat)} (h : Cells s) {i x y : Nat} (hi : i < s.length) (hx : x < 64) (hc : IsCell ((s.getD i []).set x y)) : (rowL s).set (i * 64 + x) (bv y) = rowL (s.set i ((s.getD i []).set x y)) := by
  have hl := rowL_len h
  rw [← rowL_set h hc hi, List.map_set, ← rowL_cell h hi, putL_byte (bv y) (by omega) hx]

section
variable {w w' : World} {R : Nat → Prop} {g : Nat} {sv lv av wv : Value} {r : Rf}

/-- One byte of what is sure is written. -/
theorem RfM.byte (h : RfM w R g sv lv av wv r) {b : Nat} (hb : sv.ownBlock = some b) {i x y : Nat} (hi : i < r.sure.length) (hx : x < 64) (hy : y < 256 := by omega) :
    ∃ old, w.cell? ⟨b, i * 64 + x, none⟩ = some old ∧ w.frozen? ⟨b, i * 64 + x, none⟩ = false ∧ RfM ((w.drew).setCell ⟨b, i * 64 + x, none⟩ (bv y)) R g sv lv av wv { r with sure := r.sure.set i ((r.sure.getD i []).set x y) } ∧ Upd b w.drew ((w.drew).setCell ⟨b, i * 64 + x, none⟩ (bv y)) := by
  have hr := rowAt_own h.os hb
  have hl := rowL_len h.good.cs
  have hlt : i * 64 + x < (rowL r.sure).length := by omega
  have hc := getD_cell h.good.cs hi
  have hc2 : IsCell ((r.sure.getD i []).set x y) := ⟨by rw [List.length_set, hc.len], fun z hz => by
    rcases List.mem_or_eq_of_mem_set hz with h1 | h1
    · exact hc.byte z h1
    · rw [h1]; exact hy⟩
  obtain ⟨o1, u1⟩ := own_set (w := w.drew) (ownsRow_same h.os (fun _ _ => rfl)) hb (o := i * 64 + x) (vs := [bv y]) (by simp; omega)
  rw [putL_one _ hlt, rowL_byte h.good.cs hi hx hc2] at o1
  refine ⟨_, hr.cell (List.getElem?_eq_getElem hlt), hr.frozen _, h.drew.setSure hb u1 (by rw [List.length_set]; exact o1) ⟨by rw [List.length_set]; exact h.good.size, by rw [List.length_set]; exact h.good.most, h.good.cs.set hc2, h.good.cl, h.good.cw, fun z hz => by rw [List.length_set]; exact h.good.ai z hz, h.good.fewA, h.good.fewW, h.good.cnt⟩, u1⟩

/-- A byte of what was put. -/
theorem RfM.whatAt (h : RfM w R g sv lv av wv r) {k x : Nat} (hk : k < r.what.length) (hx : x < 64) {y : Nat} (hy : r.what[k][x]? = some y) : ∃ b cap, wv = .slice (some ⟨b, 0, none⟩) r.what.length cap ∧ w.cell? ⟨b, k * 64 + x, none⟩ = some (.int .u8 (y : Int)) := by
  obtain ⟨b, cap, rfl, _, hr⟩ := own_some h.ow (by omega)
  refine ⟨b, cap, rfl, hr.cell ?_⟩
  rw [rowL, List.getElem?_map, flat_get h.good.cw hk hx, List.getD_eq_getElem?_getD, List.getElem?_eq_getElem hk, Option.getD_some, hy]
  rfl

theorem RfM.atAt (h : RfM w R g sv lv av wv r) {k : Nat} (hk : k < r.ats.length) : ∃ b cap, av = .slice (some ⟨b, 0, none⟩) r.ats.length cap ∧ r.ats.length ≤ cap ∧ w.cell? ⟨b, k, none⟩ = some (.int .i64 (r.ats[k] : Int)) := by
  obtain ⟨b, cap, rfl, hc, hr⟩ := own_some h.oa (by omega)
  exact ⟨b, cap, rfl, hc, hr.cell (by rw [rowI, List.getElem?_map, List.getElem?_eq_getElem hk]; rfl)⟩

/-- What Fail makes of it. -/
def Rf.fail (r : Rf) (keep : List Nat) (torn at_ : Int) : Rf :=
  ⟨failL keep torn at_ 0 (r.ats.zip r.what) r.sure, failL keep torn at_ 0 (r.ats.zip r.what) r.sure, [], [], false, false, r.left⟩

set_option maxHeartbeats 16000000 in
set_option maxRecDepth 100000 in
theorem refFail_any (h : RfM w R g sv lv av wv r) (hlen : r.ats.length = r.what.length) (ka : Option Addr) (kc : Nat) (keep : List Nat) (hk : BytesP w ka kc keep) (hoff : keep ≠ [] → Off R ka) (torn at_ : Int) :
    Calls Try.prog 24 #[ptr g, .slice ka keep.length kc, .int .i64 torn, .int .i64 at_] w (fun e w' => e = .returned (.tuple #[]) ∧ RefP w' (ext R w w') g (r.fail keep torn at_) ∧ Keep R w w') := by
  have HR := Lib.hid h.rg
  have HDOM := Lib.hid h.dom
  have HB := Lib.hid hk
  have HO := Lib.hid hoff
  have hkl := hk.len
  have hkc := hk.cap
  obtain ⟨c0, c1, c2, c3, c4, c5, c6, hf⟩ := head7 h.head
  have X0 := Lib.hid h
  have K0 := Lib.hid (Keep.refl R w)
  have HLEN := Lib.hid hlen
  have hfa := h.good.fewA
  obtain ⟨aa, ca, rfl, hca⟩ := own_slice h.oa
  obtain ⟨n, hn⟩ : ∃ n, r.sure.length = n := ⟨_, rfl⟩
  have HN := Lib.hid hn
  clear h hk hoff hlen hn
  go_enter Try.func24, Try.ntmps24
  go_wp2_with fail
  go_loopw [17] (fun i wr => ∃ (k : Nat) (s : List (List Nat)), k ≤ r.ats.length ∧ i = .int .i64 k ∧ s.length = n ∧ Hid (RfM wr R g sv lv (.slice aa r.ats.length ca) wv { r with sure := s }) ∧ Hid (failL keep torn at_ k ((r.ats.zip r.what).drop k) s = failL keep torn at_ 0 (r.ats.zip r.what) r.sure) ∧ Hid (Keep R w wr)) (fun i _ => r.ats.length - (intOf i).toNat)
  case atStart => exact ⟨0, r.sure, Nat.zero_le _, rfl, HN.out, X0, Lib.hid rfl, K0⟩
  case round =>
    clear c0 c1 c2 c3 c4 c5 c6 hf
    obtain ⟨k, s, hk, rfl, hsn, HP, HS, HK⟩ := hrel
    by_cases hlt : k < r.ats.length
    · obtain ⟨ba, cpa, hav, _, y1⟩ := HP.out.atAt (k := k) hlt
      injection hav with ha1 ha2 ha3
      subst ha1
      have hin0 : r.ats[k] < s.length := by have := HP.out.good.ai _ (List.getElem_mem (l := r.ats) hlt); exact this
      have hkw : k < r.what.length := by have := HLEN.out; omega
      have HC := Lib.hid (show IsCell r.what[k] from HP.out.good.cw _ (List.getElem_mem hkw))
      have HZ := Lib.hid (show failL keep torn at_ (k + 1) ((r.ats.zip r.what).drop (k + 1)) (s.set r.ats[k] (tear (keptN keep torn at_ k) r.what[k] (s.getD r.ats[k] []))) = failL keep torn at_ 0 (r.ats.zip r.what) r.sure by
        have hz : k < (r.ats.zip r.what).length := by rw [List.length_zip]; omega
        have e := failL_drop keep torn at_ (s := s) hz
        rw [List.getElem_zip] at e
        rw [← HS.out, e])
      have HW := Lib.hid (fun (W : World) (S : List (List Nat)) (hh : RfM W R g sv lv (.slice (some ⟨ba, 0, none⟩) r.ats.length ca) wv { r with sure := S }) (x : Nat) (hx : x < 64) (y : Nat) (hy : r.what[k][x]? = some y) => hh.whatAt (k := k) (x := x) hkw hx hy)
      have HD := Lib.hid (getD_cell HP.out.good.cs (i := r.ats[k]) hin0)
      have hkn := keptN_le keep torn at_ k
      simp only at y1 HD
      obtain ⟨kp, hkp⟩ : ∃ kp, kp = keptN keep torn at_ k := ⟨_, rfl⟩
      have HKN := Lib.hid hkp
      rw [← hkp] at HZ hkn
      have HLW := Lib.hid (show ({ r with sure := s } : Rf).what.length = r.what.length from rfl)
      clear hkp
      generalize r.ats[k] = i at *
      generalize r.what[k] = c at *
      generalize hd : s.getD i [] = d at *
      have HSD := Lib.hid (show s.set i (tear (min 0 kp) c d) = s by rw [Nat.zero_min, tear_zero, ← hd]; apply List.ext_getElem?; intro m; by_cases e : i = m
                                                                     · subst e; rw [List.getElem?_set_self hin0, List.getD_eq_getElem?_getD, List.getElem?_eq_getElem hin0]; rfl
                                                                     · rw [List.getElem?_set_ne e])
      have HP0 := Lib.hid (show RfM wr R g sv lv (.slice (some ⟨ba, 0, none⟩) r.ats.length ca) wv { r with sure := s.set i (tear (min 0 kp) c d) } by rw [HSD.out]; exact HP.out)
      obtain ⟨q, hq, HQ⟩ : ∃ q : Nat, (k : Int) / 8 = (q : Int) ∧ Hid (q = k / 8) := ⟨k / 8, by omega, rfl⟩
      obtain ⟨r', hr', HR'⟩ : ∃ r' : Nat, (k : Int) % 8 = (r' : Int) ∧ Hid (r' = k % 8) := ⟨k % 8, by omega, rfl⟩
      have hr8 : r' < 8 := by have := HR'.out; omega
      have hkw' : k < r.what.length := hkw
      obtain ⟨yy, hyy⟩ : ∃ yy, c[0]? = some yy := ⟨_, List.getElem?_eq_getElem (by rw [HC.out.len]; omega)⟩
      obtain ⟨bw, cw, rfl, _⟩ := HW.out _ s HP.out 0 (by omega) yy hyy
      clear hd HSD HP hyy ha2 ha3
      go_wp2_with fail
      generalize wr = wo at *
      go_loopw [10] (fun v10 wr => ∃ (x : Nat), x ≤ 64 ∧ v10 = .int .i64 x ∧ Hid (RfM wr R g sv lv (.slice (some ⟨ba, 0, none⟩) r.ats.length ca) (.slice (some ⟨bw, 0, none⟩) r.what.length cw) { r with sure := s.set i (tear (min x kp) c d) }) ∧ Hid (Keep R w wr)) (fun v10 _ => 64 - (intOf v10).toNat)
      case atStart => exact ⟨0, Nat.zero_le _, rfl, HP0, HK⟩
      case round =>
        clear HP0 HK y1
        obtain ⟨x, hx, rfl, HP, HK⟩ := hrel
        by_cases hx64 : x < 64
        · obtain ⟨y, hy⟩ : ∃ y, c[x]? = some y := ⟨_, List.getElem?_eq_getElem (by rw [HC.out.len]; exact hx64)⟩
          have hyb : y < 256 := HC.out.byte y (List.mem_of_getElem? hy)
          obtain ⟨bw', cw', hwv, yw⟩ := HW.out _ _ HP.out x hx64 y hy
          injection hwv with hw1 hw2 hw3
          injection hw1 with hw1
          injection hw1 with hw1
          subst hw1
          clear hw2 hw3
          have BK := HB.out.keep HK.out HO.out
          by_cases hql : q < keep.length
          · obtain ⟨kb, ko, rfl, hkb, hkc⟩ := BK.cell (by intro e; subst e; simp at hql)
            have g1 := hkc q _ (List.getElem?_eq_getElem hql)
            have hxb : keep[q] < 256 := BK.byte _ (List.getElem_mem hql)
            have HE := Lib.hid (show bitOf keep k = (keep[q] / 2 ^ r' % 2 == 1) by unfold bitOf; rw [← HQ.out, ← HR'.out, List.getElem?_eq_getElem hql])
            generalize keep[q] = by_ at *
            have hmin : min r' 8 = r' := by omega
            clear hkc BK
            cases tb : ((by_ : Int) / 2 ^ r' % 2 == 1) with
            | true =>
              have HBT := Lib.hid (show bitOf keep k = true by
                rw [HE.out]
                have e : (by_ : Int) / 2 ^ r' % 2 = ((by_ / 2 ^ r' % 2 : Nat) : Int) := by simp
                rw [e] at tb
                simp only [beq_iff_eq] at tb ⊢
                omega)
              have tb1 : ((by_ : Int) / 2 ^ r').tmod 2 = 1 := by rw [tmod_two]; simpa using tb
              clear HE tb
              cases t1 : ((k : Int) == torn) with
              | true =>
                cases t2 : decide ((x : Int) < at_) with
                | true =>
                  have HKP := Lib.hid (show x < kp by rw [HKN.out]; unfold keptN; rw [if_pos (by simpa using t1)]; unfold clampN; simp at t2; omega)
                  have hm : min x kp = x := by have := HKP.out; omega
                  rw [hm] at HP
                  obtain ⟨bs, cs, rfl, hcs, _⟩ := own_some HP.out.os (by show 0 < (s.set i (tear x c d)).length; rw [List.length_set]; omega)
                  have hin : i < ({ r with sure := s.set i (tear x c d) } : Rf).sure.length := by show i < (s.set i (tear x c d)).length; rw [List.length_set]; exact hin0
                  obtain ⟨old, so, sf, hp2, u2⟩ := HP.out.byte (b := bs) rfl hin hx64 (y := y)
                  have eg : ({ r with sure := s.set i (tear x c d) } : Rf).sure.getD i [] = tear x c d := by show (s.set i (tear x c d)).getD i [] = _; rw [List.getD_eq_getElem?_getD, List.getElem?_set_self hin0]; rfl
                  have es : ({ r with sure := s.set i (tear x c d) } : Rf).sure.set i ((tear x c d).set x y) = s.set i (tear (x + 1) c d) := by show (s.set i (tear x c d)).set i _ = _; rw [List.set_set, tear_succ HC.out HD.out hx64 hy]
                  rw [eg, es] at hp2
                  have hm2 : min (x + 1) kp = x + 1 := by have := HKP.out; omega
                  have HP2 := Lib.hid (show RfM _ R g _ lv _ _ { r with sure := s.set i (tear (min (x + 1) kp) c d) } by rw [hm2]; exact hp2)
                  have HK2 := Lib.hid (HK.out.drew.upd u2 (fun _ => (HP.out.bs bs rfl).1))
                  have hn1 : (s.set i (tear x c d)).length = n := by rw [List.length_set]; exact hsn
                  obtain ⟨c0, c1, c2, c3, c4, c5, c6, hf⟩ := head7 HP.out.head
                  simp only [hn1] at c0
                  clear hm hm2 hp2 u2 eg es hin hcs hn1
                  go_wp2_with fail
                  go_region
                  go_wp2_with fail
                  go_roundw
                  case rel => exact ⟨x + 1, by omega, by go_num, HP2, HK2⟩
                  case measure => simp [intOf]; omega
                | false =>
                  have HKP := Lib.hid (show kp ≤ x by rw [HKN.out]; unfold keptN; rw [if_pos (by simpa using t1)]; unfold clampN; simp at t2; omega)
                  have HP2 := Lib.hid (show RfM wr R g sv lv _ _ { r with sure := s.set i (tear (min (x + 1) kp) c d) } by rw [show min (x + 1) kp = min x kp by have := HKP.out; omega]; exact HP.out)
                  obtain ⟨c0, c1, c2, c3, c4, c5, c6, hf⟩ := head7 HP.out.head
                  go_wp2_with fail
                  go_roundw
                  case rel => exact ⟨x + 1, by omega, by go_num, HP2, HK⟩
                  case measure => simp [intOf]; omega
              | false =>
                have HKP := Lib.hid (show x < kp by rw [HKN.out]; unfold keptN; rw [if_neg (by simpa using t1), HBT.out, if_pos rfl]; exact hx64)
                have hm : min x kp = x := by have := HKP.out; omega
                rw [hm] at HP
                obtain ⟨bs, cs, rfl, hcs, _⟩ := own_some HP.out.os (by show 0 < (s.set i (tear x c d)).length; rw [List.length_set]; omega)
                have hin : i < ({ r with sure := s.set i (tear x c d) } : Rf).sure.length := by show i < (s.set i (tear x c d)).length; rw [List.length_set]; exact hin0
                obtain ⟨old, so, sf, hp2, u2⟩ := HP.out.byte (b := bs) rfl hin hx64 (y := y)
                have eg : ({ r with sure := s.set i (tear x c d) } : Rf).sure.getD i [] = tear x c d := by show (s.set i (tear x c d)).getD i [] = _; rw [List.getD_eq_getElem?_getD, List.getElem?_set_self hin0]; rfl
                have es : ({ r with sure := s.set i (tear x c d) } : Rf).sure.set i ((tear x c d).set x y) = s.set i (tear (x + 1) c d) := by show (s.set i (tear x c d)).set i _ = _; rw [List.set_set, tear_succ HC.out HD.out hx64 hy]
                rw [eg, es] at hp2
                have hm2 : min (x + 1) kp = x + 1 := by have := HKP.out; omega
                have HP2 := Lib.hid (show RfM _ R g _ lv _ _ { r with sure := s.set i (tear (min (x + 1) kp) c d) } by rw [hm2]; exact hp2)
                have HK2 := Lib.hid (HK.out.drew.upd u2 (fun _ => (HP.out.bs bs rfl).1))
                have hn1 : (s.set i (tear x c d)).length = n := by rw [List.length_set]; exact hsn
                obtain ⟨c0, c1, c2, c3, c4, c5, c6, hf⟩ := head7 HP.out.head
                simp only [hn1] at c0
                clear hm hm2 hp2 u2 eg es hin hcs hn1
                go_wp2_with fail
                go_region
                go_wp2_with fail
                go_roundw
                case rel => exact ⟨x + 1, by omega, by go_num, HP2, HK2⟩
                case measure => simp [intOf]; omega
            | false =>
              have HBT := Lib.hid (show bitOf keep k = false by
                rw [HE.out]
                have e : (by_ : Int) / 2 ^ r' % 2 = ((by_ / 2 ^ r' % 2 : Nat) : Int) := by simp
                rw [e] at tb
                simp only [beq_eq_false_iff_ne, ne_eq] at tb ⊢
                omega)
              have tb1 : ((by_ : Int) / 2 ^ r').tmod 2 = 0 := by rw [tmod_two]; simp only [beq_eq_false_iff_ne, ne_eq] at tb; omega
              clear HE tb
              cases t1 : ((k : Int) == torn) with
              | true =>
                cases t2 : decide ((x : Int) < at_) with
                | true =>
                  have HKP := Lib.hid (show x < kp by rw [HKN.out]; unfold keptN; rw [if_pos (by simpa using t1)]; unfold clampN; simp at t2; omega)
                  have hm : min x kp = x := by have := HKP.out; omega
                  rw [hm] at HP
                  obtain ⟨bs, cs, rfl, hcs, _⟩ := own_some HP.out.os (by show 0 < (s.set i (tear x c d)).length; rw [List.length_set]; omega)
                  have hin : i < ({ r with sure := s.set i (tear x c d) } : Rf).sure.length := by show i < (s.set i (tear x c d)).length; rw [List.length_set]; exact hin0
                  obtain ⟨old, so, sf, hp2, u2⟩ := HP.out.byte (b := bs) rfl hin hx64 (y := y)
                  have eg : ({ r with sure := s.set i (tear x c d) } : Rf).sure.getD i [] = tear x c d := by show (s.set i (tear x c d)).getD i [] = _; rw [List.getD_eq_getElem?_getD, List.getElem?_set_self hin0]; rfl
                  have es : ({ r with sure := s.set i (tear x c d) } : Rf).sure.set i ((tear x c d).set x y) = s.set i (tear (x + 1) c d) := by show (s.set i (tear x c d)).set i _ = _; rw [List.set_set, tear_succ HC.out HD.out hx64 hy]
                  rw [eg, es] at hp2
                  have hm2 : min (x + 1) kp = x + 1 := by have := HKP.out; omega
                  have HP2 := Lib.hid (show RfM _ R g _ lv _ _ { r with sure := s.set i (tear (min (x + 1) kp) c d) } by rw [hm2]; exact hp2)
                  have HK2 := Lib.hid (HK.out.drew.upd u2 (fun _ => (HP.out.bs bs rfl).1))
                  have hn1 : (s.set i (tear x c d)).length = n := by rw [List.length_set]; exact hsn
                  obtain ⟨c0, c1, c2, c3, c4, c5, c6, hf⟩ := head7 HP.out.head
                  simp only [hn1] at c0
                  clear hm hm2 hp2 u2 eg es hin hcs hn1
                  go_wp2_with fail
                  go_region
                  go_wp2_with fail
                  go_roundw
                  case rel => exact ⟨x + 1, by omega, by go_num, HP2, HK2⟩
                  case measure => simp [intOf]; omega
                | false =>
                  have HKP := Lib.hid (show kp ≤ x by rw [HKN.out]; unfold keptN; rw [if_pos (by simpa using t1)]; unfold clampN; simp at t2; omega)
                  have HP2 := Lib.hid (show RfM wr R g sv lv _ _ { r with sure := s.set i (tear (min (x + 1) kp) c d) } by rw [show min (x + 1) kp = min x kp by have := HKP.out; omega]; exact HP.out)
                  obtain ⟨c0, c1, c2, c3, c4, c5, c6, hf⟩ := head7 HP.out.head
                  go_wp2_with fail
                  go_roundw
                  case rel => exact ⟨x + 1, by omega, by go_num, HP2, HK⟩
                  case measure => simp [intOf]; omega
              | false =>
                have HKP := Lib.hid (show kp ≤ x by rw [HKN.out]; unfold keptN; rw [if_neg (by simpa using t1), HBT.out, if_neg (by simp)]; omega)
                have HP2 := Lib.hid (show RfM wr R g sv lv _ _ { r with sure := s.set i (tear (min (x + 1) kp) c d) } by rw [show min (x + 1) kp = min x kp by have := HKP.out; omega]; exact HP.out)
                obtain ⟨c0, c1, c2, c3, c4, c5, c6, hf⟩ := head7 HP.out.head
                go_wp2_with fail
                go_roundw
                case rel => exact ⟨x + 1, by omega, by go_num, HP2, HK⟩
                case measure => simp [intOf]; omega
          · have HBT := Lib.hid (show bitOf keep k = false by unfold bitOf; rw [← HQ.out, List.getElem?_eq_none (by omega)])
            clear BK
            cases t1 : ((k : Int) == torn) with
            | true =>
              cases t2 : decide ((x : Int) < at_) with
              | true =>
                have HKP := Lib.hid (show x < kp by rw [HKN.out]; unfold keptN; rw [if_pos (by simpa using t1)]; unfold clampN; simp at t2; omega)
                have hm : min x kp = x := by have := HKP.out; omega
                rw [hm] at HP
                obtain ⟨bs, cs, rfl, hcs, _⟩ := own_some HP.out.os (by show 0 < (s.set i (tear x c d)).length; rw [List.length_set]; omega)
                have hin : i < ({ r with sure := s.set i (tear x c d) } : Rf).sure.length := by show i < (s.set i (tear x c d)).length; rw [List.length_set]; exact hin0
                obtain ⟨old, so, sf, hp2, u2⟩ := HP.out.byte (b := bs) rfl hin hx64 (y := y)
                have eg : ({ r with sure := s.set i (tear x c d) } : Rf).sure.getD i [] = tear x c d := by show (s.set i (tear x c d)).getD i [] = _; rw [List.getD_eq_getElem?_getD, List.getElem?_set_self hin0]; rfl
                have es : ({ r with sure := s.set i (tear x c d) } : Rf).sure.set i ((tear x c d).set x y) = s.set i (tear (x + 1) c d) := by show (s.set i (tear x c d)).set i _ = _; rw [List.set_set, tear_succ HC.out HD.out hx64 hy]
                rw [eg, es] at hp2
                have hm2 : min (x + 1) kp = x + 1 := by have := HKP.out; omega
                have HP2 := Lib.hid (show RfM _ R g _ lv _ _ { r with sure := s.set i (tear (min (x + 1) kp) c d) } by rw [hm2]; exact hp2)
                have HK2 := Lib.hid (HK.out.drew.upd u2 (fun _ => (HP.out.bs bs rfl).1))
                have hn1 : (s.set i (tear x c d)).length = n := by rw [List.length_set]; exact hsn
                obtain ⟨c0, c1, c2, c3, c4, c5, c6, hf⟩ := head7 HP.out.head
                simp only [hn1] at c0
                clear hm hm2 hp2 u2 eg es hin hcs hn1
                go_wp2_with fail
                go_region
                go_wp2_with fail
                go_roundw
                case rel => exact ⟨x + 1, by omega, by go_num, HP2, HK2⟩
                case measure => simp [intOf]; omega
              | false =>
                have HKP := Lib.hid (show kp ≤ x by rw [HKN.out]; unfold keptN; rw [if_pos (by simpa using t1)]; unfold clampN; simp at t2; omega)
                have HP2 := Lib.hid (show RfM wr R g sv lv _ _ { r with sure := s.set i (tear (min (x + 1) kp) c d) } by rw [show min (x + 1) kp = min x kp by have := HKP.out; omega]; exact HP.out)
                obtain ⟨c0, c1, c2, c3, c4, c5, c6, hf⟩ := head7 HP.out.head
                go_wp2_with fail
                go_roundw
                case rel => exact ⟨x + 1, by omega, by go_num, HP2, HK⟩
                case measure => simp [intOf]; omega
            | false =>
              have HKP := Lib.hid (show kp ≤ x by rw [HKN.out]; unfold keptN; rw [if_neg (by simpa using t1), HBT.out, if_neg (by simp)]; omega)
              have HP2 := Lib.hid (show RfM wr R g sv lv _ _ { r with sure := s.set i (tear (min (x + 1) kp) c d) } by rw [show min (x + 1) kp = min x kp by have := HKP.out; omega]; exact HP.out)
              obtain ⟨c0, c1, c2, c3, c4, c5, c6, hf⟩ := head7 HP.out.head
              go_wp2_with fail
              go_roundw
              case rel => exact ⟨x + 1, by omega, by go_num, HP2, HK⟩
              case measure => simp [intOf]; omega
        · have hx2 : min x kp = kp := by omega
          rw [hx2] at HP
          have HL := Lib.hid (show (s.set i (tear kp c d)).length = n by rw [List.length_set]; exact hsn)
          clear hx2
          go_wp2_with fail
          go_roundw
          case rel => exact ⟨k + 1, s.set i (tear kp c d), by omega, by go_num, HL.out, HP, HZ, HK⟩
          case measure => simp [intOf]; omega
    · have HE := Lib.hid (show s = failL keep torn at_ 0 (r.ats.zip r.what) r.sure by rw [← HS.out, List.drop_eq_nil_of_le (by rw [List.length_zip]; omega)]; rfl)
      have gd := HP.out.good
      obtain ⟨v', w5, a5, o5, b5, n5⟩ := ap_fresh gd.cs gd.most HP.out.os 67
      obtain ⟨c0, c1, c2, c3, c4, c5, c6, hf⟩ := head7 (HP.out.alloc (.cells #[] 90)).head
      obtain ⟨d0, d1, d2, d3, d4, d5, d6, df⟩ := head7 (HP.out.below b5).head
      obtain ⟨a6, c6', rfl, _⟩ := own_slice o5
      obtain ⟨asl, cs, rfl, _⟩ := own_slice HP.out.os
      have h6 := HP.out.putL b5.size (fun k hk _ => b5.block k (HP.out.dom k hk)) (l' := s) o5 (fun b hb => .inr (n5 b hb)) ⟨rfl, gd.most, gd.cs, gd.cs, gd.cw, gd.ai, gd.fewA, gd.fewW, gd.cnt⟩ (S := ext R w (w5.setCell ⟨g, 1, none⟩ (.slice a6 s.length c6'))) (fun j hj => by
          have := ext_self HDOM.out (by rw [sizeSet]; exact Nat.le_trans HK.out.size b5.size) hj
          rwa [sizeSet] at this) (fun j hj => .inl hj) (fun j a b => .inr ⟨Nat.le_trans HK.out.size a, by rw [sizeSet]; exact b⟩)
      have h7 := (h6.clearA.clearW.setHead (j := 4) (v := .bool false) (off := false) (counts := r.counts) (left := r.left) gd.cnt rfl).setHead (j := 5) (v := .bool false) (off := false) (counts := false) (left := r.left) (fun e => by cases e) rfl
      have HF := Lib.hid h7
      have KF := Lib.hid ((((((HK.out.of_below b5).setCell (p := ⟨g, 1, none⟩) (fun _ => HR.out) (.slice a6 s.length c6')).setCell (p := ⟨g, 2, none⟩) (fun _ => HR.out) (.slice none 0 0)).setCell (p := ⟨g, 3, none⟩) (fun _ => HR.out) (.slice none 0 0)).setCell (p := ⟨g, 4, none⟩) (fun _ => HR.out) (.bool false)).setCell (p := ⟨g, 5, none⟩) (fun _ => HR.out) (.bool false))
      simp only at c0 c1 d0 d1 a5
      rw [hsn] at a5 HF KF c0 d0
      clear gd o5 b5 n5 h6 h7
      go_wp2_with fail
      go_end0
      refine ⟨rfl, ⟨.slice asl n cs, .slice a6 n c6', .slice none 0 0, .slice none 0 0, ?_⟩, KF.out⟩
      show RfM _ _ g _ _ _ _ ⟨failL keep torn at_ 0 (r.ats.zip r.what) r.sure, failL keep torn at_ 0 (r.ats.zip r.what) r.sure, [], [], false, false, r.left⟩
      rw [← HE.out]
      exact HF.out.mono (fun k hk => ext_self HDOM.out KF.out.size hk) (fun k hk => hk.elim .inl (fun e => .inr ⟨e.1, by rw [sizeSet, sizeSet, sizeSet, sizeSet]; exact e.2⟩))
end

end Go.Proofs.Ytipikkniookanaa
