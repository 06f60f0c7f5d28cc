/- ReelAgain: the law returns true for any tale and any words: opening changes nothing, words that were told come back one by one, and a new tale is all there is. It has no conditions. -/
import Derived.Test.YtipikkniookanaaRlAlive
import Derived.Test.YtipikkniookanaaArgsZ
namespace Go.Proofs.Ytipikkniookanaa
open Go.ChangeShapes Go.WideShapes Go.ChangeAt Go.RowKit

attribute [local go_sem ↓] ld26 ld66 st26 st66 bx26 al26 al66 bd26 bd66 bs61 bs48 mk48 eq26 ap61 ap48 ap49 cp46 cp48
attribute [local go_sem] bx_agg al_cell al_wr bd_zero bd_one bd_two bd_nine

theorem txt_new : strB [110, 101, 119] = ⟨#[110, 101, 119]⟩ := by decide +kernel
theorem sum_le (l : List Nat) (B : Nat) (h : ∀ x ∈ l, x ≤ B) : l.sum ≤ l.length * B := by
  induction l with
  | nil => simp
  | cons x r ih =>
    have h1 := h x (by simp)
    have h2 := ih (fun y hy => h y (by simp [hy]))
    rw [List.sum_cons, List.length_cons, Nat.succ_mul]
    omega
theorem cellsN_bound {n m : Nat} (h : n ≤ m) (hm : m ≤ 65536) : cellsN n ≤ (10 + m + 47) / 48 := by
  unfold cellsN
  rw [if_pos (by omega)]
  have := numL_three (show n ≤ 65536 by omega)
  omega

set_option maxRecDepth 100000 in
set_option maxHeartbeats 4000000 in
theorem again_walk (a : Option Addr) (cap : Nat) (t : List Nat) (a2 : Option Addr) (cap2 : Nat) (ps : List Part) (w : World) (h : BytesP w a cap t) (h2 : ListsP w a2 cap2 ps) : Calls Try.prog 6 #[.slice a t.length cap, .slice a2 ps.length cap2] w (TrueB w) := by
  by_cases ht : 300 < t.length
  · have t1 : decide (300 < (t.length : Int)) = true := by simp; omega
    have hlen := h.len
    clear h h2
    go_enter Try.func6, Try.ntmps6
    go_wp2_with fail
    refine (ralive_any _).mono ?_
    rintro e w1 ⟨rfl, b1⟩
    go_wp2_with fail
    go_ret
    exact ⟨rfl, b1⟩
  have t1 : decide (300 < (t.length : Int)) = false := by simp; omega
  by_cases hps : 12 < ps.length
  · have t2 : decide (12 < (ps.length : Int)) = true := by simp; omega
    clear h h2
    go_enter Try.func6, Try.ntmps6
    go_wp2_with fail
    refine (ralive_any _).mono ?_
    rintro e w1 ⟨rfl, b1⟩
    go_wp2_with fail
    go_ret
    exact ⟨rfl, b1⟩
  have t2 : decide (12 < (ps.length : Int)) = false := by simp; omega
  have hwt : Word t := ⟨by omega, h.byte⟩
  have hct := cellsN_bound (show t.length ≤ 300 by omega) (by omega)
  obtain ⟨r1, hb1, y1, n1, s1, l1⟩ := new_begin (n := 160) (by omega) hwt (by omega)
  have HB1 := Lib.hid hb1
  have Y1 := Lib.hid y1
  have N1 := Lib.hid n1
  have S1 := Lib.hid s1
  have L1 := Lib.hid l1
  have HT := Lib.hid h
  have HP := Lib.hid h2
  have HWT := Lib.hid hwt
  have HCT := Lib.hid hct
  have N0 := Lib.hid (fun w1 (b1 : Below w.heap.size w w1) => Pair.newNo (w0 := w) (w := w1) (L := fun _ => False) 160 b1 (fun _ h => h.elim))
  rw [show clampN 160 4096 = 160 from rfl] at N0
  have htl : t.length ≤ 300 := by omega
  have hpl : ps.length ≤ 12 := by omega
  clear hb1 y1 n1 s1 l1 h h2 hwt hct ht hps
  go_enter Try.func6, Try.ntmps6
  go_wp2_with fail
  refine (ralive_any _).mono ?_
  rintro e w1 ⟨rfl, b1⟩
  go_wp2_with fail
  refine (N0.out _ b1).mono ?_
  rintro e w2 ⟨g, rfl, h2, _⟩
  have CO := Lib.hid h2.openP
  have H2 := Lib.hid h2
  rw [show (Pl.new 160).last = List.replicate 160 zeroC from rfl, told_zero] at CO
  clear h2 N0 b1
  go_wp2_with fail
  refine CO.out.mono ?_
  rintro e w3 ⟨b, ta, tc, wa, wc, rfl, hn3, hv3, _, _, b3⟩
  have h3 : Pair w w3 (atRl b g (newRl 160)) noB (fun _ => False) := H2.out.toReel stays_no b3 hn3 hv3
  have C4 := Lib.hid (show Calls Try.prog 14 #[ptr b, .slice a t.length cap] w3 (fun e w' => e = .returned (.int .i64 0) ∧ Pair w w' (atRl b g r1) noB (fun _ => False)) by
    have := h3.rbegin stays_no a cap t (HT.out.below h3.low) (Nat.le_refl _) (by simp [newRl, Pl.new])
    rw [HB1.out] at this
    exact this.mono fun _ _ ⟨e, h, _⟩ => ⟨e, h⟩)
  clear h3 hv3 b3 hn3 H2 CO
  go_wp2_with fail
  refine C4.out.mono ?_
  rintro e w4 ⟨rfl, h4⟩
  have H4 := Lib.hid h4
  clear h4 C4 HB1
  go_wp2_with fail
  go_loopw [42] (fun i wr => ∃ (k : Nat) (r : Rl), i = .int .i64 (k : Int) ∧ k ≤ ps.length ∧ Hid (Rdy r 1 t ((ps.take k).map (·.l))) ∧ Hid (∀ p ∈ ps.take k, p.l.length ≤ 150) ∧ Hid (r.P.sure.length = 160) ∧ Hid (r.P.loose.length = 0) ∧ Hid (r.side = 0) ∧ Hid (Pair w wr (atRl b g r) noB (fun _ => False))) (fun i _ => ps.length - (intOf i).toNat)
  case atStart => exact ⟨0, r1, rfl, Nat.zero_le _, by simpa using Y1, Lib.hid (fun p hp => by simp at hp), N1, L1, S1, H4⟩
  case round =>
    clear H4
    obtain ⟨k, r, rfl, hk, HY, HSM, HS, HLO, HSD, HPR⟩ := hrel
    by_cases hlt : k < ps.length
    · have hP := HP.out.below HPR.out.low
      obtain ⟨b1, o1, e1, hb1, hc1⟩ := hP.cell (by intro e; rw [e] at hlt; simp at hlt)
      subst e1
      have g1 := hc1 k _ (List.getElem?_eq_getElem hlt)
      have hB := hP.each _ (List.getElem_mem hlt)
      have hcp := hP.cap
      have htk : ps.take (k + 1) = ps.take k ++ [ps[k]] := by rw [List.take_add_one, List.getElem?_eq_getElem hlt]; rfl
      have HTK := Lib.hid htk
      generalize ps[k] = p at *
      obtain ⟨pa, pc, x⟩ := p
      dsimp only at g1 hB
      have HBX := Lib.hid hB
      have hxl := hB.len
      by_cases hx : 150 < x.length
      · have t3 : decide (150 < (x.length : Int)) = true := by simp; omega
        have HLOW := Lib.hid HPR.out.low
        clear hc1 hP hB htk
        go_wp2_with fail
        go_ret
        exact ⟨rfl, HLOW.out⟩
      · have t3 : decide (150 < (x.length : Int)) = false := by simp; omega
        have hcx := cellsN_bound (show x.length ≤ 150 by omega) (by omega)
        have hpc : (piecesT t ((ps.take k).map (·.l))).length ≤ 7 + k * 4 := by
          have hct := HCT.out
          rw [piecesT_len (by omega) (fun y hy => by
            obtain ⟨p, hp, rfl⟩ := List.mem_map.1 hy
            have := HSM.out p hp
            omega)]
          have := sum_le (((ps.take k).map (·.l)).map fun x => cellsN x.length) 4 (fun y hy => by
            obtain ⟨z, hz, rfl⟩ := List.mem_map.1 hy
            obtain ⟨p, hp, rfl⟩ := List.mem_map.1 hz
            have h3 := cellsN_bound (HSM.out p hp) (by omega)
            omega)
          rw [List.length_map, List.length_map, List.length_take, Nat.min_eq_left hk] at this
          omega
        have hrm : r.room = 80 := by unfold Rl.room; rw [HS.out]
        obtain ⟨r2, ha2, y2, n2, s2, l2⟩ := HY.out.add (x := x) ⟨by omega, hB.byte⟩ (by rw [hrm]; omega) (by rw [HLO.out]; omega)
        obtain ⟨r3, hf3, y3, n3, s3, l3⟩ := y2.flush
        have CA := Lib.hid (show Calls Try.prog 12 #[ptr b, .slice pa x.length pc] wr (fun e w' => e = .returned (.int .i64 0) ∧ Pair w w' (atRl b g r2) noB (fun _ => False)) by
          have := HPR.out.radd stays_no pa pc x hB (by rw [HLO.out]; omega)
          rw [ha2] at this
          exact this.mono fun _ _ ⟨e, h, _⟩ => ⟨e, h⟩)
        have HF3 := Lib.hid hf3
        have Y3 := Lib.hid (show Rdy r3 1 t ((ps.take (k + 1)).map (·.l)) by rw [HTK.out, List.map_append]; exact y3)
        have M3 := Lib.hid (show ∀ p ∈ ps.take (k + 1), p.l.length ≤ 150 from fun p hp => by
          rw [HTK.out] at hp
          rcases List.mem_append.1 hp with hp | hp
          · exact HSM.out p hp
          · simp at hp; subst hp; simp only; omega)
        have NN3 := Lib.hid ((n3.trans n2).trans HS.out)
        have SS3 := Lib.hid ((s3.trans s2).trans HSD.out)
        have LL3 := Lib.hid l3
        clear hc1 hP hB htk ha2 y2 n2 s2 l2 hf3 y3 n3 s3 l3 hpc hrm hcx HY HSM HS HLO HSD HPR HTK
        go_wp2_with fail
        refine CA.out.mono ?_
        rintro e w6 ⟨rfl, h6⟩
        have CF := Lib.hid (show Calls Try.prog 13 #[ptr b] w6 (fun e w' => e = .returned (.int .i64 0) ∧ Pair w w' (atRl b g r3) noB (fun _ => False)) by
          have := h6.rflush stays_no
          rw [HF3.out] at this
          exact this.mono fun _ _ ⟨e, h, _⟩ => ⟨e, h⟩)
        clear h6 CA
        go_wp2_with fail
        refine CF.out.mono ?_
        rintro e w7 ⟨rfl, h7⟩
        have H7 := Lib.hid h7
        clear h7
        go_wp2_with fail
        go_roundw
        case rel => exact ⟨k + 1, r3, by go_num, by omega, Y3, M3, NN3, LL3, SS3, H7⟩
        case measure => simp [intOf]; omega
    · have hkn : k = ps.length := by omega
      have HYY := Lib.hid (show Rdy r 1 t (ps.map (·.l)) by have := HY.out; rw [hkn, List.take_length] at this; exact this)
      have HTD := Lib.hid HYY.out.told
      rw [HSD.out] at HTD
      clear HY hkn
      go_wp2_with fail
      generalize wr = wo at *
      go_loopw [11] (fun i wr => ∃ (j : Nat), i = .int .i64 (j : Int) ∧ j ≤ 3 ∧ Hid (Pair w wr (atRl b g r) noB (fun _ => False))) (fun i _ => 3 - (intOf i).toNat)
      case atStart => exact ⟨0, rfl, by omega, HPR⟩
      case round =>
        clear HPR
        obtain ⟨j, rfl, hj, HPR⟩ := hrel
        have CO := Lib.hid HPR.out.openR
        rw [HTD.out] at CO
        by_cases hjl : j < 3
        · go_wp2_with fail
          refine CO.out.mono ?_
          rintro e w6 ⟨b6, a6, c6, wa6, wc6, rfl, _, _, hB6, hL6, b6'⟩
          have H6 := Lib.hid (HPR.out.more (stays_rl _ _ _) stays_no b6')
          have hB6' : BytesP w6 a6 c6 t := hB6
          have RT := run_text hB6'
          have RT2 := run_text (HT.out.below H6.out.low)
          have HL6 := Lib.hid (show LLP w6 wa6 wc6 (ps.map (·.l)) from hL6)
          have hml : (ps.map (·.l)).length = ps.length := List.length_map _
          simp only [List.headD_cons, List.tail_cons, List.length_map]
          clear hB6 hB6' hL6 b6' CO HPR
          go_wp2_with fail
          generalize wr = wo2 at *
          go_loopw [88] (fun i wr => ∃ (m : Nat), i = .int .i64 (m : Int) ∧ m ≤ ps.length ∧ Hid (Below w6.heap.size w6 wr)) (fun i _ => ps.length - (intOf i).toNat)
          case atStart => exact ⟨0, rfl, Nat.zero_le _, Lib.hid (Below.refl _ _)⟩
          case round =>
            obtain ⟨m, rfl, hm, HBW⟩ := hrel
            by_cases hml : m < ps.length
            · have hlow := (H6.out.more (stays_rl _ _ _) stays_no HBW.out).low
              have hP := HP.out.below hlow
              have hL := HL6.out.below HBW.out
              have hpn : ps ≠ [] := by intro e; rw [e] at hml; simp at hml
              obtain ⟨b1, o1, e1, hb1, hc1⟩ := hP.cell hpn
              obtain ⟨b2, o2, e2, hb2, hc2⟩ := hL.cell (by simpa using hpn)
              subst e1 e2
              have g1 := hc1 m _ (List.getElem?_eq_getElem hml)
              obtain ⟨a3, c3, g2, hB3⟩ := hc2 m (ps[m].l) (by rw [List.getElem?_map, List.getElem?_eq_getElem hml]; rfl)
              have hB := hP.each _ (List.getElem_mem hml)
              have hcp := hP.cap
              have hcl := hL.cap
              rw [List.length_map] at hcl
              generalize ps[m] = p at *
              obtain ⟨pa, pc, x⟩ := p
              dsimp only at g1 g2 hB hB3
              have RX := run_text hB
              have RY := run_text hB3
              have RXd := run_text (hB.below (Below.refl _ _).drew)
              have RYd := run_text (hB3.below (Below.refl _ _).drew)
              clear hc1 hc2 hP hL hB hB3 hlow hpn
              go_wp2_with fail
              go_region
              go_wp2_with fail
              go_roundw
              case rel => exact ⟨m + 1, by go_num, by omega, Lib.hid HBW.out.drew⟩
              case measure => simp [intOf]; omega
            · have H7 := Lib.hid (H6.out.more (stays_rl _ _ _) stays_no HBW.out)
              go_wp2_with fail
              go_roundw
              case rel => exact ⟨j + 1, by go_num, by omega, H7⟩
              case measure => simp [intOf]; omega
        · have kc := fun (w : World) (C : Array Value) (n c : Nat) => Lib.run_convert_bytes_const (P := Try.prog) w 24 5 C n c Try.underlying24 Try.underlying5
          obtain ⟨r5, hb5, y5, n5, s5, l5⟩ := begin_rdy (r := r) (t := [110, 101, 119]) HYY.out.good HYY.out.off HYY.out.left HYY.out.side ⟨by simp, fun b hb => by simp at hb; omega⟩ (by rw [show ([110, 101, 119] : List Nat).length = 3 from rfl, cellsN_small (by omega)]; unfold Rl.room; rw [HS.out]; decide) (by have := HYY.out.top; omega) (by rw [HLO.out, show ([110, 101, 119] : List Nat).length = 3 from rfl, cellsN_small (by omega)]; decide)
          have HT5 := Lib.hid y5.told
          have HB5 := Lib.hid hb5
          clear hb5 y5 n5 s5 l5 CO
          have bA := (Below.refl wr.heap.size wr).alloc (Nat.le_refl _) (.cells #[.int .u8 110, .int .u8 101, .int .u8 119] 5 (3, 4))
          have CB := Lib.hid (show Calls Try.prog 14 #[ptr b, .slice (some ⟨wr.heap.size, 0, none⟩) 3 3] (wr.alloc (.cells #[.int .u8 110, .int .u8 101, .int .u8 119] 5 (3, 4))) (fun e w' => e = .returned (.int .i64 0) ∧ Pair w w' (atRl b g r5) noB (fun _ => False)) by
            have := (HPR.out.more (stays_rl _ _ _) stays_no bA).rbegin stays_no (some ⟨wr.heap.size, 0, none⟩) 3 [110, 101, 119] (bytes_block [110, 101, 119] (fun b hb => by simp at hb; omega) (by simp) wr 5 (3, 4)) HYY.out.side (by rw [HLO.out]; decide)
            rw [HB5.out] at this
            exact this.mono fun _ _ ⟨e, h, _⟩ => ⟨e, h⟩)
          clear bA
          go_wp2_with fail
          refine CB.out.mono ?_
          rintro e w8 ⟨rfl, h8⟩
          have CO := Lib.hid h8.openR
          rw [HT5.out] at CO
          have H8 := Lib.hid h8
          clear h8 CB
          go_wp2_with fail
          refine CO.out.mono ?_
          rintro e w9 ⟨b9, a9, c9, wa9, wc9, rfl, _, _, hB9, _, b9'⟩
          have HLOW := Lib.hid (H8.out.low.trans (b9'.mono H8.out.low.size))
          have RT := run_text (show BytesP w9 a9 c9 [110, 101, 119] from hB9)
          simp only [List.length_cons, List.length_nil, Nat.zero_add, Nat.reduceAdd] at RT
          rw [txt_new] at RT
          clear hB9 b9' H8 CO
          go_wp2_with fail
          go_ret
          exact ⟨rfl, HLOW.out⟩


set_option maxRecDepth 100000 in
theorem reelAgain_lifted (os : Os) (started : os.Started) (H : Type) (enc : TypeId × Value → H) :
    ReturnsInHanded {} Try.checked os 6 .any (Rows.reelAgainSpec.pre6 enc Try.prog Try.f6 Rows.reelAgainRow.domain false) (Rows.reelAgainSpec.post enc Try.prog Try.f6 false true false false) := by
  refine returnsInHanded_of_change (C := Try.checked) own started (by kernel_rfl) Try.func6
    (ChangeSpec.witness6 (enc := enc) (C := Try.checked) false ⟨#[], #[.slice none 0 0, .slice none 0 0], []⟩ 8 (by kernel_rfl) (by kernel_rfl) (by kernel_rfl) (by kernel_rfl)) ?_
  intro W base args ds gs before hval0 hW _ _
  have hval : ∀ (j : Nat) t v, Try.f6.params[j]? = some t → args[j]? = some v → Value.okWide Try.prog W .any base t v := hval0
  have hW' := hW
  obtain ⟨p, q, hA0, hV, rfl, _, _⟩ := hW
  have hA : DataW.TrodAll enc Try.prog W 0 (fun _ => true) true Try.f6.params.toList args.toList ds p := hA0
  rw [Try.params6] at hA hval
  obtain ⟨v0, vs0, d0, ds0, p0, q_0, hargs, rfl, rfl, h0, r0⟩ := trodAll_cons hA
  obtain ⟨v1, vs1, d1, ds1, p1, q_1, rfl, rfl, rfl, h1, r1⟩ := trodAll_cons r0
  obtain ⟨rfl, rfl, rfl⟩ := trodAll_nil r1
  obtain rfl : args = #[v0, v1] := by cases args; simp_all
  obtain ⟨rfl, rfl⟩ := trodVars_none hV
  clear hA0 hval0
  simp only [List.append_nil] at hW'
  obtain ⟨q0, cap0, l0, rfl, hS0, hm0⟩ := bytes_of_trod (hval 0 24 v0 rfl rfl) h0
  have hlt0 : ∀ x ∈ p0, x.block < W.heap.size := fun x hx => by simpa using hW'.lt x (by simpa using (by simp [hx]))
  obtain ⟨q1, cap1, l1, rfl, hS1, hm1⟩ := lists_of_trod (hval 1 25 v1 rfl rfl) h1
  have hlt1 : ∀ x ∈ p1, x.block < W.heap.size := fun x hx => by simpa using hW'.lt x (by simpa using (by simp [hx]))
  refine (again_walk q0 cap0 l0 q1 cap1 l1 W hS0 hS1).mono fun e W' ⟨he, hb⟩ => ?_
  subst he
  have hT : DataW.TrodAll enc Try.prog W' 0 (fun b => decide (b < W.heap.size)) true _ _ _ _ := (trodAll_cons_mk (Below.trod laidOut (by kernel_rfl) (of_decide_eq_true (by kernel_rfl)) h0 hb hlt0) (trodAll_cons_mk (Below.trod laidOut (by kernel_rfl) (of_decide_eq_true (by kernel_rfl)) h1 hb hlt1) trodAll_mk0))
  simp only [List.append_nil] at hT
  exact ⟨_, rfl, _, _, _, [], p0 ++ (p1), [], hW', trodAll_mk1 (shut_bool Try.underlying4 _), hT, rfl, hb.frame _, fun h => by cases h⟩

theorem reelAgain_holds : Rows.ReelAgainSaid :=
  OpenClaim.holds_of_wide 6 Try.f6 rfl rfl rfl rfl rfl rfl rfl ⟨rfl, rfl, rfl, rfl, rfl⟩ rfl rfl rfl rfl rfl (by kernel_rfl) Try.func6 (by kernel_rfl)
    (of_decide_eq_true (by kernel_rfl)) (by unfold Func.isWrapper; first | (rw [if_pos (by decide +kernel)]; kernel_rfl) | (rw [if_neg (by decide +kernel)]; exact ⟨rfl, rfl⟩))
    (fun os started H enc _ => reelAgain_lifted os started H enc)
#print axioms reelAgain_holds


end Go.Proofs.Ytipikkniookanaa
