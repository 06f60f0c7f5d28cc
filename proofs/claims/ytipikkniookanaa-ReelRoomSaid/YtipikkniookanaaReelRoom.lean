/- ReelRoom: the law returns true for any two numbers: words of one length go in as often as there is room for their cells, the next one is refused, and a shorter one may still go in. It has no conditions. -/
import Derived.Test.YtipikkniookanaaRlAlive
import Derived.Test.YtipikkniookanaaMake
import Derived.Test.YtipikkniookanaaArgs
namespace Go.Proofs.Ytipikkniookanaa
open Go.ChangeShapes Go.WideShapes Go.ChangeAt Go.RowKit

attribute [local go_sem ↓] ld26 ld66 st26 st66 bx26 al26 al66 bd26 bd66 bs61 bs48 mk48 eq26 ap61 ap48 ap49 cp46 cp48 mkB
attribute [local go_sem] bx_agg al_cell al_wr bd_zero bd_one bd_two bd_nine

theorem rep_len (k : Nat) (x : List Nat) (hx : x.length ≤ 65536) : (piecesT [] (List.replicate k x)).length = 1 + k * cellsN x.length := by
  rw [piecesT_len (by simp) (fun y hy => by rw [(List.mem_replicate.1 hy).2]; exact hx), show ([] : List Nat).length = 0 from rfl, cellsN_small (by omega)]
  rw [List.map_replicate, List.sum_replicate_nat]

set_option maxRecDepth 100000 in
set_option maxHeartbeats 4000000 in
theorem room_walk (n l : Int) (w : World) : Calls Try.prog 8 #[.int .i64 n, .int .i64 l] w (TrueB w) := by
  by_cases hin : 4 ≤ n ∧ n ≤ 200 ∧ 0 ≤ l ∧ l ≤ 400
  · obtain ⟨n, rfl⟩ : ∃ m : Nat, n = (m : Int) := ⟨n.toNat, by omega⟩
    obtain ⟨l, rfl⟩ : ∃ m : Nat, l = (m : Int) := ⟨l.toNat, by omega⟩
    have hn1 : 4 ≤ n := by omega
    have hn2 : n ≤ 200 := by omega
    have hl2 : l ≤ 400 := by omega
    have t1 : decide ((n : Int) < 4) = false := by simp; omega
    have t2 : decide (200 < (n : Int)) = false := by simp; omega
    have t3 : decide ((l : Int) < 0) = false := by simp
    have t4 : decide (400 < (l : Int)) = false := by simp; omega
    obtain ⟨c, hc⟩ : ∃ c, cellsN l = c := ⟨_, rfl⟩
    have hc1 : 0 < c := by rw [← hc]; exact cellsN_pos (by omega)
    have hc2 : c ≤ 20 := by
      rw [← hc]
      unfold cellsN
      rw [if_pos (by omega)]
      have := numL_three (show l ≤ 65536 by omega)
      omega
    have KC := Lib.hid (show ∀ W, Calls Try.prog 15 #[.int .i64 (l : Int)] W (IntB (c : Int) W) from fun W => by
      have := cells_any (l : Int) W
      rwa [show cellsI (l : Int) = cellsN l by simp [cellsI], hc] at this)
    have ML := fun W => mk_bytes l (by omega) W
    obtain ⟨N, hN⟩ : ∃ N : Nat, N = (n / 2 - 1) / c := ⟨_, rfl⟩
    have hNc : N * c ≤ n / 2 - 1 ∧ n / 2 - 1 < N * c + c := by
      rw [hN]
      constructor
      · exact Nat.div_mul_le_self _ _
      · have := Nat.lt_div_mul_add hc1 (a := n / 2 - 1)
        omega
    have hNi : ((n : Int) / 2 - 1) / (c : Int) = (N : Int) := by
      rw [show (n : Int) / 2 - 1 = ((n / 2 - 1 : Nat) : Int) by omega, hN]
      exact (Int.natCast_ediv _ _).symm
    obtain ⟨r1, hb1, y1, n1, s1, l1⟩ := new_begin (n := n) (t := []) (by omega) ⟨by simp, fun _ h => by simp at h⟩ (by rw [show ([] : List Nat).length = 0 from rfl, cellsN_small (by omega)]; omega)
    have HB1 := Lib.hid hb1
    have Y1 := Lib.hid y1
    have N1 := Lib.hid n1
    have L1 := Lib.hid l1
    have HN := Lib.hid hN
    have HNC := Lib.hid hNc
    have HC := Lib.hid hc
    have hN200 : N ≤ 200 := by rw [hN]; exact Nat.le_trans (Nat.div_le_self _ _) (by omega)
    have N0 := Lib.hid (fun w1 (b1 : Below w.heap.size w w1) => Pair.newNo (w0 := w) (w := w1) (L := fun _ => False) (n : Int) b1 (fun _ h => h.elim))
    rw [show clampN (n : Int) 4096 = n by unfold clampN; omega] at N0
    clear hb1 y1 n1 s1 l1 hN hNc hc hin
    go_enter Try.func8, Try.ntmps8
    go_wp2_with fail
    refine (ralive_any _).mono ?_
    rintro e w1 ⟨rfl, b1⟩
    go_wp2_with fail
    refine (N0.out _ b1).mono ?_
    rintro e w2 ⟨g, rfl, h2, _⟩
    have CO := Lib.hid h2.openP
    have H2 := Lib.hid h2
    rw [show (Pl.new n).last = List.replicate n zeroC from rfl, told_zero] at CO
    clear h2 N0 b1
    go_wp2_with fail
    refine CO.out.mono ?_
    rintro e w3 ⟨b, ta, tc, wa, wc, rfl, hn3, hv3, _, _, b3⟩
    have h3 : Pair w w3 (atRl b g (newRl n)) noB (fun _ => False) := H2.out.toReel stays_no b3 hn3 hv3
    have C4 := Lib.hid (show Calls Try.prog 14 #[ptr b, .slice none 0 0] w3 (fun e w' => e = .returned (.int .i64 0) ∧ Pair w w' (atRl b g r1) noB (fun _ => False)) by
      have := h3.rbegin stays_no none 0 [] (BytesP.nil _ _ _) (Nat.le_refl _) (by simp [newRl, Pl.new])
      rw [HB1.out] at this
      exact this.mono fun _ _ ⟨e, h, _⟩ => ⟨e, h⟩)
    clear h3 hv3 b3 hn3 H2 CO
    go_wp2_with fail
    refine C4.out.mono ?_
    rintro e w4 ⟨rfl, h4⟩
    have H4 := Lib.hid h4
    clear h4 C4 HB1
    go_wp2_with fail
    refine (KC.out _).mono ?_
    rintro e w5 ⟨rfl, b5⟩
    have H5 := Lib.hid (H4.out.more (stays_rl _ _ _) stays_no b5)
    clear b5 H4
    go_wp2_with fail
    rw [hNi]
    clear hNi
    go_loopw [9] (fun i wr => ∃ (k : Nat) (r : Rl), i = .int .i64 (k : Int) ∧ k ≤ N ∧ Hid (Rdy r 1 [] (List.replicate k (zeroL l))) ∧ Hid (r.P.sure.length = n) ∧ Hid (r.P.loose.length ≤ k * c) ∧ Hid (Pair w wr (atRl b g r) noB (fun _ => False))) (fun i _ => N - (intOf i).toNat)
    case atStart => exact ⟨0, r1, rfl, Nat.zero_le _, Y1, N1, Lib.hid (by rw [L1.out]; exact Nat.zero_le _), H5⟩
    case round =>
      clear H5
      obtain ⟨k, r, rfl, hk, HY, HS, HLO, HPR⟩ := hrel
      have hcw : cellsN (zeroL l).length = c := by rw [zeroL_len]; exact HC.out
      have hword : Word (zeroL l) := ⟨by rw [zeroL_len]; omega, zeroL_bytes l⟩
      have hpl := rep_len k (zeroL l) hword.1
      rw [hcw] at hpl
      have hkc : k * c ≤ N * c := Nat.mul_le_mul_right _ hk
      have hrm : r.room = n / 2 := by unfold Rl.room; rw [HS.out]
      have hNc := HNC.out
      by_cases hlt : k < N
      · have hkc2 : k * c + c ≤ N * c := by rw [← Nat.succ_mul]; exact Nat.mul_le_mul_right _ hlt
        have hlo := HLO.out
        obtain ⟨r2, ha, y2, n2, _, l2⟩ := HY.out.add hword (by rw [hcw, hpl, hrm]; omega) (by rw [hcw]; omega)
        have bA := (Below.refl wr.heap.size wr).alloc (Nat.le_refl _) (.cells (arr (zeroL l)) 5)
        have CA := Lib.hid (show Calls Try.prog 12 #[ptr b, .slice (some ⟨wr.heap.size, 0, none⟩) l l] (wr.alloc (.cells (arr (zeroL l)) 5)) (fun e w' => e = .returned (.int .i64 0) ∧ Pair w w' (atRl b g r2) noB (fun _ => False)) by
          have := (HPR.out.more (stays_rl _ _ _) stays_no bA).radd stays_no (some ⟨wr.heap.size, 0, none⟩) l (zeroL l) (zero_block l (by omega) wr) (by omega)
          rw [ha, zeroL_len] at this
          exact this.mono fun _ _ ⟨e, h, _⟩ => ⟨e, h⟩)
        have Y2 := Lib.hid (show Rdy r2 1 [] (List.replicate (k + 1) (zeroL l)) by rw [List.replicate_succ']; exact y2)
        have S2 := Lib.hid (n2.trans HS.out)
        have L2 := Lib.hid (show r2.P.loose.length ≤ (k + 1) * c by rw [l2, hcw, Nat.succ_mul]; omega)
        clear ha y2 n2 l2 bA hpl hkc hrm hNc hkc2 hlo hword hcw HY HS HLO HPR
        go_wp2_with fail
        refine CA.out.mono ?_
        rintro e w7 ⟨rfl, h7⟩
        have H7 := Lib.hid h7
        clear h7
        go_wp2_with fail
        go_roundw
        case rel => exact ⟨k + 1, r2, by go_num, by omega, Y2, S2, L2, H7⟩
        case measure => simp [intOf]; omega
      · have hkn : k = N := by omega
        subst hkn
        have hleft : r.left = n / 2 - 1 - k * c := by rw [HY.out.leftN, hpl, hrm]; omega
        obtain ⟨q, hq⟩ : ∃ q, n / 2 - 1 - k * c = q := ⟨_, rfl⟩
        have HLF := Lib.hid (hleft.trans hq)
        have hqi : (n : Int) / 2 - 1 - (k : Int) * (c : Int) = (q : Int) := by
          have : ((k * c : Nat) : Int) = (k : Int) * (c : Int) := by simp
          omega
        have HNO := Lib.hid (show r.add (zeroL l) = (92, r) from HY.out.addNo (by rw [hcw, hpl, hrm]; omega))
        have HLQ := Lib.hid (show r.P.loose.length + 1366 ≤ 100000 by have := HLO.out; omega)
        have HRY := Lib.hid HY.out.ready
        have CL := Lib.hid (fun wx (h : Pair w wx (atRl b g r) noB (fun _ => False)) => show Calls Try.prog 27 #[ptr b] wx (IntB (q : Int) wx) by
          have := h.rleft
          rwa [HLF.out] at this)
        have CA := Lib.hid (fun wx (h : Pair w wx (atRl b g r) noB (fun _ => False)) => show Calls Try.prog 12 #[ptr b, .slice (some ⟨wx.heap.size, 0, none⟩) l l] (wx.alloc (.cells (arr (zeroL l)) 5)) (fun e w' => e = .returned (.int .i64 92) ∧ Pair w w' (atRl b g r) noB (fun _ => False)) by
          have bA := (Below.refl wx.heap.size wx).alloc (Nat.le_refl _) (.cells (arr (zeroL l)) 5)
          have := (h.more (stays_rl _ _ _) stays_no bA).radd stays_no (some ⟨wx.heap.size, 0, none⟩) l (zeroL l) (zero_block l (by omega) wx) HLQ.out
          rw [HNO.out, zeroL_len] at this
          exact this.mono fun _ _ ⟨e, h, _⟩ => ⟨e, h⟩)
        clear hpl hkc hrm hNc hcw hleft hword hlt hk
        go_wp2_with fail
        refine (CL.out _ HPR.out).mono ?_
        rintro e w6 ⟨rfl, b6⟩
        have H6 := Lib.hid (HPR.out.more (stays_rl _ _ _) stays_no b6)
        clear b6
        go_wp2_with fail
        refine (KC.out _).mono ?_
        rintro e w7 ⟨rfl, b7⟩
        have H7 := Lib.hid (H6.out.more (stays_rl _ _ _) stays_no b7)
        clear b7 H6
        go_wp2_with fail
        refine (CA.out _ H7.out).mono ?_
        rintro e w8 ⟨rfl, h8⟩
        have H8 := Lib.hid h8
        clear h8 H7
        go_wp2_with fail
        refine (CL.out _ H8.out).mono ?_
        rintro e w9 ⟨rfl, b9⟩
        have H9 := Lib.hid (H8.out.more (stays_rl _ _ _) stays_no b9)
        have CR := Lib.hid H9.out.rready
        rw [HRY.out] at CR
        clear b9 H8
        go_wp2_with fail
        refine CR.out.mono ?_
        rintro e wA ⟨rfl, rfl⟩
        by_cases hq0 : q = 0
        · have tq : ((q : Int) == 0) = true := by simp [hq0]
          obtain ⟨r3, hf3, _, _, _, _⟩ := HY.out.flush
          have CF := Lib.hid (H9.out.rflush stays_no)
          rw [hf3] at CF
          clear hf3
          go_wp2_with fail
          refine CF.out.mono ?_
          rintro e wB ⟨rfl, hB, _⟩
          go_wp2_with fail
          go_ret
          exact ⟨rfl, hB.low⟩
        · have tq : ((q : Int) == 0) = false := by simp; omega
          obtain ⟨r2, ha2, y2, _, _, _⟩ := HY.out.add (x := []) ⟨by simp, fun _ h => by simp at h⟩ (by
            have h1 := HY.out.leftN
            have h2 := HLF.out
            rw [show ([] : List Nat).length = 0 from rfl, cellsN_small (by omega)]
            omega) (by rw [show ([] : List Nat).length = 0 from rfl, cellsN_small (by omega)]; have := HLQ.out; omega)
          obtain ⟨r3, hf3, _, _, _, _⟩ := y2.flush
          have CN := Lib.hid (show Calls Try.prog 12 #[ptr b, .slice none 0 0] w9 (fun e w' => e = .returned (.int .i64 0) ∧ Pair w w' (atRl b g r2) noB (fun _ => False)) by
            have := H9.out.radd stays_no none 0 [] (BytesP.nil _ _ _) HLQ.out
            rw [ha2] at this
            exact this.mono fun _ _ ⟨e, h, _⟩ => ⟨e, h⟩)
          have HF3 := Lib.hid hf3
          clear ha2 y2 hf3
          go_wp2_with fail
          refine CN.out.mono ?_
          rintro e wB ⟨rfl, hB⟩
          have CF := Lib.hid (hB.rflush stays_no)
          rw [HF3.out] at CF
          clear hB CN
          go_wp2_with fail
          refine CF.out.mono ?_
          rintro e wC ⟨rfl, hC, _⟩
          go_wp2_with fail
          go_ret
          exact ⟨rfl, hC.low⟩
  · by_cases h1 : n < 4
    · have t1 : decide (n < 4) = true := by simpa using h1
      go_enter Try.func8, Try.ntmps8
      go_wp2_with fail
      refine (ralive_any _).mono ?_
      rintro e w1 ⟨rfl, b1⟩
      go_wp2_with fail
      go_ret
      exact ⟨rfl, b1⟩
    · have t1 : decide (n < 4) = false := by simpa using h1
      by_cases h2 : 200 < n
      · have t2 : decide (200 < n) = true := by simpa using h2
        go_enter Try.func8, Try.ntmps8
        go_wp2_with fail
        refine (ralive_any _).mono ?_
        rintro e w1 ⟨rfl, b1⟩
        go_wp2_with fail
        go_ret
        exact ⟨rfl, b1⟩
      · have t2 : decide (200 < n) = false := by simpa using h2
        by_cases h3 : l < 0
        · have t3 : decide (l < 0) = true := by simpa using h3
          go_enter Try.func8, Try.ntmps8
          go_wp2_with fail
          refine (ralive_any _).mono ?_
          rintro e w1 ⟨rfl, b1⟩
          go_wp2_with fail
          go_ret
          exact ⟨rfl, b1⟩
        · have t3 : decide (l < 0) = false := by simpa using h3
          have t4 : decide (400 < l) = true := by simp; omega
          go_enter Try.func8, Try.ntmps8
          go_wp2_with fail
          refine (ralive_any _).mono ?_
          rintro e w1 ⟨rfl, b1⟩
          go_wp2_with fail
          go_ret
          exact ⟨rfl, b1⟩


set_option maxRecDepth 100000 in
theorem reelRoom_lifted (os : Os) (started : os.Started) (H : Type) (enc : TypeId × Value → H) :
    ReturnsInHanded {} Try.checked os 8 .any (Rows.reelRoomSpec.pre6 enc Try.prog Try.f8 Rows.reelRoomRow.domain false) (Rows.reelRoomSpec.post enc Try.prog Try.f8 false true false false) := by
  refine returnsInHanded_of_change (C := Try.checked) own started (by kernel_rfl) Try.func8
    (ChangeSpec.witness6 (enc := enc) (C := Try.checked) false ⟨#[], #[.int .i64 0, .int .i64 0], []⟩ 8 (by kernel_rfl) (by kernel_rfl) (by kernel_rfl) (by kernel_rfl)) ?_
  intro W base args ds gs before hval0 hW _ _
  have hval : ∀ (j : Nat) t v, Try.f8.params[j]? = some t → args[j]? = some v → Value.okWide Try.prog W .any base t v := hval0
  have hW' := hW
  obtain ⟨p, q, hA0, hV, rfl, _, _⟩ := hW
  have hA : DataW.TrodAll enc Try.prog W 0 (fun _ => true) true Try.f8.params.toList args.toList ds p := hA0
  rw [Try.params8] at hA hval
  obtain ⟨v0, vs0, d0, ds0, p0, q_0, hargs, rfl, rfl, h0, r0⟩ := trodAll_cons hA
  obtain ⟨v1, vs1, d1, ds1, p1, q_1, rfl, rfl, rfl, h1, r1⟩ := trodAll_cons r0
  obtain ⟨rfl, rfl, rfl⟩ := trodAll_nil r1
  obtain rfl : args = #[v0, v1] := by cases args; simp_all
  obtain ⟨rfl, rfl⟩ := trodVars_none hV
  clear hA0 hval0
  simp only [List.append_nil] at hW'
  obtain ⟨a0, rfl, rfl, rfl, w0⟩ := open_int Try.underlying3 (hval 0 3 v0 rfl rfl) h0
  obtain ⟨a1, rfl, rfl, rfl, w1⟩ := open_int Try.underlying3 (hval 1 3 v1 rfl rfl) h1
  refine (room_walk a0 a1 W).mono fun e W' ⟨he, hb⟩ => ?_
  subst he
  exact ⟨_, rfl, _, _, _, [], [], [], hW', trodAll_mk1 (shut_bool Try.underlying4 _), (trodAll_cons_mk (shut_int Try.underlying3 w0) (trodAll_cons_mk (shut_int Try.underlying3 w1) trodAll_mk0)), rfl, hb.frame _, fun h => by cases h⟩

theorem reelRoom_holds : Rows.ReelRoomSaid :=
  OpenClaim.holds_of_wide 8 Try.f8 rfl rfl rfl rfl rfl rfl rfl ⟨rfl, rfl, rfl, rfl, rfl⟩ rfl rfl rfl rfl rfl (by kernel_rfl) Try.func8 (by kernel_rfl)
    (of_decide_eq_true (by kernel_rfl)) (by unfold Func.isWrapper; first | (rw [if_pos (by decide +kernel)]; kernel_rfl) | (rw [if_neg (by decide +kernel)]; exact ⟨rfl, rfl⟩))
    (fun os started H enc _ => reelRoom_lifted os started H enc)
#print axioms reelRoom_holds


end Go.Proofs.Ytipikkniookanaa
