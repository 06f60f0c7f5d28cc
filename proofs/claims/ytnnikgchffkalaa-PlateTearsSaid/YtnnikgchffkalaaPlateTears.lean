/- PlateTears: the law returns true for any two bytes and any number: a write that is torn is its own beginning, and behind that what was there. It has no conditions. -/
import Derived.Test.YtnnikgchffkalaaArgs
namespace Go.Proofs.Ytnnikgchffkalaa
open Go.ChangeShapes Go.WideShapes Go.ChangeAt Go.RowKit

attribute [local go_sem ↓] ld26 ld66 st26 st66 bx26 al26 al66 bd26 bd66 bs61 bs48 mk48 eq26 ap61 ap48 ap49 cp46 cp48
attribute [local go_sem] bx_agg al_cell al_wr bd_zero bd_one bd_two bd_nine

theorem tr1 (c : List Nat) : (Pl.new 1).put 0 c = (0, ⟨[zeroC], [c], [(0, c)], -1, false⟩) := rfl
theorem tr2 (c : List Nat) : Pl.flush ⟨[zeroC], [c], [(0, c)], -1, false⟩ = (0, ⟨[c], [c], [], -1, false⟩) := rfl
theorem tr3 (c d : List Nat) : Pl.put ⟨[c], [c], [], -1, false⟩ 0 d = (0, ⟨[c], [d], [(0, d)], -1, false⟩) := rfl
theorem tr4 (c d : List Nat) (at_ : Int) : Pl.fail ⟨[c], [d], [(0, d)], -1, false⟩ [1] 0 at_ = ⟨[tear (clampN at_ 64) d c], [tear (clampN at_ 64) d c], [], -1, false⟩ := rfl
theorem tr5 (c : List Nat) : Pl.get ⟨[c], [c], [], -1, false⟩ 0 = c := rfl
theorem tr6 (c : List Nat) : Pl.getE ⟨[c], [c], [], -1, false⟩ 0 = 0 := rfl

/-- A cell in a local variable. -/
theorem local_cell {w : World} {c : List Nat} (hc : IsCell c) : ∃ w', StR 26 (.pointer (some ⟨w.heap.size, 0, none⟩)) (.agg (arr c)) (w.alloc (.cells (arr zeroC) 26)) = .ok .skip w' ∧ RowAt w' w.heap.size 26 (c.map bv) ∧ Below w.heap.size w w' ∧ w'.heap.size = w.heap.size + 1 := by
  obtain ⟨w', h1, h2, h3⟩ := st_block zeroC_len hc.len (cell_block w zeroC)
  exact ⟨w', h1, h2, ((Below.refl w.heap.size w).alloc (Nat.le_refl _) _).trans (h3.below (Nat.le_refl _)), h3.size.trans (by simp)⟩

set_option maxRecDepth 100000 in
set_option maxHeartbeats 8000000 in
theorem tears_walk (a b : Nat) (at_ : Int) (w : World) (ha : a < 256) (hb : b < 256) : Calls Try.prog 7 #[.int .u8 (a : Int), .int .u8 (b : Int), .int .i64 at_] w (TrueB w) := by
  have CA := Lib.hid (fun W => cell_any a ha W)
  have CB := Lib.hid (fun W => cell_any b hb W)
  have ia := cellV_is ha
  have ib := cellV_is hb
  generalize cellV a = ca at *
  generalize cellV b = cb at *
  go_enter Try.func7, Try.ntmps7
  go_wp2_with fail
  refine (alive_any _).mono ?_
  rintro e w1 ⟨rfl, b1⟩
  have N := Lib.hid (show Calls Try.prog 9 #[.int .i64 1] w1 (fun e w' => ∃ g, e = .returned (ptr g) ∧ Mine w w' g (Pl.new 1)) from Mine.new 1 b1)
  clear b1
  go_wp2_with fail
  refine N.out.mono ?_
  rintro e w2 ⟨g, rfl, h2⟩
  have H2 := Lib.hid h2
  clear h2 N
  go_wp2_with fail
  refine (CA.out _).mono ?_
  rintro e w3 ⟨rfl, b3⟩
  have h3 := H2.out.below b3
  have C1 := Lib.hid (show Calls Try.prog 11 #[ptr g, .int .i64 0, .agg (arr ca)] w3 (fun e w' => e = .returned (.int .i64 0) ∧ Mine w w' g ⟨[zeroC], [ca], [(0, ca)], -1, false⟩) by have := h3.put 0 ia (by decide); rw [tr1] at this; exact this)
  clear h3 b3 H2
  go_wp2_with fail
  refine C1.out.mono ?_
  rintro e w4 ⟨rfl, h4⟩
  have C2 := Lib.hid (show Calls Try.prog 13 #[ptr g] w4 (fun e w' => e = .returned (.int .i64 0) ∧ Mine w w' g ⟨[ca], [ca], [], -1, false⟩) by have := h4.flush; rw [tr2] at this; exact this)
  clear h4 C1
  go_wp2_with fail
  refine C2.out.mono ?_
  rintro e w5 ⟨rfl, h5⟩
  have H5 := Lib.hid h5
  clear h5 C2
  go_wp2_with fail
  refine (CB.out _).mono ?_
  rintro e w6 ⟨rfl, b6⟩
  have h6 := H5.out.below b6
  have C3 := Lib.hid (show Calls Try.prog 11 #[ptr g, .int .i64 0, .agg (arr cb)] w6 (fun e w' => e = .returned (.int .i64 0) ∧ Mine w w' g ⟨[ca], [cb], [(0, cb)], -1, false⟩) by have := h6.put 0 ib (by simp); rw [tr3] at this; exact this)
  clear h6 b6 H5
  go_wp2_with fail
  refine C3.out.mono ?_
  rintro e w7 ⟨rfl, h7⟩
  have C4 := Lib.hid (show Calls Try.prog 22 #[ptr g, .slice (some ⟨w7.heap.size, 0, none⟩) 1 1, .int .i64 0, .int .i64 at_] (w7.alloc (.cells #[.int .u8 1] 5)) (fun e w' => e = .returned (.tuple #[]) ∧ Mine w w' g ⟨[tear (clampN at_ 64) cb ca], [tear (clampN at_ 64) cb ca], [], -1, false⟩) by have := h7.failNew [1] (fun b hb => by simp at hb; omega) (by simp) 0 at_; rw [tr4] at this; exact this)
  have it := tear_is (n := clampN at_ 64) ib ia
  have HT := Lib.hid (fun j => tear_get (s := ca) ib (n := clampN at_ 64) (j := j) (clampN_le _ _))
  generalize tear (clampN at_ 64) cb ca = ct at *
  clear h7 C3
  go_wp2_with fail
  refine C4.out.mono ?_
  rintro e w8 ⟨rfl, h8⟩
  have C5 := Lib.hid (show Calls Try.prog 10 #[ptr g, .int .i64 0] w8 (fun e w' => e = .returned (.tuple #[.agg (arr ct), .int .i64 0]) ∧ Below w8.heap.size w8 w') by have := h8.get 0; rw [tr5, tr6] at this; exact this)
  have B8 := Lib.hid h8.low
  clear h8 C4
  go_wp2_with fail
  refine C5.out.mono ?_
  rintro e w9 ⟨rfl, b9⟩
  obtain ⟨w10, s10, r10, b10, z10⟩ := local_cell (w := w9) it
  have B10 := Lib.hid ((B8.out.trans (b9.mono B8.out.size)).trans (b10.mono (Nat.le_trans B8.out.size b9.size)))
  have R10 := Lib.hid r10
  clear b9 r10 b10 z10 C5 B8
  go_wp2_with fail
  refine (CA.out _).mono ?_
  rintro e w11 ⟨rfl, b11⟩
  have B11 := Lib.hid (B10.out.trans (b11.mono B10.out.size))
  have R11 := Lib.hid (R10.out.same (b11.block _ R10.out.lt))
  clear b11 R10 B10
  go_wp2_with fail
  refine (CB.out _).mono ?_
  rintro e w12 ⟨rfl, b12⟩
  have B12 := Lib.hid (B11.out.trans (b12.mono B11.out.size))
  have R12 := Lib.hid (R11.out.same (b12.block _ R11.out.lt))
  clear b12 R11 B11 CA CB
  have k13 := cell_block w12 zeroC
  have k14 := cell_block (w12.alloc (.cells (arr zeroC) 26)) zeroC
  have hs13 : (w12.alloc (.cells (arr zeroC) 26)).heap.size = w12.heap.size + 1 := by simp
  rw [hs13] at k14
  have k13' := k13.same (Below.heap_alloc (w12.alloc (.cells (arr zeroC) 26)) (.cells (arr zeroC) 26) w12.heap.size (by simp))
  obtain ⟨w15, s15, r15, u15⟩ := st_block zeroC_len ia.len k13'
  obtain ⟨w16, s16, r16, u16⟩ := st_block zeroC_len ib.len (k14.same (u15.block (w12.heap.size + 1) (by omega)))
  have r15' := r15.same (u16.block w12.heap.size (by omega))
  have b14 := ((Below.refl w12.heap.size w12).alloc (Nat.le_refl _) (.cells (arr zeroC) 26)).alloc (by simp) (.cells (arr zeroC) 26)
  have b16 := (b14.trans (u15.below (Nat.le_refl _))).trans (u16.below (by omega))
  have R16 := Lib.hid (R12.out.same (b16.block _ R12.out.lt))
  have B16 := Lib.hid (B12.out.trans (b16.mono B12.out.size))
  have RO := Lib.hid r15'
  have RF := Lib.hid r16
  clear k13 k14 k13' r15 u15 r16 u16 r15' b14 b16 R12 B12 hs13
  go_wp2_with fail
  go_loop [47] (fun i => ∃ (k : Nat), k ≤ 64 ∧ i = .int .i64 k) (fun i => 64 - (intOf i).toNat)
  case atStart => exact ⟨0, Nat.zero_le _, rfl⟩
  case round =>
    obtain ⟨k, hk, rfl⟩ := hrel
    by_cases hlt : k < 64
    · have e1 : ca[k]? = some (ca[k]'(by rw [ia.len]; exact hlt)) := List.getElem?_eq_getElem _
      have e2 : cb[k]? = some (cb[k]'(by rw [ib.len]; exact hlt)) := List.getElem?_eq_getElem _
      generalize ca[k]'(by rw [ia.len]; exact hlt) = x1 at e1
      generalize cb[k]'(by rw [ib.len]; exact hlt) = x2 at e2
      have c1 := RO.out.cell (j := k) (v := bv x1) (by rw [List.getElem?_map, e1]; rfl)
      have c2 := RF.out.cell (j := k) (v := bv x2) (by rw [List.getElem?_map, e2]; rfl)
      cases t : decide ((k : Int) < at_) with
      | true =>
        have c3 := R16.out.cell (j := k) (v := bv x2) (by rw [List.getElem?_map, HT.out, if_pos (by unfold clampN; simp at t; omega), e2]; rfl)
        clear e1 e2
        go_wp2_with fail
        go_round
        case rel => exact ⟨k + 1, by omega, by go_num⟩
        case measure => simp [intOf]; omega
      | false =>
        have c3 := R16.out.cell (j := k) (v := bv x1) (by rw [List.getElem?_map, HT.out, if_neg (by unfold clampN; simp at t; omega), e1]; rfl)
        clear e1 e2
        go_wp2_with fail
        go_round
        case rel => exact ⟨k + 1, by omega, by go_num⟩
        case measure => simp [intOf]; omega
    · go_wp2_with fail
      go_ret
      exact ⟨rfl, B16.out⟩


set_option maxRecDepth 100000 in
theorem plateTears_lifted (os : Os) (started : os.Started) (H : Type) (enc : TypeId × Value → H) :
    ReturnsInHanded {} Try.checked os 7 .any (Rows.plateTearsSpec.pre6 enc Try.prog Try.f7 Rows.plateTearsRow.domain false) (Rows.plateTearsSpec.post enc Try.prog Try.f7 false true false false) := by
  refine returnsInHanded_of_change (C := Try.checked) own started (by kernel_rfl) Try.func7
    (ChangeSpec.witness6 (enc := enc) (C := Try.checked) false ⟨#[], #[.int .u8 0, .int .u8 0, .int .i64 0], []⟩ 8 (by kernel_rfl) (by kernel_rfl) (by kernel_rfl) (by kernel_rfl)) ?_
  intro W base args ds gs before hval0 hW _ _
  have hval : ∀ (j : Nat) t v, Try.f7.params[j]? = some t → args[j]? = some v → Value.okWide Try.prog W .any base t v := hval0
  have hW' := hW
  obtain ⟨p, q, hA0, hV, rfl, _, _⟩ := hW
  have hA : DataW.TrodAll enc Try.prog W 0 (fun _ => true) true Try.f7.params.toList args.toList ds p := hA0
  rw [Try.params7] at hA hval
  obtain ⟨v0, vs0, d0, ds0, p0, q_0, hargs, rfl, rfl, h0, r0⟩ := trodAll_cons hA
  obtain ⟨v1, vs1, d1, ds1, p1, q_1, rfl, rfl, rfl, h1, r1⟩ := trodAll_cons r0
  obtain ⟨v2, vs2, d2, ds2, p2, q_2, rfl, rfl, rfl, h2, r2⟩ := trodAll_cons r1
  obtain ⟨rfl, rfl, rfl⟩ := trodAll_nil r2
  obtain rfl : args = #[v0, v1, v2] := by cases args; simp_all
  obtain ⟨rfl, rfl⟩ := trodVars_none hV
  clear hA0 hval0
  simp only [List.append_nil] at hW'
  obtain ⟨i0, rfl, rfl, rfl, w0⟩ := open_int Try.underlying5 (hval 0 5 v0 rfl rfl) h0
  obtain ⟨a0, rfl, hn0⟩ := nat_of_u8 w0
  obtain ⟨i1, rfl, rfl, rfl, w1⟩ := open_int Try.underlying5 (hval 1 5 v1 rfl rfl) h1
  obtain ⟨a1, rfl, hn1⟩ := nat_of_u8 w1
  obtain ⟨a2, rfl, rfl, rfl, w2⟩ := open_int Try.underlying3 (hval 2 3 v2 rfl rfl) h2
  refine (tears_walk a0 a1 a2 W hn0 hn1).mono fun e W' ⟨he, hb⟩ => ?_
  subst he
  exact ⟨_, rfl, _, _, _, [], [], [], hW', trodAll_mk1 (shut_bool Try.underlying4 _), (trodAll_cons_mk (shut_int Try.underlying5 w0) (trodAll_cons_mk (shut_int Try.underlying5 w1) (trodAll_cons_mk (shut_int Try.underlying3 w2) trodAll_mk0))), rfl, hb.frame _, fun h => by cases h⟩

theorem plateTears_holds : Rows.PlateTearsSaid :=
  OpenClaim.holds_of_wide 7 Try.f7 rfl rfl rfl rfl rfl rfl rfl ⟨rfl, rfl, rfl, rfl, rfl⟩ rfl rfl rfl rfl rfl (by kernel_rfl) Try.func7 (by kernel_rfl)
    (of_decide_eq_true (by kernel_rfl)) (by unfold Func.isWrapper; first | (rw [if_pos (by decide +kernel)]; kernel_rfl) | (rw [if_neg (by decide +kernel)]; exact ⟨rfl, rfl⟩))
    (fun os started H enc _ => plateTears_lifted os started H enc)
#print axioms plateTears_holds


end Go.Proofs.Ytnnikgchffkalaa
