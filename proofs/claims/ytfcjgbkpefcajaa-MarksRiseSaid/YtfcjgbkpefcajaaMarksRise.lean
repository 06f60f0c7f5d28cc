/- MarksRise: the law returns true for any list of rounds and any bytes: what is put for a round is told for it, as it was put, the greatest round rises to it, and the other side is not touched. It has no conditions. -/
import Derived.Test.YtfcjgbkpefcajaaMkAlive
import Derived.Test.YtfcjgbkpefcajaaMkRise
import Derived.Test.YtfcjgbkpefcajaaMake
import Derived.Test.YtfcjgbkpefcajaaArgsU
import Derived.Deep.RegionHeldLaw
namespace Go.Proofs.Ytfcjgbkpefcajaa
open Go.ChangeShapes Go.WideShapes Go.ChangeAt Go.RowKit

attribute [local go_sem ↓] ld26 ld66 st26 st66 bx26 al26 al66 bd26 bd66 bs61 bs48 mk48 eq26 ap61 ap48 ap49 cp46 cp48
attribute [local go_sem] bx_agg al_cell al_wr bd_zero bd_one bd_two bd_nine

attribute [local go_sem ↓] mkB

set_option maxRecDepth 100000 in
set_option maxHeartbeats 4000000 in
theorem rise_walk (a0 : Option Addr) (c0 : Nat) (rs : List Nat) (a1 : Option Addr) (c1 : Nat) (l : List Nat) (w : World) (h0 : NumsP w a0 c0 rs) (h1 : BytesP w a1 c1 l) :
    Calls Try.prog 5 #[.slice a0 rs.length c0, .slice a1 l.length c1] w (TrueB w) := by
  have H0 := Lib.hid h0
  have H1 := Lib.hid h1
  have hl0 := h0.len
  have hl1 := h1.len
  have hc0 := h0.cap
  clear h0 h1
  cases t1 : decide ((rs.length : Int) > 40) with
  | true =>
    go_enter Try.func5, Try.ntmps5
    go_wp2_with fail
    refine (alive_any _).mono ?_
    rintro e w1 ⟨rfl, b1⟩
    have B1 := Lib.hid b1
    clear b1
    go_wp2_with fail
    go_ret
    exact ⟨rfl, B1.out⟩
  | false =>
  cases t2 : decide ((l.length : Int) > 48) with
  | true =>
    go_enter Try.func5, Try.ntmps5
    go_wp2_with fail
    refine (alive_any _).mono ?_
    rintro e w1 ⟨rfl, b1⟩
    have B1 := Lib.hid b1
    clear b1
    go_wp2_with fail
    go_ret
    exact ⟨rfl, B1.out⟩
  | false =>
  have hr40 : rs.length ≤ 40 := by simp at t1; omega
  have hl48 : l.length ≤ 48 := by simp at t2; omega
  have HBY := Lib.hid H1.out.byte
  go_enter Try.func5, Try.ntmps5
  go_wp2_with fail
  refine (alive_any _).mono ?_
  rintro e w1 ⟨rfl, b1⟩
  have N := Lib.hid (show Calls Try.prog 7 #[.int .i64 9] w1 (fun e w' => ∃ g, e = .returned (ptr g) ∧ Mine w w' g (Pl.new 9)) from Mine.new 9 b1)
  clear b1
  go_wp2_with fail
  refine N.out.mono ?_
  rintro e w2 ⟨g, rfl, h2⟩
  have M2 := Lib.hid h2
  clear h2 N
  go_wp2_with fail
  go_loopw [6, 28] (fun s i wr => ∃ (k top : Nat) (P : Pl), k ≤ rs.length ∧ i = .int .i64 k ∧ s = .int .u64 top ∧ top < 18446744073709551616 ∧ Hid (Nine P k top) ∧ Hid (Mine w wr g P)) (fun _ i _ => rs.length - (intOf i).toNat)
  case atStart => exact ⟨0, 0, Pl.new 9, Nat.zero_le _, rfl, rfl, by decide, Lib.hid nine_new, M2⟩
  case round =>
    clear M2
    obtain ⟨k, top, P, hk, rfl, rfl, htop, HN, HM⟩ := hrel
    by_cases hlt : k < rs.length
    · obtain ⟨b0, o0, rfl, hb0, hcl⟩ := H0.out.cell (by intro e; subst e; simp at hlt)
      have g1 := (HM.out.low.cell (p := ⟨b0, o0 + k, none⟩) hb0).trans (hcl k _ (List.getElem?_eq_getElem hlt))
      have hr64 := H0.out.num _ (List.getElem_mem hlt)
      generalize rs[k] = r at *
      clear hcl
      cases t3 : decide ((r : Int) < 1) with
      | true =>
        go_wp2_with fail
        go_ret
        exact ⟨rfl, HM.out.low⟩
      | false =>
      cases t4 : decide ((r : Int) > 1099511627776) with
      | true =>
        go_wp2_with fail
        go_ret
        exact ⟨rfl, HM.out.low⟩
      | false =>
      have hrd : isRoundB r = true := by simp at t3 t4; simp [isRoundB]; omega
      obtain ⟨m, hm, hm1, HMM⟩ : ∃ m : Nat, (k : Int) % 2 = (m : Int) ∧ m ≤ 1 ∧ Hid (m = k % 2) := ⟨k % 2, by omega, by omega, rfl⟩
      obtain ⟨m1, hm2, HM1⟩ : ∃ m1 : Nat, 1 - (m : Int) = (m1 : Int) ∧ Hid (1 - m = m1) := ⟨1 - m, by omega, rfl⟩
      have hm1' : m1 ≤ 1 := by have := HM1.out; omega
      obtain ⟨hp1, hp2, hp3⟩ := HN.out.put hm1 hrd hl48 HBY.out (by omega)
      obtain ⟨⟨tl, hq1⟩, hq2⟩ := HN.out.reads hm1 hrd hl48 HBY.out (by omega)
      rw [HM1.out] at hq2
      have CR0 := Lib.hid (HM.out.read (m1 : Int))
      have CP := Lib.hid (fun W (b : Below wr.heap.size wr W) => (HM.out.below b).mput (m : Int) r 0 a1 c1 l (H1.out.below (HM.out.low.trans (b.mono HM.out.low.size))) (by have := HN.out.few; omega))
      rw [hp1] at CP
      have N3 := Lib.hid hp3
      have Q1 := Lib.hid hq1
      have Q2 := Lib.hid hq2
      generalize (P.mput (m : Int) r 0 l).2 = P2 at *
      have HLO := Lib.hid (show (readL P2.last (m1 : Int)).2.length = (readL P.last (m1 : Int)).2.length by rw [Q2.out])
      obtain ⟨top2, ht2, ht3, HT2⟩ : ∃ t : Nat, (if top < r then (r : Int) else (top : Int)) = (t : Int) ∧ t < 18446744073709551616 ∧ Hid (max top r = t) := ⟨max top r, by split <;> omega, by omega, rfl⟩
      rw [HT2.out] at N3
      clear hp1 hp2 hp3 hq1 hq2
      go_wp2_with fail
      refine CR0.out.mono ?_
      rintro e w3 ⟨ao, co, rfl, _, b3⟩
      have C3 := Lib.hid (CP.out _ b3)
      generalize hlo : (readL P.last (m1 : Int)).2.length = lo at *
      have HLO2 := Lib.hid hlo
      clear hlo b3 CR0
      go_wp2_with fail
      refine C3.out.mono ?_
      rintro e w4 ⟨rfl, h4⟩
      have H4 := Lib.hid h4
      have CR1 := Lib.hid (h4.read (m : Int))
      rw [Q1.out] at CR1
      clear h4 C3 CP
      go_wp2_with fail
      refine CR1.out.mono ?_
      rintro e w5 ⟨al, cl, rfl, hL, b5⟩
      have H5 := Lib.hid (H4.out.below b5)
      have HLL := Lib.hid hL
      have hlcap := hL.cap
      have CR2 := Lib.hid (H5.out.read (m1 : Int))
      clear hL b5 CR1 H4
      have hlen1 : ((l ++ List.replicate (48 - l.length) 0) :: tl).length = tl.length + 1 := rfl
      rw [hlen1] at hlcap
      simp only [hlen1]
      obtain ⟨ln, hln⟩ : ∃ ln : Nat, tl.length + 1 = ln := ⟨_, rfl⟩
      rw [hln] at hlcap
      rw [hln]
      have hln1 : decide ((ln : Int) < 1) = false := by simp; omega
      have hln0 : 0 < ln := by omega
      have HLN := Lib.hid hln
      clear hln hlen1
      go_wp2_with fail
      refine CR2.out.mono ?_
      rintro e w6 ⟨asl, csl, rfl, _, b6⟩
      have H6 := Lib.hid (H5.out.below b6)
      have hL6 := HLL.out.below b6
      rw [HLO.out]
      obtain ⟨bl, ol, rfl, hbl, hcl⟩ := hL6.cell (by simp)
      obtain ⟨a', c', gl, gB⟩ := hcl 0 _ rfl
      have hF : (l ++ List.replicate (48 - l.length) 0).length = 48 := by simp; omega
      have hFt : (l ++ List.replicate (48 - l.length) 0).take l.length = l := by simp
      obtain ⟨z, hz, hz48, HZ⟩ : ∃ z : Nat, 48 - (l.length : Int) = (z : Int) ∧ z ≤ 48 ∧ Hid (48 - l.length = z) := ⟨48 - l.length, by omega, by omega, rfl⟩
      have hFd : (l ++ List.replicate (48 - l.length) 0).drop l.length = zeroL z := by rw [← HZ.out]; simp [zeroL]
      obtain ⟨a2, c2, hs2, hB2⟩ := slice_to (a := a') (cap := c') (l := l ++ List.replicate (48 - l.length) 0) gB.cap l.length (l.length : Int) rfl (by rw [hF]; exact hl48)
      obtain ⟨a3, c3, hs3, hB3⟩ := slice_from (a := a') (cap := c') (l := l ++ List.replicate (48 - l.length) 0) gB.cap l.length (l.length : Int) rfl (by rw [hF]; exact hl48)
      rw [hFt, hF] at hs2
      rw [hFd, hF, zeroL_len] at hs3
      rw [hF, Nat.add_zero] at gl
      have b6d := (Below.refl w6.heap.size w6).drew
      have b6m := ((Below.refl w6.heap.size w6).alloc (Nat.le_refl _) (.cells (arr (zeroL z)) 5)).drew
      have SK := Lib.hid (show ∀ W, Below w6.heap.size w6 W → W.cell? ⟨bl, ol, none⟩ = some (.slice a' 48 c') ∧ (convert 31 9 (.slice a2 l.length c2)).run Try.prog W = .ok (.string (strB l)) W ∧ (convert 31 9 (.slice a1 l.length c1)).run Try.prog W = .ok (.string (strB l)) W ∧ (convert 31 9 (.slice a3 z c3)).run Try.prog W = .ok (.string (strB (zeroL z))) W ∧ Below w6.heap.size w6 W from fun W b => by
        have r3 := run_text ((hB3 w6 gB).below b)
        rw [hFd, zeroL_len] at r3
        have r2 := run_text ((hB2 w6 gB).below b)
        rw [hFt] at r2
        exact ⟨(b.cell (p := ⟨bl, ol, none⟩) hbl).trans gl, r2, run_text (H1.out.below (H6.out.low.trans (b.mono H6.out.low.size))), r3, b⟩)
      have RM := run_text (w := (w6.alloc (.cells (arr (zeroL z)) 5)).drew) ((zero_block z (by omega) w6).below (Below.refl _ _).drew)
      rw [zeroL_len] at RM
      have MK := mk_bytes z (by omega)
      have MK2 := run_bytes z (by omega)
      have hwz : IntKind.i64.wrap (z : Int) = (z : Int) := IntWalk.i64_in _ (by omega)
      have CT := Lib.hid (fun W (b : Below w6.heap.size w6 W) => (H6.out.below b).top)
      have hnt : ¬ top2 < topL P2.last := by have := N3.out.top; omega
      have htl : topL P2.last < 18446744073709551616 := by
        have := topM_lt N3.out.good.cl
        unfold topL
        omega
      generalize topL P2.last = tp at *
      generalize strB l = tx at *
      generalize strB (zeroL z) = tz at *
      have BL := Lib.hid (show ∀ W, (W.cell? ⟨bl, ol, none⟩ = some (.slice a' 48 c') ∧ (convert 31 9 (.slice a2 l.length c2)).run Try.prog W = .ok (.string tx) W ∧ (convert 31 9 (.slice a1 l.length c1)).run Try.prog W = .ok (.string tx) W ∧ (convert 31 9 (.slice a3 z c3)).run Try.prog W = .ok (.string tz) W ∧ Below w6.heap.size w6 W) → Below w6.heap.size w6 W from fun W h => h.2.2.2.2)
      have B6D := Lib.hid b6d
      have B6M := Lib.hid b6m
      clear hB2 hB3 gB hcl hbl hL6 HLL b6 b6d b6m hF hFt hFd gl HBY
      go_wp2_with fail
      go_region_held_law (fun W => W.cell? ⟨bl, ol, none⟩ = some (.slice a' 48 c') ∧ (convert 31 9 (.slice a2 l.length c2)).run Try.prog W = .ok (.string tx) W ∧ (convert 31 9 (.slice a1 l.length c1)).run Try.prog W = .ok (.string tx) W ∧ (convert 31 9 (.slice a3 z c3)).run Try.prog W = .ok (.string tz) W ∧ Below w6.heap.size w6 W)
        (first | with_reducible exact SK.out _ B6D.out | with_reducible exact SK.out _ B6M.out | exact SK.out _ (B6M.out.trans (bt.mono B6M.out.size)))
        (first | (go_simp; go_at_call 10; refine (CT.out _ (BL.out _ (by assumption))).mono ?_; rintro e w7 ⟨rfl, bt⟩))
      have H7 := Lib.hid (H6.out.below (BL.out _ (by assumption)))
      go_wp2_with fail
      go_roundw
      case rel => exact ⟨k + 1, top2, P2, by omega, by go_num, rfl, ht3, N3, H7⟩
      case measure => simp [intOf]; omega
    · go_wp2_with fail
      go_ret
      exact ⟨rfl, HM.out.low⟩


set_option maxRecDepth 100000 in
theorem marksRise_lifted (os : Os) (started : os.Started) (H : Type) (enc : TypeId × Value → H) :
    ReturnsInHanded {} Try.checked os 5 .any (Rows.marksRiseSpec.pre6 enc Try.prog Try.f5 Rows.marksRiseRow.domain false) (Rows.marksRiseSpec.post enc Try.prog Try.f5 false true false false) := by
  refine returnsInHanded_of_change (C := Try.checked) own started (by kernel_rfl) Try.func5
    (ChangeSpec.witness6 (enc := enc) (C := Try.checked) false ⟨#[], #[.slice none 0 0, .slice none 0 0], []⟩ 8 (by kernel_rfl) (by kernel_rfl) (by kernel_rfl) (by kernel_rfl)) ?_
  intro W base args ds gs before hval0 hW _ _
  have hval : ∀ (j : Nat) t v, Try.f5.params[j]? = some t → args[j]? = some v → Value.okWide Try.prog W .any base t v := hval0
  have hW' := hW
  obtain ⟨p, q, hA0, hV, rfl, _, _⟩ := hW
  have hA : DataW.TrodAll enc Try.prog W 0 (fun _ => true) true Try.f5.params.toList args.toList ds p := hA0
  rw [Try.params5] at hA hval
  obtain ⟨v0, vs0, d0, ds0, p0, q_0, hargs, rfl, rfl, h0, r0⟩ := trodAll_cons hA
  obtain ⟨v1, vs1, d1, ds1, p1, q_1, rfl, rfl, rfl, h1, r1⟩ := trodAll_cons r0
  obtain ⟨rfl, rfl, rfl⟩ := trodAll_nil r1
  obtain rfl : args = #[v0, v1] := by cases args; simp_all
  obtain ⟨rfl, rfl⟩ := trodVars_none hV
  clear hA0 hval0
  simp only [List.append_nil] at hW'
  obtain ⟨q0, cap0, l0, rfl, hS0, hm0⟩ := nums_of_trod (hval 0 57 v0 rfl rfl) h0
  have hlt0 : ∀ x ∈ p0, x.block < W.heap.size := fun x hx => by simpa using hW'.lt x (by simpa using (by simp [hx]))
  obtain ⟨q1, cap1, l1, rfl, hS1, hm1⟩ := bytes_of_trod (hval 1 31 v1 rfl rfl) h1
  have hlt1 : ∀ x ∈ p1, x.block < W.heap.size := fun x hx => by simpa using hW'.lt x (by simpa using (by simp [hx]))
  refine (rise_walk q0 cap0 l0 q1 cap1 l1 W hS0 hS1).mono fun e W' ⟨he, hb⟩ => ?_
  subst he
  have hT : DataW.TrodAll enc Try.prog W' 0 (fun b => decide (b < W.heap.size)) true _ _ _ _ := (trodAll_cons_mk (Below.trod laidOut (by kernel_rfl) (of_decide_eq_true (by kernel_rfl)) h0 hb hlt0) (trodAll_cons_mk (Below.trod laidOut (by kernel_rfl) (of_decide_eq_true (by kernel_rfl)) h1 hb hlt1) trodAll_mk0))
  simp only [List.append_nil] at hT
  exact ⟨_, rfl, _, _, _, [], p0 ++ (p1), [], hW', trodAll_mk1 (shut_bool Try.underlying4 _), hT, rfl, hb.frame _, fun h => by cases h⟩

theorem marksRise_holds : Rows.MarksRiseSaid :=
  OpenClaim.holds_of_wide 5 Try.f5 rfl rfl rfl rfl rfl rfl rfl ⟨rfl, rfl, rfl, rfl, rfl⟩ rfl rfl rfl rfl rfl (by kernel_rfl) Try.func5 (by kernel_rfl)
    (of_decide_eq_true (by kernel_rfl)) (by unfold Func.isWrapper; first | (rw [if_pos (by decide +kernel)]; kernel_rfl) | (rw [if_neg (by decide +kernel)]; exact ⟨rfl, rfl⟩))
    (fun os started H enc _ => marksRise_lifted os started H enc)
#print axioms marksRise_holds


end Go.Proofs.Ytfcjgbkpefcajaa
