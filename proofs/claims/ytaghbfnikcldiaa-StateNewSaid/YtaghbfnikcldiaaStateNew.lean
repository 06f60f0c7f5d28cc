/- StateNew: the law returns true for any two caps, any number and any numbers as doors. It has no conditions. -/
import Derived.Test.YtaghbfnikcldiaaMgStates
import Derived.Test.YtaghbfnikcldiaaMgProg
namespace Go.Proofs.Ytaghbfnikcldiaa
open Go.ChangeShapes Go.WideShapes Go.ChangeAt Go.RowKit

set_option maxRecDepth 100000
attribute [local go_sem ↓] ldOr stOr alOr bxOr bdOr ldBa stBa alBa bxBa bdBa ldSt stSt alSt bxSt bdSt ldEf stEf alEf bxEf eqEf bdEf bsEf ldGr bxGr eqGr ldCa bxCa eqCa
attribute [local go_sem] al_or bx_or st_ornew bd_or al_ba bx_ba st_banew bd_ba al_sta bx_sta st_stnew bd_sta al_ef bx_ef st_new bd_ef bs_ef bs_ef0 bx_gr ne_gr bx_ca ne_ca

theorem fits_doorsV {l : List Int} (h : doorsE l = 0) : fitsB (doorsV l) = true := by
  have hne : (doorsV l).isEmpty = false := by
    unfold doorsE at h
    cases he : (doorsV l).isEmpty with
    | false => rfl
    | true => rw [he] at h; simp at h
  have hpos : 0 < (doorsV l).length := by
    cases hd : doorsV l with
    | nil => rw [hd] at hne; simp at hne
    | cons x r => simp
  cases hg : l.all doorB with
  | false => rw [doorsV_bad hg] at hpos; simp at hpos
  | true =>
    rw [fitsB_iff]
    refine ⟨hpos, ?_, ?_⟩
    · rw [doorsV_good hg]; exact asc_ticksOf l 96
    · intro x hx
      rw [doorsV_good hg, mem_ticksOf] at hx
      omega
theorem new_right (x y : Cp) (limit : Int) (l : List Int) : rightS (newV x y limit l) = (newE x y limit l == 0) := by
  unfold newV newE
  cases h : newOk x y limit l with
  | false =>
    simp only [Bool.false_eq_true, if_false]
    rfl
  | true =>
    simp only [newOk, Bool.and_eq_true, beq_iff_eq] at h
    obtain ⟨h1, h2, h3, h4⟩ := h
    simp only [if_true]
    have hf := fits_doorsV h1
    simp only [rightS, limitsB, h2, h3, h4, hf, goodO, goodB, effsOk, manyN, rightE, goodE, tickB, aboveB]
    simp
theorem few_new {r : StR} {x y : Cp} {limit : Int} {l : List Int} (h : r.st = newV x y limit l) : FewS r := by
  have h1 : (r.st.ords.length = 0) ∧ (r.st.bats.length = 0) ∧ r.st.effs.length = 0 := by
    rw [h]
    unfold newV
    split <;> exact ⟨rfl, rfl, rfl⟩
  simp only [StR.st, odsOf, btsOf, List.length_map] at h1
  exact ⟨by omega, by omega, by omega⟩

set_option maxHeartbeats 4000000 in
theorem new_walk (HN : NewC) (HR : RightC) (x y : Cp) (limit : Int) (a : Option Addr) (cap : Nat) (l : List Int) (w : World) (h : IntsP w a cap l) (hm : l.length ≤ maxLen) : Calls Try.prog 4 #[ccV x y, .int .i64 limit, .slice a l.length cap] w (Tell true w) := by
  have CV := Lib.hid (fun W => alive_of HN HR W)
  have R0 := Lib.hid (Row.new w #[.int .i64 x.count, .int .i64 x.wt, .int .i64 y.count, .int .i64 y.wt] 35)
  have B0 := Lib.hid ((Below.refl w.heap.size w).alloc (Nat.le_refl _) (.cells #[.int .i64 x.count, .int .i64 x.wt, .int .i64 y.count, .int .i64 y.wt] 35))
  have H := Lib.hid h
  clear h
  unfold ccV
  go_enter Try.func4, Try.ntmps4
  go_wp2_with fail
  generalize w.alloc (.cells #[.int .i64 x.count, .int .i64 x.wt, .int .i64 y.count, .int .i64 y.wt] 35) = W0 at *
  refine (CV.out _).mono ?_
  rintro e W1 ⟨rfl, b1⟩
  have R1 := Lib.hid (R0.out.below b1)
  have B1 := Lib.hid (B0.out.trans (b1.mono B0.out.size))
  clear b1 R0 B0 CV
  by_cases h100 : 100 < l.length
  · have h1 : (100 : Int) < (l.length : Int) := by omega
    go_wp2_with fail
    go_ret
    exact ⟨rfl, B1.out⟩
  · have h1 : ¬ (100 : Int) < (l.length : Int) := by omega
    have C1 := Lib.hid (HN x y limit a cap l W1 (H.out.below B1.out) hm)
    have HQ := Lib.hid (new_right x y limit l)
    have HFw := Lib.hid (fun (r : StR) (hr : r.st = newV x y limit l) => few_new hr)
    have l1 := ld_caAt (c := x) (R1.out.cell 0) (R1.out.cell 1)
    have l2 := ld_caAt (c := y) (R1.out.cell 2) (R1.out.cell 3)
    clear HN
    go_wp2_with fail
    refine C1.out.mono ?_
    rintro e W2 ⟨r, rfl, hr, hP, b2⟩
    have X1 := Lib.hid (Row.new W2 (stC r) 29)
    have P1 := Lib.hid (hP.below ((Below.refl _ _).alloc (Nat.le_refl _) (.cells (stC r) 29)))
    have R2 := Lib.hid ((R1.out.below b2).more (.cells (stC r) 29))
    have B2 := Lib.hid ((B1.out.trans (b2.mono B1.out.size)).alloc (B1.out.trans (b2.mono B1.out.size)).size (.cells (stC r) 29))
    clear b2 hP l1 l2 C1 R1
    have l1 := ld_caAt (c := x) (R2.out.cell 0) (R2.out.cell 1)
    have l2 := ld_caAt (c := y) (R2.out.cell 2) (R2.out.cell 3)
    have C2 := Lib.hid (refNew_any x y limit a cap l (W2.alloc (.cells (stC r) 29)) (H.out.below B2.out) hm)
    go_wp2_with fail
    generalize W2.alloc (.cells (stC r) 29) = W3 at *
    generalize W2.heap.size = g at *
    refine C2.out.mono ?_
    rintro e W4 ⟨s, rfl, hs, hP, b4⟩
    have HSm := Lib.hid (show sameS r s = true from (sameS_iff r s).2 (hr.trans hs.symm))
    have HRt := Lib.hid (show rightS r.st = (newE x y limit l == 0) by rw [hr]; exact HQ.out)
    have hf := HFw.out r hr
    have X2 := Lib.hid ((X1.out.below b4).more (.cells (stC s) 29))
    have P2 := Lib.hid ((P1.out.below b4).below ((Below.refl _ _).alloc (Nat.le_refl _) (.cells (stC s) 29)))
    have Q2 := Lib.hid (hP.below ((Below.refl _ _).alloc (Nat.le_refl _) (.cells (stC s) 29)))
    have Y2 := Lib.hid (Row.new W4 (stC s) 29)
    have B4 := Lib.hid ((B2.out.trans (b4.mono B2.out.size)).alloc (B2.out.trans (b4.mono B2.out.size)).size (.cells (stC s) 29))
    have CS := Lib.hid (fun W h1 h2 => refSameS_any r s W h1 h2)
    have CR := Lib.hid (fun W h1 => HR r W h1 hf)
    rw [HSm.out] at CS
    rw [HRt.out] at CR
    have l3 := ld_sta X2.out
    have l4 := ld_sta Y2.out
    clear b4 hP l1 l2 C2 R2 X1 P1 HQ HFw HR hr hs HSm HRt hf
    generalize newE x y limit l = n at *
    have hnn : (n == n) = true := by simp
    go_wp2_with fail
    refine (CS.out _ P2.out Q2.out).mono ?_
    rintro e W5 ⟨rfl, b5⟩
    have X3 := Lib.hid (X2.out.below b5)
    have P3 := Lib.hid (P2.out.below b5)
    have B5 := Lib.hid (B4.out.trans (b5.mono B4.out.size))
    clear l3 l4 b5 X2 P2 Q2 Y2
    have l3 := ld_sta X3.out
    go_wp2_with fail
    refine (CR.out _ P3.out).mono ?_
    rintro e W6 ⟨rfl, b6⟩
    have B6 := Lib.hid (B5.out.trans (b6.mono B5.out.size))
    have hbb : ((n == 0) == (n == 0)) = true := by simp
    go_wp2_with fail
    go_ret
    exact ⟨by simp, B6.out⟩


set_option maxRecDepth 100000 in
theorem stateNew_lifted (os : Os) (started : os.Started) (H : Type) (enc : TypeId × Value → H) :
    ReturnsInHanded {} Try.checked os 4 .any (Rows.stateNewSpec.pre6 enc Try.prog Try.f4 Rows.stateNewRow.domain false) (Rows.stateNewSpec.post enc Try.prog Try.f4 false true false false) := by
  refine returnsInHanded_of_change (C := Try.checked) own started (by kernel_rfl) Try.func4
    (ChangeSpec.witness6 (enc := enc) (C := Try.checked) false ⟨#[], #[.agg #[.int .i64 0, .int .i64 0, .int .i64 0, .int .i64 0], .int .i64 0, .slice none 0 0], []⟩ 8 (by kernel_rfl) (by kernel_rfl) (by kernel_rfl) (by kernel_rfl)) ?_
  intro W base args ds gs before hval0 hW _ _
  have hval : ∀ (j : Nat) t v, Try.f4.params[j]? = some t → args[j]? = some v → Value.okWide Try.prog W .any base t v := hval0
  have hW' := hW
  obtain ⟨p, q, hA0, hV, rfl, _, _⟩ := hW
  have hA : DataW.TrodAll enc Try.prog W 0 (fun _ => true) true Try.f4.params.toList args.toList ds p := hA0
  rw [Try.params4] at hA hval
  obtain ⟨v0, vs0, d0, ds0, p0, q_0, hargs, rfl, rfl, h0, r0⟩ := trodAll_cons hA
  obtain ⟨v1, vs1, d1, ds1, p1, q_1, rfl, rfl, rfl, h1, r1⟩ := trodAll_cons r0
  obtain ⟨v2, vs2, d2, ds2, p2, q_2, rfl, rfl, rfl, h2, r2⟩ := trodAll_cons r1
  obtain ⟨rfl, rfl, rfl⟩ := trodAll_nil r2
  obtain rfl : args = #[v0, v1, v2] := by cases args; simp_all
  obtain ⟨rfl, rfl⟩ := trodVars_none hV
  clear hA0 hval0
  simp only [List.append_nil] at hW'
  obtain ⟨x0, y0, rfl⟩ := twoCaps_of_trod (hval 0 35 v0 rfl rfl) h0
  have hlt0 : ∀ x ∈ p0, x.block < W.heap.size := fun x hx => by simpa using hW'.lt x (by simpa using (by simp [hx]))
  obtain ⟨a1, rfl, rfl, rfl, w1⟩ := open_int Try.underlying3 (hval 1 3 v1 rfl rfl) h1
  obtain ⟨q2, cap2, l2, rfl, hS2, hm2⟩ := ints_of_trod (hval 2 24 v2 rfl rfl) h2
  have hlt2 : ∀ x ∈ p2, x.block < W.heap.size := fun x hx => by simpa using hW'.lt x (by simpa using (by simp [hx]))
  refine (new_walk new_of right_of x0 y0 a1 q2 cap2 l2 W hS2 hm2).mono fun e W' ⟨he, hb⟩ => ?_
  subst he
  have hT : DataW.TrodAll enc Try.prog W' 0 (fun b => decide (b < W.heap.size)) true _ _ _ _ := (trodAll_cons_mk (Below.trod laidOut (by kernel_rfl) (of_decide_eq_true (by kernel_rfl)) h0 hb hlt0) (trodAll_cons_mk (shut_int Try.underlying3 w1) (trodAll_cons_mk (Below.trod laidOut (by kernel_rfl) (of_decide_eq_true (by kernel_rfl)) h2 hb hlt2) trodAll_mk0)))
  simp only [List.append_nil] at hT
  exact ⟨_, rfl, _, _, _, [], p0 ++ (p2), [], hW', trodAll_mk1 (shut_bool Try.underlying4 _), hT, rfl, hb.frame _, fun h => by cases h⟩

theorem stateNew_holds : Rows.StateNewSaid :=
  OpenClaim.holds_of_wide 4 Try.f4 rfl rfl rfl rfl rfl rfl rfl ⟨rfl, rfl, rfl, rfl, rfl⟩ rfl rfl rfl rfl rfl (by kernel_rfl) Try.func4 (by kernel_rfl)
    (of_decide_eq_true (by kernel_rfl)) (by unfold Func.isWrapper; first | (rw [if_pos (by decide +kernel)]; kernel_rfl) | (rw [if_neg (by decide +kernel)]; exact ⟨rfl, rfl⟩))
    (fun os started H enc _ => stateNew_lifted os started H enc)
#print axioms stateNew_holds


end Go.Proofs.Ytaghbfnikcldiaa
