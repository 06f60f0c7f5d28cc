/- OutboxCut: the law returns true for any effects and any two numbers: an outbox's bytes, cut off anywhere, are none; those that are due and the rest together are all. It has no conditions. -/
import Derived.Test.YtciijkognhdddaaObAlive
import Derived.Test.YtciijkognhdddaaObSame
import Derived.Test.YtciijkognhdddaaObPut
import Derived.Test.YtciijkognhdddaaObTake2
import Derived.Test.YtciijkognhdddaaObArgs
import Derived.Test.YtciijkognhdddaaBkFar
import Derived.Deep.DeepCutAuto
import Derived.Deep.CutBlock
namespace Go.Proofs.Ytciijkognhdddaa
open Go.ChangeShapes Go.WideShapes Go.ChangeAt Go.RowKit

set_option maxRecDepth 100000
attribute [local go_sem ↓] ldEf stEf alEf bxEf eqEf bdEf bsEf
attribute [local go_sem] al_ef bx_ef st_new bd_ef bs_ef bs_ef0

theorem sizes_right {l : List Ef} (h : rightE l = true) : ∀ y ∈ l, y.order.size ≤ maxLen := fun y hy => by
  obtain ⟨_, _, _, _, _, h6⟩ := oneB_of (((rightE_iff l).1 h).1 y hy)
  unfold maxLen; omega
theorem due_split (l : List Ef) (now : Int) (i : Nat) : dueE l now = dueE (l.take i) now ++ dueE (l.drop i) now := by
  unfold dueE
  rw [← List.filter_append, List.take_append_drop]
theorem due_more {l : List Ef} {i : Nat} (hi : i < l.length) (now : Int) : dueE (l.take (i + 1)) now = dueE (l.take i) now ++ (if decide (l[i].due ≤ now) then [l[i]] else []) := by
  rw [List.take_succ_eq_append_getElem hi]
  unfold dueE
  rw [List.filter_append, List.filter_cons]
  split <;> rfl
theorem due_here {l : List Ef} {i : Nat} (hi : i < l.length) {now : Int} (hd : decide (l[i].due ≤ now) = true) : ∃ h : (dueE (l.take i) now).length < (dueE l now).length, (dueE l now)[(dueE (l.take i) now).length] = l[i] := by
  have e := due_split l now i
  rw [dueE_drop hi now, hd, if_pos rfl] at e
  refine ⟨by rw [e]; simp, ?_⟩
  simp only [e]
  rw [List.getElem_append_right (Nat.le_refl _)]
  simp
theorem due_not {l : List Ef} {now : Int} {y : Ef} (hd : decide (y.due ≤ now) = false) {k : Nat} (hk : k < (dueE l now).length) : eqB (dueE l now)[k] y = false := by
  cases e : eqB (dueE l now)[k] y with
  | false => rfl
  | true =>
    have h1 := (eqB_iff _ _).1 e
    have h2 := (List.mem_filter.1 (List.getElem_mem hk)).2
    rw [h1, hd] at h2
    cases h2

/-- Effects that came in; their bytes, in a row of the call's own. -/
structure CutI (w : World) (a : Option Addr) (cap : Nat) (l : List Ef) (W : World) : Prop where
  sl : SlP LE W a cap l
  low : Below w.heap.size w W
theorem CutI.below {w W W' : World} {a : Option Addr} {cap : Nat} {l : List Ef} (h : CutI w a cap l W) (b : Below W.heap.size W W') : CutI w a cap l W' := ⟨h.sl.below b, h.low.trans (b.mono h.low.size)⟩
theorem CutI.but {w W W' : World} {a : Option Addr} {cap : Nat} {l : List Ef} {g : Nat} (h : CutI w a cap l W) (hs : SlP LE w a cap l) (hg : w.heap.size ≤ g) (b : But g W W') : CutI w a cap l W' := by
  have hb := h.low.trans (b.below hg h.low.size)
  exact ⟨hs.below hb, hb⟩

set_option maxHeartbeats 2000000 in
theorem cut_walk (a : Option Addr) (cap : Nat) (l : List Ef) (n now : Int) (w : World) (h : SlP LE w a cap l) (hm : ∀ y ∈ l, y.order.size ≤ maxLen) : Calls Try.prog 8 #[.slice a l.length cap, .int .i64 n, .int .i64 now] w (Tell true w) := by
  have H := Lib.hid h
  have hlm := h.len
  have hca := h.cap
  unfold maxLen at hlm
  clear h
  go_enter Try.func8, Try.ntmps8
  go_wp2_with fail
  refine (alive_any _).mono ?_
  rintro x W1 ⟨rfl, b1⟩
  have K1 : Hid (CutI w a cap l W1) := Lib.hid ⟨H.out.below b1, b1⟩
  clear b1
  by_cases hl : 60 < l.length
  · have hl1 : (60 : Int) < (l.length : Int) := by omega
    go_wp2_with fail
    go_ret
    exact ⟨rfl, K1.out.low⟩
  · have CR := Lib.hid (obRight_any a cap l W1 K1.out.sl hm)
    go_wp2_with fail
    refine CR.out.mono ?_
    rintro x W2 ⟨rfl, b2⟩
    have K2 := Lib.hid (K1.out.below b2)
    clear K1 b2 CR
    cases hr : rightE l with
    | false =>
      go_wp2_with fail
      go_ret
      exact ⟨rfl, K2.out.low⟩
    | true =>
      have HR := Lib.hid hr
      clear hr
      by_cases hn : n < 0
      · go_wp2_with fail
        go_ret
        exact ⟨rfl, K2.out.low⟩
      · have hl60 : l.length ≤ 60 := by omega
        have HL := Lib.hid (boxL_len HR.out (by omega))
        have HY := Lib.hid (boxL_bytes l)
        have HC := Lib.hid (fun m hm => boxO_cut HR.out (by omega) (n := m) hm)
        have CP : Hid (Calls Try.prog 28 #[.slice none 0 0, .slice a l.length cap] W2 (OwnPost (boxL l) W2)) := Lib.hid (obPut_any none a 0 cap [] l W2 (BytesP.nil _ _ _) K2.out.sl HR.out (by simp) (by omega))
        generalize boxL l = B at *
        go_wp2_with fail
        refine CP.out.mono ?_
        rintro x W3 ⟨v3, rfl, o3, b3⟩
        obtain ⟨a3, c3, rfl, s3⟩ := o3.bytes HY.out
        have K3 := Lib.hid (K2.out.below b3)
        have S3 := Lib.hid s3
        have hL := HL.out
        clear o3 b3 s3 CP K2
        obtain ⟨m, rfl⟩ : ∃ m : Nat, n = (m : Int) := ⟨n.toNat, by omega⟩
        go_upto_if 33 with fail
        go_cut [8] (fun _ wx => Hid (CutI w a cap l wx))
        case first =>
          by_cases hk : B.length ≤ m
          · have hk1 : ¬ (m : Int) < (B.length : Int) := by omega
            go_wp2_with fail
            go_meet
            exact K3
          · have hk1 : (m : Int) < (B.length : Int) := by omega
            obtain ⟨a9, c9, s9, k9⟩ := slice_to S3.out.cap m (m : Int) rfl (by omega)
            have H9 := Lib.hid (k9 W3 S3.out)
            have CN := Lib.hid (new_any a9 c9 (B.take m) W3 H9.out (by rw [List.length_take]; omega))
            have HX := Lib.hid (box_no (HC.out m (by omega)))
            have hd9 : (B.take m).length ≤ 1000000 := by rw [List.length_take]; omega
            generalize B.take m = d at *
            go_wp2_with fail
            refine CN.out.mono ?_
            rintro e w7 ⟨g, rfl, r7, b7, hg7⟩
            have R7 : Hid (RdS w7 g (some d)) := Lib.hid (.inr ⟨d, 0, rfl, r7⟩)
            have K7 := Lib.hid (K3.out.below b7)
            have hgw : w.heap.size ≤ g := Nat.le_trans K3.out.low.size hg7
            have CT := Lib.hid (obTake_any w7 g (some d) R7.out (fun b hb => by injection hb with hb; subst hb; exact hd9))
            unfold TakeP at CT
            rw [HX.out.1, HX.out.2] at CT
            clear CN s9 k9 H9 r7 b7
            go_wp2_with fail
            refine CT.out.mono ?_
            rintro e w8 ⟨v8, rfl, o8, _, b8⟩
            obtain ⟨a8, c8, rfl⟩ := o8.shape
            have K8 := Lib.hid (K7.out.but H.out hgw b8)
            clear o8 b8 CT
            go_wp2_with fail
            go_meet
            exact K8
        case rest =>
          have K4 := hcut
          clear K3 S3 HC HL HY hL
          have CD := Lib.hid (due_any a cap l now wc K4.out.sl (by omega))
          have HD := Lib.hid (fun i hi => due_here (l := l) (i := i) hi (now := now))
          have HM := Lib.hid (fun i hi => due_more (l := l) (i := i) hi now)
          have HX := Lib.hid (fun y hd k hk => due_not (l := l) (now := now) (y := y) hd (k := k) hk)
          have HRD := Lib.hid (right_due HR.out now)
          have hDl : (dueE l now).length ≤ l.length := List.length_filter_le _ _
          have HDF := Lib.hid (show dueE (l.take l.length) now = dueE l now by rw [List.take_length])
          generalize hD : dueE l now = D at *
          clear hD
          go_wp2_with fail
          refine CD.out.mono ?_
          rintro x w5 ⟨v5, rfl, o5, b5⟩
          obtain ⟨a5, c5, rfl, s5⟩ := o5.sl
          have K5 := Lib.hid (K4.out.below b5)
          have S5 := Lib.hid s5
          have hc5 := s5.cap
          clear o5 b5 s5 CD K4
          go_wp2_with fail
          go_loopw [11, 53] (fun s11 s53 wr => ∃ i k : Nat, i ≤ l.length ∧ s11 = .int .i64 k ∧ s53 = .int .i64 i ∧ k ≤ D.length ∧ Hid (k = (dueE (l.take i) now).length) ∧ Hid (CutI w a cap l wr) ∧ Hid (SlP LE wr a5 c5 D)) (fun _ s53 _ => l.length - (intOf s53).toNat)
          case atStart => exact ⟨0, 0, Nat.zero_le _, rfl, rfl, Nat.zero_le _, Lib.hid (by simp [dueE]), K5, S5⟩
          case round =>
            clear K5 S5
            obtain ⟨i, k, hi, rfl, rfl, hkD, HKK, K, S⟩ := hrel
            by_cases hlt : i < l.length
            · obtain ⟨b1, o1, rfl, q1, ld1, hrest⟩ := K.out.sl.ef i hlt
              have HDi := Lib.hid (HD.out i hlt)
              have HMi := Lib.hid (HM.out i hlt)
              have bW := Lib.hid ((Below.refl wr.heap.size wr).alloc (Nat.le_refl _) (.cells (efC l[i]) 27))
              have KW := Lib.hid (K.out.below bW.out)
              have SW := Lib.hid (S.out.below bW.out)
              have RW := Lib.hid (Row.new wr (efC l[i]) 27)
              clear hrest K S bW HD HM HRD HDF
              generalize l[i] = y at *
              go_wp2_with fail
              generalize wr.alloc (.cells (efC y) 27) = W at *
              have f1 : ∀ p : Far W, LdX 27 (.pointer (some ⟨wr.heap.size, 0, none⟩)) (farOf W p) = .ok (.value (efV y)) (farOf W p) := fun p => ld_row (RW.out.below (far_below W p))
              cases hd : decide (y.due ≤ now) with
              | true =>
                obtain ⟨hk1, hk2⟩ := HDi.out hd
                rw [← HKK.out] at hk1
                have hkd : (k : Int) < (D.length : Int) := by omega
                have hk2 : D[k] = y := by
                  have := HKK.out
                  subst this
                  exact hk2
                obtain ⟨b2, o2, rfl, q2, ld2, hrest⟩ := SW.out.ef k hk1
                have f2 : ∀ p : Far W, LdX 27 (.pointer (some ⟨b2, o2 + k * 6, none⟩)) (farOf W p) = .ok (.value (efV y)) (farOf W p) := fun p => by
                  obtain ⟨b3, o3, e3, _, l3, _⟩ := (SW.out.below (far_below W p)).ef k hk1
                  injection e3 with e3
                  injection e3 with e3 e4
                  subst e3 e4
                  rw [hk2] at l3
                  exact l3
                have eq : ∀ W a b, EqX .eql 27 a b (efV y) (efV y) W = .ok (.value (.bool true)) W := fun W a b => by
                  have := eq_ef W y y a b
                  rwa [eqB_refl] at this
                have HK2 := Lib.hid (show k + 1 = (dueE (l.take (i + 1)) now).length by rw [HMi.out, hd, List.length_append, ← HKK.out]; rfl)
                clear hrest ld2 hk2
                refine wp_region_far (by kernel_rfl) (by kernel_rfl) ?_
                repeat (first | go_big_quiet_step (fail) | quiet_step (fail))
                refine wpQuiet_nil ?_
                intro _ hw'
                obtain ⟨p, hw''⟩ := hw'
                subst hw''
                have K6 := Lib.hid (KW.out.below (far_below W p))
                have S6 := Lib.hid (SW.out.below (far_below W p))
                clear f1 f2 eq KW SW RW
                go_wp2_with fail
                go_roundw
                case rel => exact ⟨i + 1, k + 1, hlt, by go_num, by go_num, hk1, HK2, K6, S6⟩
                case measure => simp [intOf]; omega
              | false =>
                have HK2 := Lib.hid (show k = (dueE (l.take (i + 1)) now).length by rw [HMi.out, hd, List.length_append, ← HKK.out]; rfl)
                have f3 : ∀ p : Far W, (farOf W p).cell? ⟨wr.heap.size, 2, none⟩ = some (.int .i64 y.due) := fun p => (RW.out.below (far_below W p)).c.2.2.1
                by_cases hk1 : k < D.length
                · have hkd : (k : Int) < (D.length : Int) := by omega
                  obtain ⟨b2, o2, rfl, q2, ld2, hrest⟩ := SW.out.ef k hk1
                  have f2 : ∀ p : Far W, LdX 27 (.pointer (some ⟨b2, o2 + k * 6, none⟩)) (farOf W p) = .ok (.value (efV D[k])) (farOf W p) := fun p => by
                    obtain ⟨b3, o3, e3, _, l3, _⟩ := (SW.out.below (far_below W p)).ef k hk1
                    injection e3 with e3
                    injection e3 with e3 e4
                    subst e3 e4
                    exact l3
                  have eq : ∀ W a b, EqX .eql 27 a b (efV D[k]) (efV y) W = .ok (.value (.bool false)) W := fun W a b => by
                    have := eq_ef W D[k] y a b
                    rwa [HX.out y hd k hk1] at this
                  clear hrest ld2 HX
                  generalize D[k] = z at *
                  refine wp_region_far (by kernel_rfl) (by kernel_rfl) ?_
                  repeat (first | go_big_quiet_step (fail) | quiet_step (fail))
                  refine wpQuiet_nil ?_
                  intro _ hw'
                  obtain ⟨p, hw''⟩ := hw'
                  subst hw''
                  have K6 := Lib.hid (KW.out.below (far_below W p))
                  have S6 := Lib.hid (SW.out.below (far_below W p))
                  have c2 := f3 p
                  clear f1 f2 f3 eq KW SW RW
                  go_wp2_with fail
                  go_roundw
                  case rel => exact ⟨i + 1, k, hlt, rfl, by go_num, hkD, HK2, K6, S6⟩
                  case measure => simp [intOf]; omega
                · have hkd : ¬ (k : Int) < (D.length : Int) := by omega
                  refine wp_region_far (by kernel_rfl) (by kernel_rfl) ?_
                  repeat (first | go_big_quiet_step (fail) | quiet_step (fail))
                  refine wpQuiet_nil ?_
                  intro _ hw'
                  obtain ⟨p, hw''⟩ := hw'
                  subst hw''
                  have K6 := Lib.hid (KW.out.below (far_below W p))
                  have S6 := Lib.hid (SW.out.below (far_below W p))
                  have c2 := f3 p
                  clear f1 f3 KW SW RW HX
                  go_wp2_with fail
                  go_roundw
                  case rel => exact ⟨i + 1, k, hlt, rfl, by go_num, hkD, HK2, K6, S6⟩
                  case measure => simp [intOf]; omega
            · obtain rfl : i = l.length := by omega
              have hkf : k = D.length := by rw [HKK.out, HDF.out]
              have hkq : ((k : Int) == (D.length : Int)) = true := by simp [hkf]
              have CF := Lib.hid (obRight_any a5 c5 D wr S.out (sizes_right HRD.out))
              rw [HRD.out] at CF
              clear hkf
              go_wp2_with fail
              refine CF.out.mono ?_
              rintro x w9 ⟨rfl, b9⟩
              have K9 := Lib.hid (K.out.below b9)
              go_wp2_with fail
              go_ret
              exact ⟨rfl, K9.out.low⟩



set_option maxRecDepth 100000 in
theorem outboxCut_lifted (os : Os) (started : os.Started) (H : Type) (enc : TypeId × Value → H) :
    ReturnsInHanded {} Try.checked os 8 .any (Rows.outboxCutSpec.pre6 enc Try.prog Try.f8 Rows.outboxCutRow.domain false) (Rows.outboxCutSpec.post enc Try.prog Try.f8 false true false false) := by
  refine returnsInHanded_of_change (C := Try.checked) own started (by kernel_rfl) Try.func8
    (ChangeSpec.witness6 (enc := enc) (C := Try.checked) false ⟨#[], #[.slice none 0 0, .int .i64 0, .int .i64 0], []⟩ 8 (by kernel_rfl) (by kernel_rfl) (by kernel_rfl) (by kernel_rfl)) ?_
  intro W base args ds gs before hval0 hW _ _
  have hval : ∀ (j : Nat) t v, Try.f8.params[j]? = some t → args[j]? = some v → Value.okWide Try.prog W .any base t v := hval0
  have hW' := hW
  obtain ⟨p, q, hA0, hV, rfl, _, _⟩ := hW
  have hA : DataW.TrodAll enc Try.prog W 0 (fun _ => true) true Try.f8.params.toList args.toList ds p := hA0
  rw [Try.params8] at hA hval
  obtain ⟨v0, vs0, d0, ds0, p0, q_0, hargs, rfl, rfl, h0, r0⟩ := trodAll_cons hA
  obtain ⟨v1, vs1, d1, ds1, p1, q_1, rfl, rfl, rfl, h1, r1⟩ := trodAll_cons r0
  obtain ⟨v2, vs2, d2, ds2, p2, q_2, rfl, rfl, rfl, h2, r2⟩ := trodAll_cons r1
  obtain ⟨rfl, rfl, rfl⟩ := trodAll_nil r2
  obtain rfl : args = #[v0, v1, v2] := by cases args; simp_all
  obtain ⟨rfl, rfl⟩ := trodVars_none hV
  clear hA0 hval0
  simp only [List.append_nil] at hW'
  obtain ⟨q0, cap0, l0, rfl, hS0, hm0⟩ := effs_of_trod (hval 0 22 v0 rfl rfl) h0
  have hlt0 : ∀ x ∈ p0, x.block < W.heap.size := fun x hx => by simpa using hW'.lt x (by simpa using (by simp [hx]))
  obtain ⟨a1, rfl, rfl, rfl, w1⟩ := open_int Try.underlying3 (hval 1 3 v1 rfl rfl) h1
  obtain ⟨a2, rfl, rfl, rfl, w2⟩ := open_int Try.underlying2 (hval 2 2 v2 rfl rfl) h2
  refine (cut_walk q0 cap0 l0 a1 a2 W hS0 hm0).mono fun e W' ⟨he, hb⟩ => ?_
  subst he
  have hT : DataW.TrodAll enc Try.prog W' 0 (fun b => decide (b < W.heap.size)) true _ _ _ _ := (trodAll_cons_mk (Below.trod laidOut (by kernel_rfl) (of_decide_eq_true (by kernel_rfl)) h0 hb hlt0) (trodAll_cons_mk (shut_int Try.underlying3 w1) (trodAll_cons_mk (shut_int Try.underlying2 w2) trodAll_mk0)))
  simp only [List.append_nil] at hT
  exact ⟨_, rfl, _, _, _, [], p0, [], hW', trodAll_mk1 (shut_bool Try.underlying4 _), hT, rfl, hb.frame _, fun h => by cases h⟩

theorem outboxCut_holds : Rows.OutboxCutSaid :=
  OpenClaim.holds_of_wide 8 Try.f8 rfl rfl rfl rfl rfl rfl rfl ⟨rfl, rfl, rfl, rfl, rfl⟩ rfl rfl rfl rfl rfl (by kernel_rfl) Try.func8 (by kernel_rfl)
    (of_decide_eq_true (by kernel_rfl)) (by unfold Func.isWrapper; first | (rw [if_pos (by decide +kernel)]; kernel_rfl) | (rw [if_neg (by decide +kernel)]; exact ⟨rfl, rfl⟩))
    (fun os started H enc _ => outboxCut_lifted os started H enc)
#print axioms outboxCut_holds


end Go.Proofs.Ytciijkognhdddaa
