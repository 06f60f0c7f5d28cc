/- LinesMerged: the law returns true for any lines and any place: what is merged already stays, and merged in two parts, and these together, it is the same. It has no conditions. -/
import Derived.Test.YtijcgioggmphkaaArgs
import Derived.Test.YtijcgioggmphkaaApp
namespace Go.Proofs.Ytijcgioggmphkaa
open Go.ChangeShapes Go.WideShapes Go.ChangeAt Go.RowKit

set_option maxHeartbeats 2000000 in
set_option maxRecDepth 100000 in
theorem merged_walk (a : Option Addr) (cap : Nat) (l : List Ln) (at_ : Int) (w : World) (h : LnsP w a cap l) (hm : l.length ≤ maxLen) : Calls Try.prog 9 #[.slice a l.length cap, .int .i64 at_] w (TrueB w) := by
  have H := Lib.hid h
  have HM := Lib.hid hm
  clear h
  unfold maxLen at hm
  cases ht : decide (50 < (l.length : Int)) with
  | true =>
    go_enter Try.func9, Try.ntmps9
    go_wp2_with fail
    refine (alive_any _).mono ?_
    rintro e w1 ⟨rfl, b1⟩
    go_wp2_with fail
    go_ret
    exact ⟨rfl, b1⟩
  | false =>
    have hl : l.length ≤ 50 := by simp at ht; omega
    have CA := Lib.hid (fun W (hw : LnsP W a cap l) => merge_any a cap l W hw (by omega))
    rcases mergeV_cases l with ⟨hv, he, _⟩ | ⟨hM, he⟩
    · have HV := Lib.hid hv
      have HE := Lib.hid he
      clear hv he
      go_enter Try.func9, Try.ntmps9
      go_wp2_with fail
      refine (alive_any _).mono ?_
      rintro e w1 ⟨rfl, b1⟩
      go_wp2_with fail
      refine (CA.out _ (H.out.below b1)).mono ?_
      rintro e w2 ⟨a2, c2, rfl, i2, b2⟩
      rw [HE.out, HV.out]
      clear i2
      have d2 := b1.trans (b2.mono b1.size)
      go_wp2_with fail
      go_ret
      exact ⟨rfl, d2⟩
    · have HE := Lib.hid he
      have HIM := Lib.hid hM
      have hne : l ≠ [] := by
        intro e
        subst e
        exact hM.ne merge_none.1
      have hn1 : 1 ≤ l.length := List.length_pos_iff.2 hne
      obtain ⟨b, o, rfl, _, _⟩ := H.out.cell hne
      have hcap := H.out.cap
      have HP := Lib.hid (fun k hk => parts HIM.out k hk)
      have CM := Lib.hid (fun a cap W (hw : LnsP W a cap (mergeV l)) => merge_any a cap (mergeV l) W hw (by have := mergeV_le l; omega))
      have CS := Lib.hid (fun a1 a2 c1 c2 W (h1 : LnsP W a1 c1 (mergeV l)) (h2 : LnsP W a2 c2 (mergeV l)) => same_any a1 a2 c1 c2 (mergeV l) W h1 h2 (by have := mergeV_le l; omega))
      have hml := mergeV_le l
      generalize hvm : mergeV l = m at *
      have HVM := Lib.hid hvm
      clear hM he hne hvm
      obtain ⟨k, hkd⟩ : ∃ k : Nat, max 0 (min at_ (l.length : Int)) = (k : Int) := ⟨(max 0 (min at_ (l.length : Int))).toNat, by omega⟩
      have hkn : k ≤ l.length := by omega
      have PA := HP.out k hkn
      have HPA := Lib.hid PA
      have HTL := Lib.hid (show (l.take k).length = k by rw [List.length_take]; omega)
      have HDL := Lib.hid (show (l.drop k).length = l.length - k from List.length_drop)
      have C1 := Lib.hid (fun W (hw : LnsP W (some ⟨b, o, none⟩) cap l) => merge_any (some ⟨b, o, none⟩) cap (l.take k) W (hw.take k) (by rw [HTL.out]; omega))
      rw [HTL.out] at C1
      have t1 : (mergeE (l.take k) != 0) = ((k : Int) == 0) := by
        rw [PA.one]
        by_cases h : k = 0
        · subst h; rfl
        · rw [if_neg h]
          have : ((k : Int) == 0) = false := by simp; omega
          rw [this]; rfl
      have t2 : (mergeE (l.drop k) != 0) = ((k : Int) == (l.length : Int)) := by
        rw [PA.two]
        by_cases h : k = l.length
        · rw [if_pos h]
          have : ((k : Int) == (l.length : Int)) = true := by simp; omega
          rw [this]; rfl
        · rw [if_neg h]
          have : ((k : Int) == (l.length : Int)) = false := by simp; omega
          rw [this]; rfl
      have T1 := Lib.hid t1
      have T2 := Lib.hid t2
      have HKD := Lib.hid hkd
      clear PA t1 t2 hkd
      go_enter Try.func9, Try.ntmps9
      go_wp2_with fail
      refine (alive_any _).mono ?_
      rintro e w1 ⟨rfl, b1⟩
      go_wp2_with fail
      refine (CA.out _ (H.out.below b1)).mono ?_
      rintro e w2 ⟨a2, c2, rfl, i2, b2⟩
      rw [HVM.out] at i2
      rw [HVM.out, HE.out]
      have d2 := b1.trans (b2.mono b1.size)
      have I2 := Lib.hid i2
      clear i2
      go_wp2_with fail
      refine (CM.out _ _ _ I2.out).mono ?_
      rintro e w3 ⟨a3, c3, rfl, i3, b3⟩
      rw [HPA.out.again] at i3
      rw [HPA.out.again, HPA.out.againE]
      have I3 := Lib.hid i3
      have d3 := d2.trans (b3.mono d2.size)
      have J3 := Lib.hid (I2.out.below b3)
      clear i3
      have hkd := HKD.out
      go_wp2_with fail
      clear hkd
      refine (C1.out _ (H.out.below d3)).mono ?_
      rintro e w4 ⟨a4, c4, rfl, i4, b4⟩
      have I4 := Lib.hid i4
      have d4 := d3.trans (b4.mono d3.size)
      have K3 := Lib.hid (I3.out.below b4)
      have J4 := Lib.hid (J3.out.below b4)
      clear i4
      by_cases hck : cap = k
      · have hck2 : k = cap := hck.symm
        clear hck
        subst hck2
        have hd0 : (l.drop k).length = 0 := by rw [HDL.out]; omega
        have C2 := Lib.hid (fun W (_ : LnsP W (some ⟨b, o, none⟩) k l) => merge_any (some ⟨b, o, none⟩) 0 (l.drop k) W (by rw [show l.drop k = [] from List.drop_eq_nil_of_le (by omega)]; exact LnsP.nil _ _ _) (by rw [hd0]; omega))
        rw [hd0] at C2
        clear hd0
        go_wp2_with fail
        (with_reducible refine (C2.out _ (H.out.below d4)).mono ?_)
        rintro e w5 ⟨a5, c5, rfl, i5, b5⟩
        have I5 := Lib.hid i5
        have d5 := d4.trans (b5.mono d4.size)
        have L3 := Lib.hid (K3.out.below b5)
        have J5 := Lib.hid (J4.out.below b5)
        have K4 := Lib.hid (I4.out.below b5)
        clear i5
        have t1 := T1.out
        have t2 := T2.out
        go_wp2_with fail
        refine (CS.out _ _ _ _ _ L3.out J5.out).mono ?_
        rintro e w6 ⟨rfl, b6⟩
        have d6 := d5.trans (b6.mono d5.size)
        have J6 := Lib.hid (J5.out.below b6)
        have K5 := Lib.hid (K4.out.below b6)
        have K6 := Lib.hid (I5.out.below b6)
        have B7 := Lib.hid (show Below w6.heap.size w6 (w6.alloc (.cells #[] 27)) from (Below.refl _ _).alloc (Nat.le_refl _) _)
        have d7 := d6.alloc d6.size (.cells #[] 27)
        have O7 := Lib.hid (own_fresh w6 w6.heap.size (Nat.le_refl _))
        have K7 := Lib.hid (K5.out.below B7.out)
        have K8 := Lib.hid (K6.out.below B7.out)
        have J7 := Lib.hid (J6.out.below B7.out)
        have S1 := Lib.hid (show ∀ x ∈ (mergeV (l.take k)) ++ (mergeV (l.drop k)), x.sku.size ≤ maxLen from fun x hx => by
          rcases List.mem_append.1 hx with hx | hx
          · exact I4.out.size x hx
          · exact I5.out.size x hx)
        have hl1 := HPA.out.len1
        have hl2 := HPA.out.len2
        have CB := Lib.hid (fun a cap W (hw : LnsP W a cap ((mergeV (l.take k)) ++ (mergeV (l.drop k)))) => merge_any a cap ((mergeV (l.take k)) ++ (mergeV (l.drop k))) W hw (by rw [List.length_append]; omega))
        have VB := Lib.hid HPA.out.both
        have EB := Lib.hid HPA.out.bothE
        clear B7 K8 J7
        go_wp2_with (first | (at_builtin; refine wpList_append_lines rfl _ _ rfl w6.heap.size (.slice (some ⟨w6.heap.size, 0, none⟩) 0 0) [] (mergeV (l.take k)) rfl O7.out (by intro e; cases e) a4 c4 rfl K7.out (by rw [List.length_nil]; omega) (by simp) ?_; intro v8 w8 o8 gr8 nv8) | (at_builtin; refine wpList_append_lines rfl _ _ rfl w6.heap.size v8 ([] ++ (mergeV (l.take k))) (mergeV (l.drop k)) rfl o8 nv8 a5 c5 rfl (K6.out.below (Below.grown (show Below w6.heap.size w6 (w6.alloc (.cells #[] 27)) from (Below.refl _ _).alloc (Nat.le_refl _) _) gr8 (by simp) (fun g hg => (World.ownsRow.lt O7.out g hg).1))) (by rw [List.nil_append]; omega) (by have := gr8.size; simp at this; omega) ?_; intro v9 w9 o9 gr9 nv9))
        have B8 := Below.grown (show Below w6.heap.size w6 (w6.alloc (.cells #[] 27)) from (Below.refl _ _).alloc (Nat.le_refl _) _) gr8 (by simp) (fun g hg => (World.ownsRow.lt O7.out g hg).1)
        have B9 := Below.grown B8 gr9 (by have := gr8.size; simp at this; omega) (fun g hg => (World.ownsRow.lt o8 g hg).1)
        rw [List.nil_append] at o9
        obtain ⟨a9, c9, e9, i9⟩ := o9.lns S1.out
        subst e9
        have I9 := Lib.hid i9
        have d9 := d6.trans (B9.mono d6.size)
        have J9 := Lib.hid (J6.out.below B9)
        clear i9 o8 o9 gr8 gr9 nv8 nv9 B8 B9
        refine (CB.out _ _ _ I9.out).mono ?_
        rintro e w10 ⟨a10, c10, rfl, i10, b10⟩
        rw [VB.out] at i10
        rw [VB.out, EB.out]
        have I10 := Lib.hid i10
        have d10 := d9.trans (b10.mono d9.size)
        have J10 := Lib.hid (J9.out.below b10)
        clear i10
        go_wp2_with fail
        refine (CS.out _ _ _ _ _ I10.out J10.out).mono ?_
        rintro e w11 ⟨rfl, b11⟩
        have d11 := d10.trans (b11.mono d10.size)
        go_wp2_with fail
        go_ret
        exact ⟨rfl, d11⟩
      · have C2 := Lib.hid (fun W (hw : LnsP W (some ⟨b, o, none⟩) cap l) => merge_any (some ⟨b, o + k * 3, none⟩) (cap - k) (l.drop k) W (hw.drop k) (by rw [HDL.out]; omega))
        rw [HDL.out] at C2
        go_wp2_with fail
        (with_reducible refine (C2.out _ (H.out.below d4)).mono ?_)
        rintro e w5 ⟨a5, c5, rfl, i5, b5⟩
        have I5 := Lib.hid i5
        have d5 := d4.trans (b5.mono d4.size)
        have L3 := Lib.hid (K3.out.below b5)
        have J5 := Lib.hid (J4.out.below b5)
        have K4 := Lib.hid (I4.out.below b5)
        clear i5
        have t1 := T1.out
        have t2 := T2.out
        go_wp2_with fail
        refine (CS.out _ _ _ _ _ L3.out J5.out).mono ?_
        rintro e w6 ⟨rfl, b6⟩
        have d6 := d5.trans (b6.mono d5.size)
        have J6 := Lib.hid (J5.out.below b6)
        have K5 := Lib.hid (K4.out.below b6)
        have K6 := Lib.hid (I5.out.below b6)
        have B7 := Lib.hid (show Below w6.heap.size w6 (w6.alloc (.cells #[] 27)) from (Below.refl _ _).alloc (Nat.le_refl _) _)
        have d7 := d6.alloc d6.size (.cells #[] 27)
        have O7 := Lib.hid (own_fresh w6 w6.heap.size (Nat.le_refl _))
        have K7 := Lib.hid (K5.out.below B7.out)
        have K8 := Lib.hid (K6.out.below B7.out)
        have J7 := Lib.hid (J6.out.below B7.out)
        have S1 := Lib.hid (show ∀ x ∈ (mergeV (l.take k)) ++ (mergeV (l.drop k)), x.sku.size ≤ maxLen from fun x hx => by
          rcases List.mem_append.1 hx with hx | hx
          · exact I4.out.size x hx
          · exact I5.out.size x hx)
        have hl1 := HPA.out.len1
        have hl2 := HPA.out.len2
        have CB := Lib.hid (fun a cap W (hw : LnsP W a cap ((mergeV (l.take k)) ++ (mergeV (l.drop k)))) => merge_any a cap ((mergeV (l.take k)) ++ (mergeV (l.drop k))) W hw (by rw [List.length_append]; omega))
        have VB := Lib.hid HPA.out.both
        have EB := Lib.hid HPA.out.bothE
        clear B7 K8 J7
        go_wp2_with (first | (at_builtin; refine wpList_append_lines rfl _ _ rfl w6.heap.size (.slice (some ⟨w6.heap.size, 0, none⟩) 0 0) [] (mergeV (l.take k)) rfl O7.out (by intro e; cases e) a4 c4 rfl K7.out (by rw [List.length_nil]; omega) (by simp) ?_; intro v8 w8 o8 gr8 nv8) | (at_builtin; refine wpList_append_lines rfl _ _ rfl w6.heap.size v8 ([] ++ (mergeV (l.take k))) (mergeV (l.drop k)) rfl o8 nv8 a5 c5 rfl (K6.out.below (Below.grown (show Below w6.heap.size w6 (w6.alloc (.cells #[] 27)) from (Below.refl _ _).alloc (Nat.le_refl _) _) gr8 (by simp) (fun g hg => (World.ownsRow.lt O7.out g hg).1))) (by rw [List.nil_append]; omega) (by have := gr8.size; simp at this; omega) ?_; intro v9 w9 o9 gr9 nv9))
        have B8 := Below.grown (show Below w6.heap.size w6 (w6.alloc (.cells #[] 27)) from (Below.refl _ _).alloc (Nat.le_refl _) _) gr8 (by simp) (fun g hg => (World.ownsRow.lt O7.out g hg).1)
        have B9 := Below.grown B8 gr9 (by have := gr8.size; simp at this; omega) (fun g hg => (World.ownsRow.lt o8 g hg).1)
        rw [List.nil_append] at o9
        obtain ⟨a9, c9, e9, i9⟩ := o9.lns S1.out
        subst e9
        have I9 := Lib.hid i9
        have d9 := d6.trans (B9.mono d6.size)
        have J9 := Lib.hid (J6.out.below B9)
        clear i9 o8 o9 gr8 gr9 nv8 nv9 B8 B9
        refine (CB.out _ _ _ I9.out).mono ?_
        rintro e w10 ⟨a10, c10, rfl, i10, b10⟩
        rw [VB.out] at i10
        rw [VB.out, EB.out]
        have I10 := Lib.hid i10
        have d10 := d9.trans (b10.mono d9.size)
        have J10 := Lib.hid (J9.out.below b10)
        clear i10
        go_wp2_with fail
        refine (CS.out _ _ _ _ _ I10.out J10.out).mono ?_
        rintro e w11 ⟨rfl, b11⟩
        have d11 := d10.trans (b11.mono d10.size)
        go_wp2_with fail
        go_ret
        exact ⟨rfl, d11⟩



set_option maxRecDepth 100000 in
theorem linesMerged_lifted (os : Os) (started : os.Started) (H : Type) (enc : TypeId × Value → H) :
    ReturnsInHanded {} Try.checked os 9 .any (Rows.linesMergedSpec.pre6 enc Try.prog Try.f9 Rows.linesMergedRow.domain false) (Rows.linesMergedSpec.post enc Try.prog Try.f9 false true false false) := by
  refine returnsInHanded_of_change (C := Try.checked) own started (by kernel_rfl) Try.func9
    (ChangeSpec.witness6 (enc := enc) (C := Try.checked) false ⟨#[], #[.slice none 0 0, .int .i64 0], []⟩ 8 (by kernel_rfl) (by kernel_rfl) (by kernel_rfl) (by kernel_rfl)) ?_
  intro W base args ds gs before hval0 hW _ _
  have hval : ∀ (j : Nat) t v, Try.f9.params[j]? = some t → args[j]? = some v → Value.okWide Try.prog W .any base t v := hval0
  have hW' := hW
  obtain ⟨p, q, hA0, hV, rfl, _, _⟩ := hW
  have hA : DataW.TrodAll enc Try.prog W 0 (fun _ => true) true Try.f9.params.toList args.toList ds p := hA0
  rw [Try.params9] at hA hval
  obtain ⟨v0, vs0, d0, ds0, p0, q_0, hargs, rfl, rfl, h0, r0⟩ := trodAll_cons hA
  obtain ⟨v1, vs1, d1, ds1, p1, q_1, rfl, rfl, rfl, h1, r1⟩ := trodAll_cons r0
  obtain ⟨rfl, rfl, rfl⟩ := trodAll_nil r1
  obtain rfl : args = #[v0, v1] := by cases args; simp_all
  obtain ⟨rfl, rfl⟩ := trodVars_none hV
  clear hA0 hval0
  simp only [List.append_nil] at hW'
  obtain ⟨q0, cap0, l0, rfl, hS0, hm0⟩ := lns_of_trod (hval 0 22 v0 rfl rfl) h0
  have hlt0 : ∀ x ∈ p0, x.block < W.heap.size := fun x hx => by simpa using hW'.lt x (by simpa using (by simp [hx]))
  obtain ⟨a1, rfl, rfl, rfl, w1⟩ := open_int Try.underlying3 (hval 1 3 v1 rfl rfl) h1
  refine (merged_walk q0 cap0 l0 a1 W hS0 hm0.1).mono fun e W' ⟨he, hb⟩ => ?_
  subst he
  have hT : DataW.TrodAll enc Try.prog W' 0 (fun b => decide (b < W.heap.size)) true _ _ _ _ := (trodAll_cons_mk (Below.trod laidOut (by kernel_rfl) (of_decide_eq_true (by kernel_rfl)) h0 hb hlt0) (trodAll_cons_mk (shut_int Try.underlying3 w1) trodAll_mk0))
  simp only [List.append_nil] at hT
  exact ⟨_, rfl, _, _, _, [], p0, [], hW', trodAll_mk1 (shut_bool Try.underlying4 _), hT, rfl, hb.frame _, fun h => by cases h⟩

theorem linesMerged_holds : Rows.LinesMergedSaid :=
  OpenClaim.holds_of_wide 9 Try.f9 rfl rfl rfl rfl rfl rfl rfl ⟨rfl, rfl, rfl, rfl, rfl⟩ rfl rfl rfl rfl rfl (by kernel_rfl) Try.func9 (by kernel_rfl)
    (of_decide_eq_true (by kernel_rfl)) (by unfold Func.isWrapper; first | (rw [if_pos (by decide +kernel)]; kernel_rfl) | (rw [if_neg (by decide +kernel)]; exact ⟨rfl, rfl⟩))
    (fun os started H enc _ => linesMerged_lifted os started H enc)
#print axioms linesMerged_holds


end Go.Proofs.Ytijcgioggmphkaa
