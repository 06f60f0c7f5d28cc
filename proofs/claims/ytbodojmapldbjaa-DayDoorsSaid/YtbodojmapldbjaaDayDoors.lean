/- DayDoors: the law returns true for any numbers: Doors of package day answers as the document's own words do, and leaves what it is given as it was. It has no conditions. -/
import Derived.Test.YtbodojmapldbjaaArgs
import Derived.Laws.AppendOwnNone
namespace Go.Proofs.Ytbodojmapldbjaa
open Go.ChangeShapes Go.WideShapes Go.ChangeAt Go.RowKit

set_option maxHeartbeats 4000000 in
theorem doors_walk (a : Option Addr) (cap : Nat) (l : List Int) (w : World) (h : IntsP w a cap l) (hm : l.length ≤ maxLen) (hn : a = none → cap = 0) : Calls Try.prog 4 #[.slice a l.length cap] w (TrueB w) := by
  obtain ⟨i0, hi, hz0, hz1, hz2⟩ := info_parts Try.info3
  have H := Lib.hid h
  clear h
  have HM := Lib.hid hm
  unfold maxLen at hm
  cases ht : decide (200 < (l.length : Int)) with
  | true =>
    go_enter Try.func4, Try.ntmps4
    go_wp2_with fail
    refine (alive_any _).mono ?_
    rintro e w1 ⟨rfl, b1⟩
    go_wp2_with fail
    go_ret
    exact ⟨rfl, b1⟩
  | false =>
    have hl : l.length ≤ 200 := by simp at ht; omega
    have C1 := Lib.hid (fun a cap W (hw : IntsP W a cap l) => doors_any a cap l W hw HM.out)
    have C2 := Lib.hid (fun a cap W (hw : IntsP W a cap l) => refDoors_any a cap l W hw HM.out)
    have C3 := Lib.hid (fun a1 a2 c1 c2 W (h1 : IntsP W a1 c1 (doorsV l)) (h2 : IntsP W a2 c2 (doorsV l)) => same_any a1 a2 c1 c2 (doorsV l) W h1 h2 (by have := doorsV_len l; unfold maxLen; omega))
    have C4 := Lib.hid (fun a1 a2 c1 c2 W (h1 : IntsP W a1 c1 l) (h2 : IntsP W a2 c2 l) => same_any a1 a2 c1 c2 l W h1 h2 HM.out)
    cases a with
    | none =>
      have hc0 := hn rfl
      subst hc0
      have hl0 : l = [] := List.eq_nil_of_length_eq_zero (by have := H.out.cap; omega)
      subst hl0
      clear hn
      go_enter Try.func4, Try.ntmps4
      go_wp2_with fail
      refine (alive_any _).mono ?_
      rintro e w1 ⟨rfl, b1⟩
      have OE := Lib.hid (own_empty w1)
      go_wp2_with (at_builtin; go_must (refine wpList_append_own_none rfl _ _ 22 rfl w1.heap.size 3 i0 1 Try.underlying22 hi _ _ _ rfl OE.out rfl ?_))
      have I3 := Lib.hid (show IntsP (w1.alloc (.cells #[] 3)) (some ⟨w1.heap.size, 0, none⟩) 0 [] from IntsP.nil _ _ _)
      have b3 := b1.alloc b1.size (.cells #[] 3)
      refine (C1.out _ _ _ I3.out).mono ?_
      rintro e w4 ⟨a4, c4, rfl, i4, b4⟩
      have I4 := Lib.hid i4
      have b5 := b3.trans (b4.mono b3.size)
      clear i4
      go_wp2_with fail
      refine (C2.out _ _ _ (H.out.below b5)).mono ?_
      rintro e w5 ⟨a5, c5, rfl, i5, b6⟩
      have I5 := Lib.hid i5
      have b7 := b5.trans (b6.mono b5.size)
      clear i5
      go_wp2_with fail
      refine (C3.out _ _ _ _ _ (I4.out.below b6) I5.out).mono ?_
      rintro e w6 ⟨rfl, b8⟩
      have b9 := b7.trans (b8.mono b7.size)
      have b10 := b4.trans (b6.mono b4.size)
      have b11 := b10.trans (b8.mono b10.size)
      generalize doorsE [] = E at *
      generalize doorsV [] = D at *
      go_wp2_with fail
      refine (C4.out _ _ _ _ _ (I3.out.below b11) (H.out.below b9)).mono ?_
      rintro e w7 ⟨rfl, b12⟩
      have b13 := b9.trans (b12.mono b9.size)
      go_wp2_with fail
      go_ret
      exact ⟨rfl, b13⟩
    | some ad =>
      have HN := Lib.hid (show ∀ W, IntsP W (some ad) cap l → ∀ j u, (l.map iv)[j]? = some u → W.cell? (ad.add j) = some u by
        intro W hW j u hj
        rw [List.getElem?_map] at hj
        obtain ⟨x, hx, rfl⟩ := Option.map_eq_some_iff.1 hj
        have hne : l ≠ [] := by intro e; subst e; simp at hx
        obtain ⟨b, o, e, _, hc⟩ := hW.cell hne
        injection e with e
        subst e
        rw [Addr.add_lit]
        exact hc j x hx)
      clear hn
      go_enter Try.func4, Try.ntmps4
      go_wp2_with fail
      refine (alive_any _).mono ?_
      rintro e w1 ⟨rfl, b1⟩
      have OE := Lib.hid (own_empty w1)
      have b2 := b1.alloc b1.size (.cells #[] 3)
      have I1 := Lib.hid (H.out.below b2)
      go_wp2_with (at_builtin; go_must (refine wpList_append_own _ rfl _ _ 22 rfl w1.heap.size 3 i0 (.int .i64 0) 1 8 Try.underlying22 hi hz0 hz1 hz2 rfl (by decide) _ _ _ rfl OE.out ad l.length cap (l.map iv) rfl (by simp) (HN.out _ I1.out) (oneCell_iv l) (by simp; unfold maxLen; omega) (by simp; omega) (by simp) ?_; intro v' w3 hown' hgrow3 hnil3))
      have b3 := Below.grown b2 hgrow3 (by have := b1.size; simp; omega) (fun k hk => Nat.le_trans b1.size (OE.out.block k hk))
      have O3 := Lib.hid (show OwnI w3 w1.heap.size v' l by unfold OwnI; simpa using hown')
      clear hown' hgrow3 hnil3
      obtain ⟨a3, c3, rfl, i3⟩ := O3.out.ints
      have I3 := Lib.hid i3
      clear i3
      go_wp2_with fail
      refine (C1.out _ _ _ I3.out).mono ?_
      rintro e w4 ⟨a4, c4, rfl, i4, b4⟩
      have I4 := Lib.hid i4
      have b5 := b3.trans (b4.mono b3.size)
      clear i4
      go_wp2_with fail
      refine (C2.out _ _ _ (H.out.below b5)).mono ?_
      rintro e w5 ⟨a5, c5, rfl, i5, b6⟩
      have I5 := Lib.hid i5
      have b7 := b5.trans (b6.mono b5.size)
      clear i5
      go_wp2_with fail
      refine (C3.out _ _ _ _ _ (I4.out.below b6) I5.out).mono ?_
      rintro e w6 ⟨rfl, b8⟩
      have b9 := b7.trans (b8.mono b7.size)
      have b10 := b4.trans (b6.mono b4.size)
      have b11 := b10.trans (b8.mono b10.size)
      generalize doorsE l = E at *
      generalize doorsV l = D at *
      go_wp2_with fail
      refine (C4.out _ _ _ _ _ (I3.out.below b11) (H.out.below b9)).mono ?_
      rintro e w7 ⟨rfl, b12⟩
      have b13 := b9.trans (b12.mono b9.size)
      go_wp2_with fail
      go_ret
      exact ⟨rfl, b13⟩



set_option maxRecDepth 100000 in
theorem dayDoors_lifted (os : Os) (started : os.Started) (H : Type) (enc : TypeId × Value → H) :
    ReturnsInHanded {} Try.checked os 4 .any (Rows.dayDoorsSpec.pre6 enc Try.prog Try.f4 Rows.dayDoorsRow.domain false) (Rows.dayDoorsSpec.post enc Try.prog Try.f4 false true false false) := by
  refine returnsInHanded_of_change (C := Try.checked) own started (by kernel_rfl) Try.func4
    (ChangeSpec.witness6 (enc := enc) (C := Try.checked) false ⟨#[], #[.slice none 0 0], []⟩ 8 (by kernel_rfl) (by kernel_rfl) (by kernel_rfl) (by kernel_rfl)) ?_
  intro W base args ds gs before hval0 hW _ _
  have hval : ∀ (j : Nat) t v, Try.f4.params[j]? = some t → args[j]? = some v → Value.okWide Try.prog W .any base t v := hval0
  have hW' := hW
  obtain ⟨p, q, hA0, hV, rfl, _, _⟩ := hW
  have hA : DataW.TrodAll enc Try.prog W 0 (fun _ => true) true Try.f4.params.toList args.toList ds p := hA0
  rw [Try.params4] at hA hval
  obtain ⟨v0, vs0, d0, ds0, p0, q_0, hargs, rfl, rfl, h0, r0⟩ := trodAll_cons hA
  obtain ⟨rfl, rfl, rfl⟩ := trodAll_nil r0
  obtain rfl : args = #[v0] := by cases args; simp_all
  obtain ⟨rfl, rfl⟩ := trodVars_none hV
  clear hA0 hval0
  simp only [List.append_nil] at hW'
  obtain ⟨q0, cap0, l0, rfl, hS0, hm0⟩ := ints_of_trod (hval 0 22 v0 rfl rfl) h0
  have hlt0 : ∀ x ∈ p0, x.block < W.heap.size := fun x hx => by simpa using hW'.lt x (by simpa using (by simp [hx]))
  refine (doors_walk q0 cap0 l0 W hS0 hm0.1 hm0.2).mono fun e W' ⟨he, hb⟩ => ?_
  subst he
  have hT : DataW.TrodAll enc Try.prog W' 0 (fun b => decide (b < W.heap.size)) true _ _ _ _ := (trodAll_cons_mk (Below.trod laidOut (by kernel_rfl) (of_decide_eq_true (by kernel_rfl)) h0 hb hlt0) trodAll_mk0)
  simp only [List.append_nil] at hT
  exact ⟨_, rfl, _, _, _, [], p0, [], hW', trodAll_mk1 (shut_bool Try.underlying4 _), hT, rfl, hb.frame _, fun h => by cases h⟩

theorem dayDoors_holds : Rows.DayDoorsSaid :=
  OpenClaim.holds_of_wide 4 Try.f4 rfl rfl rfl rfl rfl rfl rfl ⟨rfl, rfl, rfl, rfl, rfl⟩ rfl rfl rfl rfl rfl (by kernel_rfl) Try.func4 (by kernel_rfl)
    (of_decide_eq_true (by kernel_rfl)) (by unfold Func.isWrapper; first | (rw [if_pos (by decide +kernel)]; kernel_rfl) | (rw [if_neg (by decide +kernel)]; exact ⟨rfl, rfl⟩))
    (fun os started H enc _ => dayDoors_lifted os started H enc)
#print axioms dayDoors_holds


end Go.Proofs.Ytbodojmapldbjaa
