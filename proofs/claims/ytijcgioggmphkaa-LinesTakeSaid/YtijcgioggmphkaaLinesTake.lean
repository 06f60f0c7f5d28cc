/- LinesTake: the law returns true for any lines, any label and any number: Take of package lines answers as the document's own words do, and leaves what it is given as it was. It has no conditions. -/
import Derived.Test.YtijcgioggmphkaaArgs
import Derived.Laws.AppendOwnNone
namespace Go.Proofs.Ytijcgioggmphkaa
open Go.ChangeShapes Go.WideShapes Go.ChangeAt Go.RowKit

theorem takeV_len {l : List Ln} (hl : l.length ≤ 50) (k : ByteArray) (q : Int) : (takeV l k q).length ≤ 1000 := by
  unfold takeV
  split
  · have := takeL_len l k q
    omega
  · simp

theorem own_empty (w : World) : (w.alloc (.cells #[] 27)).ownsRow w.heap.size 27 3 (.slice (some ⟨w.heap.size, 0, none⟩) 0 0) 0 [] := World.ownsRow_made w #[] 0 (Nat.le_refl _) (Nat.zero_le _) (by simp)

set_option maxHeartbeats 4000000 in
theorem take_walk (a : Option Addr) (cap : Nat) (l : List Ln) (k : ByteArray) (q : Int) (w : World) (h : LnsP w a cap l) (hm : l.length ≤ maxLen) (hn : a = none → cap = 0) : Calls Try.prog 6 #[.slice a l.length cap, .string k, .int .i64 q] w (TrueB w) := by
  obtain ⟨i0, hi0, hz0, hzs, hzb⟩ := info_parts Try.info27
  have HI := Lib.hid (And.intro hi0 (And.intro hz0 (And.intro hzs hzb)))
  have H := Lib.hid h
  clear h hi0 hz0 hzs hzb
  have HM := Lib.hid hm
  unfold maxLen at hm
  cases ht : decide (50 < (l.length : Int)) with
  | true =>
    go_enter Try.func6, Try.ntmps6
    go_wp2_with fail
    refine (alive_any _).mono ?_
    rintro e w1 ⟨rfl, b1⟩
    go_wp2_with fail
    go_ret
    exact ⟨rfl, b1⟩
  | false =>
    have hl : l.length ≤ 50 := by simp at ht; omega
    have C1 := Lib.hid (fun a cap W (hw : LnsP W a cap l) => take_any a cap l k q W hw (by omega))
    have C2 := Lib.hid (fun a cap W (hw : LnsP W a cap l) => refTake_any a cap l k q W hw (by omega))
    have HVL := Lib.hid (show (takeV l k q).length ≤ 1000 from takeV_len hl k q)
    have C3 := Lib.hid (fun a1 a2 c1 c2 W (h1 : LnsP W a1 c1 (takeV l k q)) (h2 : LnsP W a2 c2 (takeV l k q)) => same_any a1 a2 c1 c2 (takeV l k q) W h1 h2 (by have := HVL.out; omega))
    have C4 := Lib.hid (fun a1 a2 c1 c2 W (h1 : LnsP W a1 c1 l) (h2 : LnsP W a2 c2 l) => same_any a1 a2 c1 c2 l W h1 h2 (by omega))
    cases a with
    | none =>
      have hc0 := hn rfl
      subst hc0
      have hl0 : l = [] := List.eq_nil_of_length_eq_zero (by have := H.out.cap; omega)
      subst hl0
      clear hn
      go_enter Try.func6, Try.ntmps6
      go_wp2_with fail
      refine (alive_any _).mono ?_
      rintro e w1 ⟨rfl, b1⟩
      have OE := Lib.hid (own_empty w1)
      go_wp2_with (at_builtin; go_must (refine wpList_append_own_none rfl _ _ 22 rfl w1.heap.size 27 i0 3 Try.underlying22 HI.out.1 _ _ _ rfl OE.out rfl ?_))
      have I3 := Lib.hid (show LnsP (w1.alloc (.cells #[] 27)) (some ⟨w1.heap.size, 0, none⟩) 0 [] from LnsP.nil _ _ _)
      have b3 := b1.alloc b1.size (.cells #[] 27)
      refine (C1.out _ _ _ I3.out).mono ?_
      rintro e w4 ⟨a4, c4, rfl, i4, b4⟩
      have I4 := Lib.hid i4
      have b5 := b3.trans (b4.mono b3.size)
      clear i4
      go_wp2_with fail
      refine (C2.out _ _ _ (H.out.below b5)).mono ?_
      rintro e w5 ⟨a5, c5, rfl, i5, b6⟩
      have I5 := Lib.hid i5
      have b7 := b5.trans (b6.mono b5.size)
      clear i5
      go_wp2_with fail
      refine (C3.out _ _ _ _ _ (I4.out.below b6) I5.out).mono ?_
      rintro e w6 ⟨rfl, b8⟩
      have b9 := b7.trans (b8.mono b7.size)
      have b10 := b4.trans (b6.mono b4.size)
      have b11 := b10.trans (b8.mono b10.size)
      generalize takeE [] k q = E at *
      generalize takeV [] k q = D at *
      go_wp2_with fail
      refine (C4.out _ _ _ _ _ (I3.out.below b11) (H.out.below b9)).mono ?_
      rintro e w7 ⟨rfl, b12⟩
      have b13 := b9.trans (b12.mono b9.size)
      go_wp2_with fail
      go_ret
      exact ⟨rfl, b13⟩
    | some ad =>
      have HN := Lib.hid (show ∀ W, LnsP W (some ad) cap l → ∀ j u, (cellsL l)[j]? = some u → W.cell? (ad.add j) = some u by
        intro W hW j u hj
        have hne : l ≠ [] := by intro e; subst e; simp [cellsL] at hj
        obtain ⟨b, o, e, _, hc⟩ := hW.cell hne
        injection e with e
        subst e
        rw [Addr.add_lit]
        exact lns_cells hc j u hj)
      have HSZ := Lib.hid H.out.size
      have HCL := Lib.hid (cellsL_len l)
      clear hn
      go_enter Try.func6, Try.ntmps6
      go_wp2_with fail
      refine (alive_any _).mono ?_
      rintro e w1 ⟨rfl, b1⟩
      have OE := Lib.hid (own_empty w1)
      have b2 := b1.alloc b1.size (.cells #[] 27)
      have I1 := Lib.hid (H.out.below b2)
      go_wp2_with (at_builtin; go_must (refine wpList_append_own _ rfl _ _ 22 rfl w1.heap.size 27 i0 _ 3 32 Try.underlying22 HI.out.1 HI.out.2.1 HI.out.2.2.1 HI.out.2.2.2 rfl (by decide) _ _ _ rfl OE.out ad l.length cap (cellsL l) rfl HCL.out (HN.out _ I1.out) (cellsL_one l) (by unfold maxLen; omega) (by omega) (by simp) ?_; intro v' w3 hown' hgrow3 hnil3))
      have b3 := Below.grown b2 hgrow3 (by have := b1.size; simp; omega) (fun k hk => Nat.le_trans b1.size (World.ownsRow.lt OE.out k hk).1)
      have O3 := Lib.hid (show OwnL w3 w1.heap.size v' l by unfold OwnL; simpa using hown')
      clear hown' hgrow3 hnil3
      obtain ⟨a3, c3, rfl, i3⟩ := O3.out.lns HSZ.out
      have I3 := Lib.hid i3
      clear i3
      go_wp2_with fail
      refine (C1.out _ _ _ I3.out).mono ?_
      rintro e w4 ⟨a4, c4, rfl, i4, b4⟩
      have I4 := Lib.hid i4
      have b5 := b3.trans (b4.mono b3.size)
      clear i4
      go_wp2_with fail
      refine (C2.out _ _ _ (H.out.below b5)).mono ?_
      rintro e w5 ⟨a5, c5, rfl, i5, b6⟩
      have I5 := Lib.hid i5
      have b7 := b5.trans (b6.mono b5.size)
      clear i5
      go_wp2_with fail
      refine (C3.out _ _ _ _ _ (I4.out.below b6) I5.out).mono ?_
      rintro e w6 ⟨rfl, b8⟩
      have b9 := b7.trans (b8.mono b7.size)
      have b10 := b4.trans (b6.mono b4.size)
      have b11 := b10.trans (b8.mono b10.size)
      generalize takeE l k q = E at *
      generalize takeV l k q = D at *
      go_wp2_with fail
      refine (C4.out _ _ _ _ _ (I3.out.below b11) (H.out.below b9)).mono ?_
      rintro e w7 ⟨rfl, b12⟩
      have b13 := b9.trans (b12.mono b9.size)
      go_wp2_with fail
      go_ret
      exact ⟨rfl, b13⟩



set_option maxRecDepth 100000 in
theorem linesTake_lifted (os : Os) (started : os.Started) (H : Type) (enc : TypeId × Value → H) :
    ReturnsInHanded {} Try.checked os 6 .any (Rows.linesTakeSpec.pre6 enc Try.prog Try.f6 Rows.linesTakeRow.domain false) (Rows.linesTakeSpec.post enc Try.prog Try.f6 false true false false) := by
  refine returnsInHanded_of_change (C := Try.checked) own started (by kernel_rfl) Try.func6
    (ChangeSpec.witness6 (enc := enc) (C := Try.checked) false ⟨#[], #[.slice none 0 0, .string ⟨#[]⟩, .int .i64 0], []⟩ 8 (by kernel_rfl) (by kernel_rfl) (by kernel_rfl) (by kernel_rfl)) ?_
  intro W base args ds gs before hval0 hW _ _
  have hval : ∀ (j : Nat) t v, Try.f6.params[j]? = some t → args[j]? = some v → Value.okWide Try.prog W .any base t v := hval0
  have hW' := hW
  obtain ⟨p, q, hA0, hV, rfl, _, _⟩ := hW
  have hA : DataW.TrodAll enc Try.prog W 0 (fun _ => true) true Try.f6.params.toList args.toList ds p := hA0
  rw [Try.params6] at hA hval
  obtain ⟨v0, vs0, d0, ds0, p0, q_0, hargs, rfl, rfl, h0, r0⟩ := trodAll_cons hA
  obtain ⟨v1, vs1, d1, ds1, p1, q_1, rfl, rfl, rfl, h1, r1⟩ := trodAll_cons r0
  obtain ⟨v2, vs2, d2, ds2, p2, q_2, rfl, rfl, rfl, h2, r2⟩ := trodAll_cons r1
  obtain ⟨rfl, rfl, rfl⟩ := trodAll_nil r2
  obtain rfl : args = #[v0, v1, v2] := by cases args; simp_all
  obtain ⟨rfl, rfl⟩ := trodVars_none hV
  clear hA0 hval0
  simp only [List.append_nil] at hW'
  obtain ⟨q0, cap0, l0, rfl, hS0, hm0⟩ := lns_of_trod (hval 0 22 v0 rfl rfl) h0
  have hlt0 : ∀ x ∈ p0, x.block < W.heap.size := fun x hx => by simpa using hW'.lt x (by simpa using (by simp [hx]))
  obtain ⟨a1, rfl, rfl, rfl, hs1⟩ := Go.ChangeMaps.open_string Try.underlying9 (hval 1 9 v1 rfl rfl) h1
  obtain ⟨a2, rfl, rfl, rfl, w2⟩ := open_int Try.underlying2 (hval 2 2 v2 rfl rfl) h2
  refine (take_walk q0 cap0 l0 a1 a2 W hS0 hm0.1 hm0.2).mono fun e W' ⟨he, hb⟩ => ?_
  subst he
  have hT : DataW.TrodAll enc Try.prog W' 0 (fun b => decide (b < W.heap.size)) true _ _ _ _ := (trodAll_cons_mk (Below.trod laidOut (by kernel_rfl) (of_decide_eq_true (by kernel_rfl)) h0 hb hlt0) (trodAll_cons_mk (Go.ChangeMaps.shut_string Try.underlying9 hs1) (trodAll_cons_mk (shut_int Try.underlying2 w2) trodAll_mk0)))
  simp only [List.append_nil] at hT
  exact ⟨_, rfl, _, _, _, [], p0, [], hW', trodAll_mk1 (shut_bool Try.underlying4 _), hT, rfl, hb.frame _, fun h => by cases h⟩

theorem linesTake_holds : Rows.LinesTakeSaid :=
  OpenClaim.holds_of_wide 6 Try.f6 rfl rfl rfl rfl rfl rfl rfl ⟨rfl, rfl, rfl, rfl, rfl⟩ rfl rfl rfl rfl rfl (by kernel_rfl) Try.func6 (by kernel_rfl)
    (of_decide_eq_true (by kernel_rfl)) (by unfold Func.isWrapper; first | (rw [if_pos (by decide +kernel)]; kernel_rfl) | (rw [if_neg (by decide +kernel)]; exact ⟨rfl, rfl⟩))
    (fun os started H enc _ => linesTake_lifted os started H enc)
#print axioms linesTake_holds


end Go.Proofs.Ytijcgioggmphkaa
