/- LinesTell: the law returns true for any lines: Right, Pieces and Weight of package lines answer as the document's own words do. It has no conditions. -/
import Derived.Test.YtijcgioggmphkaaArgs
namespace Go.Proofs.Ytijcgioggmphkaa
open Go.ChangeShapes Go.WideShapes Go.ChangeAt Go.RowKit

set_option maxHeartbeats 2000000 in
theorem tell_walk (a : Option Addr) (cap : Nat) (l : List Ln) (w : World) (h : LnsP w a cap l) (hm : l.length ≤ maxLen) : Calls Try.prog 4 #[.slice a l.length cap] w (TrueB w) := by
  have H := Lib.hid h
  have HM := Lib.hid hm
  clear h
  unfold maxLen at hm
  cases ht : decide (50 < (l.length : Int)) with
  | true =>
    go_enter Try.func4, Try.ntmps4
    go_wp2_with fail
    refine (alive_any _).mono ?_
    rintro e w1 ⟨rfl, b1⟩
    go_wp2_with fail
    go_ret
    exact ⟨rfl, b1⟩
  | false =>
    have C1 := Lib.hid (fun W (hW : LnsP W a cap l) => right14_any a cap l W hW HM.out)
    have C2 := Lib.hid (fun W (hW : LnsP W a cap l) => refRight15_any a cap l W hW HM.out)
    have C3 := Lib.hid (fun W (hW : LnsP W a cap l) => pieces_any a cap l W hW HM.out)
    have C4 := Lib.hid (fun W (hW : LnsP W a cap l) => refPieces_any a cap l W hW HM.out)
    have C5 := Lib.hid (fun W (hW : LnsP W a cap l) => weight_any a cap l W hW HM.out)
    have C6 := Lib.hid (fun W (hW : LnsP W a cap l) => refWeight_any a cap l W hW HM.out)
    generalize rightLB l = r at *
    generalize piecesV l = p at *
    generalize weightV l = t at *
    go_enter Try.func4, Try.ntmps4
    go_wp2_with fail
    refine (alive_any _).mono ?_
    rintro e w1 ⟨rfl, b1⟩
    go_wp2_with fail
    refine (C1.out _ (H.out.below b1)).mono ?_
    rintro e w2 ⟨rfl, b2⟩
    have d2 := b1.trans (b2.mono b1.size)
    go_wp2_with fail
    refine (C2.out _ (H.out.below d2)).mono ?_
    rintro e w3 ⟨rfl, b3⟩
    have d3 := d2.trans (b3.mono d2.size)
    go_wp2_with fail
    refine (C3.out _ (H.out.below d3)).mono ?_
    rintro e w4 ⟨rfl, b4⟩
    have d4 := d3.trans (b4.mono d3.size)
    go_wp2_with fail
    refine (C4.out _ (H.out.below d4)).mono ?_
    rintro e w5 ⟨rfl, b5⟩
    have d5 := d4.trans (b5.mono d4.size)
    go_wp2_with fail
    refine (C5.out _ (H.out.below d5)).mono ?_
    rintro e w6 ⟨rfl, b6⟩
    have d6 := d5.trans (b6.mono d5.size)
    go_wp2_with fail
    refine (C6.out _ (H.out.below d6)).mono ?_
    rintro e w7 ⟨rfl, b7⟩
    have d7 := d6.trans (b7.mono d6.size)
    go_wp2_with fail
    go_ret
    exact ⟨rfl, d7⟩



set_option maxRecDepth 100000 in
theorem linesTell_lifted (os : Os) (started : os.Started) (H : Type) (enc : TypeId × Value → H) :
    ReturnsInHanded {} Try.checked os 4 .any (Rows.linesTellSpec.pre6 enc Try.prog Try.f4 Rows.linesTellRow.domain false) (Rows.linesTellSpec.post enc Try.prog Try.f4 false true false false) := by
  refine returnsInHanded_of_change (C := Try.checked) own started (by kernel_rfl) Try.func4
    (ChangeSpec.witness6 (enc := enc) (C := Try.checked) false ⟨#[], #[.slice none 0 0], []⟩ 8 (by kernel_rfl) (by kernel_rfl) (by kernel_rfl) (by kernel_rfl)) ?_
  intro W base args ds gs before hval0 hW _ _
  have hval : ∀ (j : Nat) t v, Try.f4.params[j]? = some t → args[j]? = some v → Value.okWide Try.prog W .any base t v := hval0
  have hW' := hW
  obtain ⟨p, q, hA0, hV, rfl, _, _⟩ := hW
  have hA : DataW.TrodAll enc Try.prog W 0 (fun _ => true) true Try.f4.params.toList args.toList ds p := hA0
  rw [Try.params4] at hA hval
  obtain ⟨v0, vs0, d0, ds0, p0, q_0, hargs, rfl, rfl, h0, r0⟩ := trodAll_cons hA
  obtain ⟨rfl, rfl, rfl⟩ := trodAll_nil r0
  obtain rfl : args = #[v0] := by cases args; simp_all
  obtain ⟨rfl, rfl⟩ := trodVars_none hV
  clear hA0 hval0
  simp only [List.append_nil] at hW'
  obtain ⟨q0, cap0, l0, rfl, hS0, hm0⟩ := lns_of_trod (hval 0 22 v0 rfl rfl) h0
  have hlt0 : ∀ x ∈ p0, x.block < W.heap.size := fun x hx => by simpa using hW'.lt x (by simpa using (by simp [hx]))
  refine (tell_walk q0 cap0 l0 W hS0 hm0.1).mono fun e W' ⟨he, hb⟩ => ?_
  subst he
  have hT : DataW.TrodAll enc Try.prog W' 0 (fun b => decide (b < W.heap.size)) true _ _ _ _ := (trodAll_cons_mk (Below.trod laidOut (by kernel_rfl) (of_decide_eq_true (by kernel_rfl)) h0 hb hlt0) trodAll_mk0)
  simp only [List.append_nil] at hT
  exact ⟨_, rfl, _, _, _, [], p0, [], hW', trodAll_mk1 (shut_bool Try.underlying4 _), hT, rfl, hb.frame _, fun h => by cases h⟩

theorem linesTell_holds : Rows.LinesTellSaid :=
  OpenClaim.holds_of_wide 4 Try.f4 rfl rfl rfl rfl rfl rfl rfl ⟨rfl, rfl, rfl, rfl, rfl⟩ rfl rfl rfl rfl rfl (by kernel_rfl) Try.func4 (by kernel_rfl)
    (of_decide_eq_true (by kernel_rfl)) (by unfold Func.isWrapper; first | (rw [if_pos (by decide +kernel)]; kernel_rfl) | (rw [if_neg (by decide +kernel)]; exact ⟨rfl, rfl⟩))
    (fun os started H enc _ => linesTell_lifted os started H enc)
#print axioms linesTell_holds


end Go.Proofs.Ytijcgioggmphkaa
