/- CheckTells: the law returns true for any three lists of bytes: Of tells the number of all of them as the document does, in whatever pieces. It has no conditions. -/
import Derived.Test.YtgelfopjolkfdaaArgs
namespace Go.Proofs.Ytgelfopjolkfdaa
open Go.ChangeShapes Go.WideShapes Go.ChangeAt Go.RowKit

set_option maxHeartbeats 4000000 in
theorem tells_walk (a b c : Option Addr) (ca cb cc : Nat) (k l m : List Nat) (w : World) (h1 : BytesP w a ca k) (h2 : BytesP w b cb l) (h3 : BytesP w c cc m) :
    Calls Try.prog 4 #[.slice a k.length ca, .slice b l.length cb, .slice c m.length cc] w (TrueB w) := by
  have H1 := Lib.hid h1
  have H2 := Lib.hid h2
  have H3 := Lib.hid h3
  clear h1 h2 h3
  cases t1 : decide (1000 < (k.length : Int)) with
  | true =>
    go_enter Try.func4, Try.ntmps4
    go_wp2_with fail
    refine (alive_any _).mono ?_
    rintro e w1 ⟨rfl, b1⟩
    go_wp2_with fail
    go_ret
    exact ⟨rfl, b1⟩
  | false =>
  cases t2 : decide (1000 < (l.length : Int)) with
  | true =>
    go_enter Try.func4, Try.ntmps4
    go_wp2_with fail
    refine (alive_any _).mono ?_
    rintro e w1 ⟨rfl, b1⟩
    go_wp2_with fail
    go_ret
    exact ⟨rfl, b1⟩
  | false =>
  cases t3 : decide (1000 < (m.length : Int)) with
  | true =>
    go_enter Try.func4, Try.ntmps4
    go_wp2_with fail
    refine (alive_any _).mono ?_
    rintro e w1 ⟨rfl, b1⟩
    go_wp2_with fail
    go_ret
    exact ⟨rfl, b1⟩
  | false =>
    have n1 : k.length ≤ 1000 := by simp at t1; omega
    have n2 : l.length ≤ 1000 := by simp at t2; omega
    have n3 : m.length ≤ 1000 := by simp at t3; omega
    have C4 := Lib.hid (fun W (h1 : BytesP W a ca k) (h2 : BytesP W b cb l) (h3 : BytesP W c cc m) => of_three h1 h2 h3 27)
    have hby : Bytes (k ++ (l ++ m)) := bytes_append H1.out.byte (bytes_append H2.out.byte H3.out.byte)
    go_enter Try.func4, Try.ntmps4
    go_wp2_with fail
    refine (alive_any _).mono ?_
    rintro e w1 ⟨rfl, b1⟩
    have K1 := Lib.hid (H1.out.below b1)
    have K2 := Lib.hid (H2.out.below b1)
    have K3 := Lib.hid (H3.out.below b1)
    have OE := Lib.hid (own_fresh w1 w1.heap.size (Nat.le_refl _))
    have bw := (Below.refl w1.heap.size w1).alloc (Nat.le_refl _) (.cells #[] 5)
    have G1 := Lib.hid (K1.out.below bw)
    go_wp2_with (at_builtin; go_must (refine wpList_append_bytes rfl _ _ rfl w1.heap.size (.slice (some ⟨w1.heap.size, 0, none⟩) 0 0) [] k rfl OE.out (by simp) a ca rfl G1.out (by simp; omega) bw.size ?_))
    rintro v2 w2 o2 g2 e2
    have bw2 := bw.grown g2 bw.size OE.out.row
    have O2 := Lib.hid (show OwnB w2 w1.heap.size v2 k from o2)
    have G2 := Lib.hid (K2.out.below bw2)
    clear o2 g2
    go_wp2_with (at_builtin; go_must (refine wpList_append_bytes rfl _ _ rfl w1.heap.size v2 k l rfl O2.out e2 b cb rfl G2.out (by omega) bw2.size ?_))
    rintro v3 w3 o3 g3 e3
    have bw3 := bw2.grown g3 bw2.size O2.out.row
    have O3 := Lib.hid o3
    have G3 := Lib.hid (K3.out.below bw3)
    clear o3 g3
    go_wp2_with (at_builtin; go_must (refine wpList_append_bytes rfl _ _ rfl w1.heap.size v3 (k ++ l) m rfl O3.out e3 c cc rfl G3.out (by simp; omega) bw3.size ?_))
    rintro v4 w4 o4 g4 e4
    have bw4 := bw3.grown g4 bw3.size O3.out.row
    obtain ⟨ad, cp, rfl, hB⟩ := o4.bytes hby
    have Q1 := Lib.hid (C4.out _ (K1.out.below bw4) (K2.out.below bw4) (K3.out.below bw4) _ rfl)
    have F := Lib.hid hB
    have R1 := Lib.hid (fun W (h : BytesP W ad cp (k ++ (l ++ m))) => refOf_any ad cp _ W h)
    have R2 := Lib.hid (fun W (h : BytesP W ad cp (k ++ (l ++ m))) => of_one h 27)
    clear hB o4 g4
    generalize hL : k ++ (l ++ m) = L at *
    clear hL
    generalize crc L = r at *
    have bt := b1.trans (bw4.mono b1.size)
    go_wp2_with fail
    refine Q1.out.mono ?_
    rintro e w' ⟨rfl, rfl⟩
    have bx := (Below.refl w4.heap.size w4).alloc (Nat.le_refl _) (.cells #[.slice a k.length ca, .slice b l.length cb, .slice c m.length cc] 27)
    go_wp2_with fail
    refine (R1.out _ (F.out.below bx)).mono ?_
    rintro e w' ⟨rfl, rfl⟩
    go_wp2_with fail
    refine (R2.out _ (F.out.below bx) _ (by simp)).mono ?_
    rintro e w' ⟨rfl, rfl⟩
    have by_ := bx.alloc bx.size (.cells #[.slice ad L.length cp] 27)
    have bz := bw4.trans (by_.mono bw4.size)
    go_wp2_with fail
    refine (C4.out _ (K1.out.below bz) (K2.out.below bz) (K3.out.below bz) _ (by simp)).mono ?_
    rintro e w' ⟨rfl, rfl⟩
    have bt2 := bt.trans (by_.mono bt.size)
    go_wp2_with fail
    go_ret
    exact ⟨rfl, bt2.alloc bt2.size _⟩


set_option maxRecDepth 100000 in
theorem checkTells_lifted (os : Os) (started : os.Started) (H : Type) (enc : TypeId × Value → H) :
    ReturnsInHanded {} Try.checked os 4 .any (Rows.checkTellsSpec.pre6 enc Try.prog Try.f4 Rows.checkTellsRow.domain false) (Rows.checkTellsSpec.post enc Try.prog Try.f4 false true false false) := by
  refine returnsInHanded_of_change (C := Try.checked) own started (by kernel_rfl) Try.func4
    (ChangeSpec.witness6 (enc := enc) (C := Try.checked) false ⟨#[], #[.slice none 0 0, .slice none 0 0, .slice none 0 0], []⟩ 8 (by kernel_rfl) (by kernel_rfl) (by kernel_rfl) (by kernel_rfl)) ?_
  intro W base args ds gs before hval0 hW _ _
  have hval : ∀ (j : Nat) t v, Try.f4.params[j]? = some t → args[j]? = some v → Value.okWide Try.prog W .any base t v := hval0
  have hW' := hW
  obtain ⟨p, q, hA0, hV, rfl, _, _⟩ := hW
  have hA : DataW.TrodAll enc Try.prog W 0 (fun _ => true) true Try.f4.params.toList args.toList ds p := hA0
  rw [Try.params4] at hA hval
  obtain ⟨v0, vs0, d0, ds0, p0, q_0, hargs, rfl, rfl, h0, r0⟩ := trodAll_cons hA
  obtain ⟨v1, vs1, d1, ds1, p1, q_1, rfl, rfl, rfl, h1, r1⟩ := trodAll_cons r0
  obtain ⟨v2, vs2, d2, ds2, p2, q_2, rfl, rfl, rfl, h2, r2⟩ := trodAll_cons r1
  obtain ⟨rfl, rfl, rfl⟩ := trodAll_nil r2
  obtain rfl : args = #[v0, v1, v2] := by cases args; simp_all
  obtain ⟨rfl, rfl⟩ := trodVars_none hV
  clear hA0 hval0
  simp only [List.append_nil] at hW'
  obtain ⟨q0, cap0, l0, rfl, hS0, hm0⟩ := bytes_of_trod (hval 0 27 v0 rfl rfl) h0
  have hlt0 : ∀ x ∈ p0, x.block < W.heap.size := fun x hx => by simpa using hW'.lt x (by simpa using (by simp [hx]))
  obtain ⟨q1, cap1, l1, rfl, hS1, hm1⟩ := bytes_of_trod (hval 1 27 v1 rfl rfl) h1
  have hlt1 : ∀ x ∈ p1, x.block < W.heap.size := fun x hx => by simpa using hW'.lt x (by simpa using (by simp [hx]))
  obtain ⟨q2, cap2, l2, rfl, hS2, hm2⟩ := bytes_of_trod (hval 2 27 v2 rfl rfl) h2
  have hlt2 : ∀ x ∈ p2, x.block < W.heap.size := fun x hx => by simpa using hW'.lt x (by simpa using (by simp [hx]))
  refine (tells_walk q0 q1 q2 cap0 cap1 cap2 l0 l1 l2 W hS0 hS1 hS2).mono fun e W' ⟨he, hb⟩ => ?_
  subst he
  have hT : DataW.TrodAll enc Try.prog W' 0 (fun b => decide (b < W.heap.size)) true _ _ _ _ := (trodAll_cons_mk (Below.trod laidOut (by kernel_rfl) (of_decide_eq_true (by kernel_rfl)) h0 hb hlt0) (trodAll_cons_mk (Below.trod laidOut (by kernel_rfl) (of_decide_eq_true (by kernel_rfl)) h1 hb hlt1) (trodAll_cons_mk (Below.trod laidOut (by kernel_rfl) (of_decide_eq_true (by kernel_rfl)) h2 hb hlt2) trodAll_mk0)))
  simp only [List.append_nil] at hT
  exact ⟨_, rfl, _, _, _, [], p0 ++ (p1 ++ (p2)), [], hW', trodAll_mk1 (shut_bool Try.underlying4 _), hT, rfl, hb.frame _, fun h => by cases h⟩

theorem checkTells_holds : Rows.CheckTellsSaid :=
  OpenClaim.holds_of_wide 4 Try.f4 rfl rfl rfl rfl rfl rfl rfl ⟨rfl, rfl, rfl, rfl, rfl⟩ rfl rfl rfl rfl rfl (by kernel_rfl) Try.func4 (by kernel_rfl)
    (of_decide_eq_true (by kernel_rfl)) (by unfold Func.isWrapper; first | (rw [if_pos (by decide +kernel)]; kernel_rfl) | (rw [if_neg (by decide +kernel)]; exact ⟨rfl, rfl⟩))
    (fun os started H enc _ => checkTells_lifted os started H enc)
#print axioms checkTells_holds


end Go.Proofs.Ytgelfopjolkfdaa
