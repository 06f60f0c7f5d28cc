/- OrderCut: the law returns true for any order and any number: an order's bytes, cut off anywhere, are none; with a byte more the order is the same, and the byte is left. It has no conditions. -/
import Derived.Test.YtpmgafmbmjokhaaOrAlive
import Derived.Test.YtpmgafmbmjokhaaOrArgs
namespace Go.Proofs.Ytpmgafmbmjokhaa
open Go.ChangeShapes Go.WideShapes Go.ChangeAt Go.RowKit

set_option maxRecDepth 100000 in
set_option maxHeartbeats 8000000 in
theorem cut_walk (a : Option Addr) (cap : Nat) (o : Od) (n : Int) (w : World) (h : OdP w a cap o) : Calls Try.prog 7 #[odV a cap o, .int .i64 n] w (Tell true w) := by
  have K0 := Lib.hid (HldI.new h)
  have HO0 := Lib.hid h
  clear h
  unfold odV
  unfold odC at *
  go_enter Try.func7, Try.ntmps7
  go_wp2_with fail
  generalize w.alloc (Obj.cells #[Value.string o.id, Value.slice a o.ls.length cap, Value.string o.car, Value.string o.zone, Value.string o.serv, Value.int IntKind.i64 o.total, Value.int IntKind.i64 o.phase, Value.bool o.given, Value.int IntKind.i64 o.ref, Value.int IntKind.i64 o.batch] 28) = W0 at *
  refine (alive_any _).mono ?_
  rintro e w1 ⟨rfl, b1⟩
  have K1 := Lib.hid (K0.out.below b1)
  clear b1 K0
  obtain ⟨⟨c0, c1, c2, c3, c4⟩, c5, c6, c7, c8, c9⟩ := OdB.cells (o := o) K1.out.ord
  have CR := Lib.hid (oRight_any a cap o w1 K1.out.od)
  unfold odV at CR
  go_wp2_with fail
  refine CR.out.mono ?_
  rintro e w2 ⟨rfl, b2⟩
  have K2 := Lib.hid (K1.out.below b2)
  clear b2 K1 CR c0 c1 c2 c3 c4 c5 c6 c7 c8 c9
  cases hr : rightO o with
  | false =>
    go_wp2_with fail
    go_ret
    exact ⟨rfl, K2.out.low⟩
  | true =>
    cases hn : decide (n < 0) with
    | true =>
      go_wp2_with fail
      go_ret
      exact ⟨rfl, K2.out.low⟩
    | false =>
      obtain ⟨m, rfl⟩ : ∃ m : Nat, n = (m : Int) := ⟨n.toNat, by simp at hn; omega⟩
      have HR := Lib.hid hr
      have HY := Lib.hid (orderL_bytes o)
      have hyl := Lib.hid (orderL_len hr)
      have CP := Lib.hid (put_any none a 0 cap [] o w2 (BytesP.nil _ _ _) K2.out.od hr (by simp))
      have HP := Lib.hid (takeO_put hr [77])
      have HCUT := Lib.hid (fun (hm : m < (orderL o).length) => takeV_cut hr hm)
      unfold odV at CP
      rw [List.nil_append] at CP
      generalize orderL o = y at *
      obtain ⟨⟨c0, c1, c2, c3, c4⟩, c5, c6, c7, c8, c9⟩ := OdB.cells (o := o) K2.out.ord
      clear hr
      go_wp2_with fail
      refine CP.out.mono ?_
      rintro e w3 ⟨v3, rfl, o3, b3⟩
      have K3 := Lib.hid (K2.out.below b3)
      have O3 := Lib.hid o3
      have hz3 := b3.size
      have hk := OdB.lt (o := o) K2.out.ord
      obtain ⟨a3, p3, e3, h3⟩ := o3.bytes HY.out
      subst e3
      have H3 := Lib.hid h3
      clear o3 b3 h3 K2 CP c0 c1 c2 c3 c4 c5 c6 c7 c8 c9
      by_cases hm : m < y.length
      · have HV := Lib.hid (HCUT.out hm)
        have HO := Lib.hid (show takeO (some (y.take m)) = noO ∧ takeE (some (y.take m)) = 101 by unfold takeO takeE; rw [HV.out]; exact ⟨rfl, rfl⟩)
        obtain ⟨a4, p4, s4, k4⟩ := slice_to (a := a3) H3.out.cap m (m : Int) rfl (by omega)
        have H4 := Lib.hid (k4 w3 H3.out)
        have hl4 : (y.take m).length ≤ 1000000 := by have := hyl.out; rw [List.length_take]; omega
        clear k4
        generalize y.take m = z at *
        have CN := Lib.hid (new_any a4 p4 z w3 H4.out hl4)
        have CT := Lib.hid (fun W g (h : RdS W g (some z)) => take_any W g (some z) h)
        unfold TakeO at CT
        rw [HO.out.1, HO.out.2] at CT
        go_wp2_with fail
        refine CN.out.mono ?_
        rintro e w5 ⟨g, rfl, r5, b5, hg5⟩
        have K5 := Lib.hid (K3.out.below b5)
        have R5 : Hid (RdS w5 g (some z)) := Lib.hid (.inr ⟨z, 0, rfl, r5⟩)
        clear r5 b5 CN
        go_wp2_with fail
        refine (CT.out _ _ R5.out).mono ?_
        rintro e w6 ⟨a6, p6, rfl, o6, r6, b6⟩
        have P6 := Lib.hid (odP_own o6 no_fits)
        have B6 := Lib.hid (K5.out.low.trans (b6.below (by have := K3.out.low.size; omega) K5.out.low.size))
        have D6 := Lib.hid (OdB.new w6 a6 p6 noO)
        have A6 := Lib.hid ((Below.refl w6.heap.size w6).alloc (Nat.le_refl _) (.cells (odC a6 p6 noO) 28))
        clear o6 r6 b6 CT R5 K5
        unfold odV
        unfold odC at *
        go_wp2_with fail
        refine (oSame_any a6 none p6 0 noO noO _ (P6.out.below A6.out) (no_od _)).mono ?_
        rw [(sameO_iff noO noO).2 rfl]
        rintro e w7 ⟨rfl, b7⟩
        have B7 := Lib.hid ((B6.out.trans (A6.out.mono B6.out.size)).trans (b7.mono (Nat.le_trans B6.out.size A6.out.size)))
        clear b7
        go_wp2_with fail
        go_ret
        exact ⟨rfl, B7.out⟩
      · have HL := Lib.hid (show (y ++ [77]).length ≤ 1000000 by have := hyl.out; rw [List.length_append]; simp; omega)
        have HYB := Lib.hid (show Bytes (y ++ [77]) from bytes_app HY.out (by intro b hb; simp at hb; omega))
        have O4 := Lib.hid (O3.out.below ((Below.refl _ w3).alloc (Nat.le_refl _) (.cells #[.int .u8 77] 5)))
        have HB4 := Lib.hid (one_block 77 (by decide) w3)
        have K4 := Lib.hid (K3.out.below ((Below.refl _ w3).alloc (Nat.le_refl _) (.cells #[.int .u8 77] 5)))
        have hl4 : y.length + 1 ≤ 10000000 := by have := hyl.out; omega
        have hz4 : w2.heap.size ≤ (w3.alloc (.cells #[.int .u8 77] 5)).heap.size := by simp; omega
        go_wp2_with (at_builtin; go_must (refine wpList_append_bytes rfl _ _ rfl w2.heap.size (.slice a3 y.length p3) y [77] rfl O4.out (some ⟨w3.heap.size, 0, none⟩) 1 rfl HB4.out hl4 hz4 ?_))
        rintro v5 w5 o5 g5
        have K5 := Lib.hid (K4.out.grown HO0.out g5 (fun k hk2 => by have := O4.out.row k hk2; omega))
        generalize y ++ [77] = z at *
        obtain ⟨a5, p5, e5, h5⟩ := o5.bytes HYB.out
        subst e5
        have CN := Lib.hid (new_any a5 p5 z w5 h5 HL.out)
        have CT := Lib.hid (fun W g (h : RdS W g (some z)) => take_any W g (some z) h)
        unfold TakeO at CT
        rw [HP.out.1, HP.out.2.1, HP.out.2.2] at CT
        clear o5 g5 h5 O4 HB4 K4 O3 H3 K3 HY
        go_wp2_with fail
        refine CN.out.mono ?_
        rintro e w6 ⟨g, rfl, r6, b6, hg6⟩
        have K6 := Lib.hid (K5.out.below b6)
        have R6 : Hid (RdS w6 g (some z)) := Lib.hid (.inr ⟨z, 0, rfl, r6⟩)
        have hgw : w.heap.size < g := Nat.lt_of_lt_of_le (OdB.lt (o := o) K5.out.ord) hg6
        clear r6 b6 CN K5
        go_wp2_with fail
        refine (CT.out _ _ R6.out).mono ?_
        rintro e w7 ⟨a7, p7, rfl, o7, r7, b7⟩
        have P7 := Lib.hid (odP_own o7 (right_fits HR.out))
        have K7 := Lib.hid (K6.out.but HO0.out b7 (by omega) (by omega))
        have R7 := Lib.hid r7
        have D7 := Lib.hid (OdB.new w7 a7 p7 o)
        have A7 := Lib.hid ((Below.refl w7.heap.size w7).alloc (Nat.le_refl _) (.cells (odC a7 p7 o) 28))
        have K8 := Lib.hid (K7.out.below A7.out)
        have P8 := Lib.hid (P7.out.below A7.out)
        have R8 := Lib.hid (R7.out.below A7.out)
        clear o7 r7 b7 CT R6 K6 K7 R7 P7
        obtain ⟨⟨c0, c1, c2, c3, c4⟩, c5, c6, c7, c8, c9⟩ := OdB.cells (o := o) K8.out.ord
        unfold odV
        unfold odC at *
        go_wp2_with fail
        clear c0 c1 c2 c3 c4 c5 c6 c7 c8 c9
        generalize w7.alloc (Obj.cells #[Value.string o.id, Value.slice a7 o.ls.length p7, Value.string o.car, Value.string o.zone, Value.string o.serv, Value.int IntKind.i64 o.total, Value.int IntKind.i64 o.phase, Value.bool o.given, Value.int IntKind.i64 o.ref, Value.int IntKind.i64 o.batch] 28) = W8 at *
        refine (oSame_any a7 a p7 cap o o W8 P8.out K8.out.od).mono ?_
        rw [(sameO_iff o o).2 rfl]
        rintro e w9 ⟨rfl, b9⟩
        have K9 := Lib.hid (K8.out.below b9)
        have R9 := Lib.hid (R8.out.below b9)
        clear b9 K8 R8 P8 A7 D7
        go_wp2_with fail
        refine (rd_done_any w9 g (some [77]) R9.out).mono ?_
        rw [show (some [77] == (some [] : Sc)) = false from rfl]
        rintro e w10 ⟨rfl, b10⟩
        have K10 := Lib.hid (K9.out.below b10)
        have R10 := Lib.hid (R9.out.below b10)
        clear b10 K9 R9
        go_wp2_with fail
        have CM := rd_num w10 g (some [77]) 100 R10.out (by decide)
        rw [show numS 100 (some [77]) = (77, some []) by have := numS_put (n := 77) (m := 100) (by decide) []; rwa [numL_small (by decide)] at this] at CM
        refine CM.mono ?_
        rintro e w11 ⟨rfl, r11, b11⟩
        have K11 := Lib.hid (K10.out.but HO0.out b11 (by omega) (by omega))
        clear CM b11 K10 R10
        go_wp2_with fail
        refine (rd_done_any w11 g (some []) r11).mono ?_
        rw [show (some [] == (some [] : Sc)) = true from rfl]
        rintro e w12 ⟨rfl, b12⟩
        have B12 := Lib.hid (K11.out.low.trans (b12.mono K11.out.low.size))
        clear b12 r11 K11
        go_wp2_with fail
        go_ret
        exact ⟨rfl, B12.out⟩


set_option maxRecDepth 100000 in
theorem orderCut_lifted (os : Os) (started : os.Started) (H : Type) (enc : TypeId × Value → H) :
    ReturnsInHanded {} Try.checked os 7 .any (Rows.orderCutSpec.pre6 enc Try.prog Try.f7 Rows.orderCutRow.domain false) (Rows.orderCutSpec.post enc Try.prog Try.f7 false true false false) := by
  refine returnsInHanded_of_change (C := Try.checked) own started (by kernel_rfl) Try.func7
    (ChangeSpec.witness6 (enc := enc) (C := Try.checked) false ⟨#[], #[.agg #[.string ⟨#[]⟩, .slice none 0 0, .string ⟨#[]⟩, .string ⟨#[]⟩, .string ⟨#[]⟩, .int .i64 0, .int .i64 0, .bool false, .int .i64 0, .int .i64 0], .int .i64 0], []⟩ 8 (by kernel_rfl) (by kernel_rfl) (by kernel_rfl) (by kernel_rfl)) ?_
  intro W base args ds gs before hval0 hW _ _
  have hval : ∀ (j : Nat) t v, Try.f7.params[j]? = some t → args[j]? = some v → Value.okWide Try.prog W .any base t v := hval0
  have hW' := hW
  obtain ⟨p, q, hA0, hV, rfl, _, _⟩ := hW
  have hA : DataW.TrodAll enc Try.prog W 0 (fun _ => true) true Try.f7.params.toList args.toList ds p := hA0
  rw [Try.params7] at hA hval
  obtain ⟨v0, vs0, d0, ds0, p0, q_0, hargs, rfl, rfl, h0, r0⟩ := trodAll_cons hA
  obtain ⟨v1, vs1, d1, ds1, p1, q_1, rfl, rfl, rfl, h1, r1⟩ := trodAll_cons r0
  obtain ⟨rfl, rfl, rfl⟩ := trodAll_nil r1
  obtain rfl : args = #[v0, v1] := by cases args; simp_all
  obtain ⟨rfl, rfl⟩ := trodVars_none hV
  clear hA0 hval0
  simp only [List.append_nil] at hW'
  obtain ⟨q0, cap0, o0, rfl, hS0⟩ := order_of_trod (hval 0 28 v0 rfl rfl) h0
  have hlt0 : ∀ x ∈ p0, x.block < W.heap.size := fun x hx => by simpa using hW'.lt x (by simpa using (by simp [hx]))
  obtain ⟨a1, rfl, rfl, rfl, w1⟩ := open_int Try.underlying3 (hval 1 3 v1 rfl rfl) h1
  refine (cut_walk q0 cap0 o0 a1 W hS0.od).mono fun e W' ⟨he, hb⟩ => ?_
  subst he
  have hT : DataW.TrodAll enc Try.prog W' 0 (fun b => decide (b < W.heap.size)) true _ _ _ _ := (trodAll_cons_mk (Below.trod laidOut (by kernel_rfl) (of_decide_eq_true (by kernel_rfl)) h0 hb hlt0) (trodAll_cons_mk (shut_int Try.underlying3 w1) trodAll_mk0))
  simp only [List.append_nil] at hT
  exact ⟨_, rfl, _, _, _, [], p0, [], hW', trodAll_mk1 (shut_bool Try.underlying4 _), hT, rfl, hb.frame _, fun h => by cases h⟩

theorem orderCut_holds : Rows.OrderCutSaid :=
  OpenClaim.holds_of_wide 7 Try.f7 rfl rfl rfl rfl rfl rfl rfl ⟨rfl, rfl, rfl, rfl, rfl⟩ rfl rfl rfl rfl rfl (by kernel_rfl) Try.func7 (by kernel_rfl)
    (of_decide_eq_true (by kernel_rfl)) (by unfold Func.isWrapper; first | (rw [if_pos (by decide +kernel)]; kernel_rfl) | (rw [if_neg (by decide +kernel)]; exact ⟨rfl, rfl⟩))
    (fun os started H enc _ => orderCut_lifted os started H enc)
#print axioms orderCut_holds


end Go.Proofs.Ytpmgafmbmjokhaa
