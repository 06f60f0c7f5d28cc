/- OrderBytes: the law returns true for any order and any bytes: an order that can be has the document's bytes, and is taken back from them with whatever stands behind. It has no conditions. -/
import Derived.Test.YtpmgafmbmjokhaaOrAlive
import Derived.Test.YtpmgafmbmjokhaaOrArgs
import Derived.Test.YtpmgafmbmjokhaaOrRef
import Derived.Test.YtpmgafmbmjokhaaOrRight2
import Derived.Deep.DeepCutAuto
import Derived.Deep.CutBlock
namespace Go.Proofs.Ytpmgafmbmjokhaa
open Go.ChangeShapes Go.WideShapes Go.ChangeAt Go.RowKit

set_option maxRecDepth 100000 in
set_option maxHeartbeats 8000000 in
theorem bytes_walk (a q : Option Addr) (ca qc : Nat) (x : Od) (l : List Nat) (w : World) (h1 : OdP w a ca x) (h2 : BytesP w q qc l) (_hm : l.length ≤ maxLen) : Calls Try.prog 4 #[odV a ca x, .slice q l.length qc] w (Tell true w) := by
  have K0 := Lib.hid (HldI.new h1)
  have HA := Lib.hid h1
  have HL := Lib.hid h2
  have hll := h2.len
  clear h1 h2
  unfold odV
  unfold odC at *
  go_enter Try.func4, Try.ntmps4
  go_wp2_with fail
  generalize w.alloc (Obj.cells #[Value.string x.id, Value.slice a x.ls.length ca, Value.string x.car, Value.string x.zone, Value.string x.serv, Value.int IntKind.i64 x.total, Value.int IntKind.i64 x.phase, Value.bool x.given, Value.int IntKind.i64 x.ref, Value.int IntKind.i64 x.batch] 28) = W0 at *
  refine (alive_any _).mono ?_
  rintro e w1 ⟨rfl, b1⟩
  have K1 := Lib.hid (K0.out.below b1)
  clear b1 K0
  obtain ⟨⟨c0, c1, c2, c3, c4⟩, c5, c6, c7, c8, c9⟩ := OdB.cells (o := x) K1.out.ord
  have CR := Lib.hid (refORight_any a ca x w1 K1.out.od)
  unfold odV at CR
  go_wp2_with fail
  refine CR.out.mono ?_
  rintro e w2 ⟨rfl, b2⟩
  have K2 := Lib.hid (K1.out.below b2)
  clear b2 K1 CR c0 c1 c2 c3 c4 c5 c6 c7 c8 c9
  cases hr : rightO x with
  | false =>
    go_wp2_with fail
    go_ret
    exact ⟨rfl, K2.out.low⟩
  | true =>
    cases hn : decide (100 < (l.length : Int)) with
    | true =>
      go_wp2_with fail
      go_ret
      exact ⟨rfl, K2.out.low⟩
    | false =>
      have hl100 : l.length ≤ 100 := by simp at hn; omega
      have HR := Lib.hid hr
      have HY := Lib.hid (orderL_bytes x)
      have hyl := Lib.hid (orderL_len hr)
      have CP := Lib.hid (put_any none a 0 ca [] x w2 (BytesP.nil _ _ _) K2.out.od hr (by simp))
      have HP := Lib.hid (takeO_put hr l)
      have CB := Lib.hid (fun W (h : OdP W a ca x) => refBytes_any a ca x W h hr)
      unfold odV at CP CB
      rw [List.nil_append] at CP
      generalize orderL x = y at *
      obtain ⟨⟨c0, c1, c2, c3, c4⟩, c5, c6, c7, c8, c9⟩ := OdB.cells (o := x) K2.out.ord
      clear hr
      go_wp2_with fail
      refine CP.out.mono ?_
      rintro e w3 ⟨v3, rfl, o3, b3⟩
      have K3 := Lib.hid (K2.out.below b3)
      obtain ⟨a3, p3, e3, h3⟩ := o3.bytes HY.out
      subst e3
      have H3 := Lib.hid h3
      clear o3 b3 h3 K2 CP c0 c1 c2 c3 c4 c5 c6 c7 c8 c9
      obtain ⟨sy, hsy⟩ : ∃ s, strB y = s := ⟨_, rfl⟩
      have HSY := Lib.hid hsy
      clear hsy
      have BD := Lib.hid (show Below w3.heap.size w3 w3.drew from ⟨rfl, rfl, rfl, Nat.le_refl _, fun _ _ => rfl⟩)
      have KD := Lib.hid (K3.out.below BD.out)
      have HD := Lib.hid (H3.out.below BD.out)
      have CD := Lib.hid (CB.out _ KD.out.od)
      obtain ⟨⟨c0, c1, c2, c3, c4⟩, c5, c6, c7, c8, c9⟩ := OdB.cells (o := x) KD.out.ord
      have t0 := run_text HD.out
      rw [HSY.out] at t0
      go_wp2_with fail
      go_cut [26] (fun s26 wx => s26 = .bool false ∧ Hid (HldI w w.heap.size a ca x wx) ∧ Hid (BytesP wx a3 p3 y))
      case first =>
        go_region_law ((try go_simp); go_at_call 15; refine CD.out.mono ?_; rintro e w4 ⟨v4, rfl, o4, b4⟩; obtain ⟨a4, p4, e4, h4⟩ := o4.bytes HY.out; subst e4; have K4 := Lib.hid (KD.out.below b4); have H4 := Lib.hid (HD.out.below b4); have t4 := run_text h4; have t5 := run_text H4.out; rw [HSY.out] at t4 t5; clear o4 b4 h4)
        all_goals
          go_wp2_with fail
          go_meet
          exact ⟨rfl, K4, H4⟩
      case rest =>
        obtain ⟨rfl, K4, H4⟩ := hcut
        clear c0 c1 c2 c3 c4 c5 c6 c7 c8 c9 t0 KD HD CD K3 H3 BD CB
        have hk4 := OdB.lt (o := x) K4.out.ord
        have K5 := Lib.hid (K4.out.below ((Below.refl _ wc).alloc (Nat.le_refl _) (.cells #[] 5)))
        have H5 := Lib.hid (H4.out.below ((Below.refl _ wc).alloc (Nat.le_refl _) (.cells #[] 5)))
        have O5 := Lib.hid (own_fresh wc wc.heap.size (Nat.le_refl _))
        have hz5 : wc.heap.size ≤ (wc.alloc (.cells #[] 5)).heap.size := by simp
        have hl5 : ([] : List Nat).length + y.length ≤ 10000000 := by have := hyl.out; simp; omega
        go_wp2_with (at_builtin; go_must (refine wpList_append_bytes rfl _ _ rfl wc.heap.size (.slice (some ⟨wc.heap.size, 0, none⟩) 0 0) [] y rfl O5.out a3 p3 rfl H5.out hl5 hz5 ?_))
        rintro v6 w6 o6 g6
        have K6 := Lib.hid (K5.out.grown HA.out g6 (fun k hk2 => by have := O5.out.row k hk2; omega))
        have O6 := Lib.hid o6
        have hz6 : wc.heap.size ≤ w6.heap.size := Nat.le_trans hz5 g6.size
        have HL6 := Lib.hid (HL.out.below K6.out.low)
        have hl6 : y.length + l.length ≤ 10000000 := by have := hyl.out; omega
        clear o6 g6 O5 K5 H5
        go_wp2_with (at_builtin; go_must (refine wpList_append_bytes rfl _ _ rfl wc.heap.size v6 y l rfl O6.out q qc rfl HL6.out hl6 hz6 ?_))
        rintro v7 w7 o7 g7
        have K7 := Lib.hid (K6.out.grown HA.out g7 (fun k hk2 => by have := O6.out.row k hk2; omega))
        have HYB := Lib.hid (show Bytes (y ++ l) from bytes_app HY.out HL.out.byte)
        have HLL := Lib.hid (show (y ++ l).length ≤ 1000000 by have := hyl.out; rw [List.length_append]; omega)
        generalize y ++ l = z at *
        obtain ⟨a7, p7, e7, h7⟩ := o7.bytes HYB.out
        subst e7
        have CN := Lib.hid (new_any a7 p7 z w7 h7 HLL.out)
        have CT := Lib.hid (fun W g (h : RdS W g (some z)) => take_any W g (some z) h)
        unfold TakeO at CT
        rw [HP.out.1, HP.out.2.1, HP.out.2.2] at CT
        clear o7 g7 h7 O6 K6 HL6 HY H4 K4
        go_wp2_with fail
        refine CN.out.mono ?_
        rintro e w8 ⟨g, rfl, r8, b8, hg8⟩
        have K8 := Lib.hid (K7.out.below b8)
        have R8 : Hid (RdS w8 g (some z)) := Lib.hid (.inr ⟨z, 0, rfl, r8⟩)
        have hgw : w.heap.size < g := Nat.lt_of_lt_of_le (OdB.lt (o := x) K7.out.ord) hg8
        clear r8 b8 CN K7
        go_wp2_with fail
        refine (CT.out _ _ R8.out).mono ?_
        rintro e w9 ⟨a9, p9, rfl, o9, r9, b9⟩
        have P9 := Lib.hid (odP_own o9 (right_fits HR.out))
        have K9 := Lib.hid (K8.out.but HA.out b9 (by omega) (by omega))
        have R9 := Lib.hid r9
        have A9 := Lib.hid ((Below.refl w9.heap.size w9).alloc (Nat.le_refl _) (.cells (odC a9 p9 x) 28))
        have D9 : Hid (OdB (w9.alloc (.cells (odC a9 p9 x) 28)) w9.heap.size a9 p9 x) := Lib.hid (OdB.new w9 a9 p9 x)
        have K10 := Lib.hid (K9.out.below A9.out)
        have P10 := Lib.hid (P9.out.below A9.out)
        have R10 := Lib.hid (R9.out.below A9.out)
        clear o9 r9 b9 CT R8 K8 K9 R9 P9
        obtain ⟨⟨c0, c1, c2, c3, c4⟩, c5, c6, c7, c8, c9⟩ := OdB.cells (o := x) K10.out.ord
        unfold odV
        unfold odC at *
        go_wp2_with fail
        refine (oSame_any a9 a p9 ca x x _ P10.out K10.out.od).mono ?_
        rw [(sameO_iff x x).2 rfl]
        rintro e w11 ⟨rfl, b11⟩
        have K11 := Lib.hid (K10.out.below b11)
        have R11 := Lib.hid (R10.out.below b11)
        clear b11 K10 R10 P10 A9 D9 c0 c1 c2 c3 c4 c5 c6 c7 c8 c9
        go_wp2_with fail
        refine (rd_done_any w11 g (some l) R11.out).mono ?_
        rintro e w12 ⟨rfl, b12⟩
        have B12 := Lib.hid (K11.out.low.trans (b12.mono K11.out.low.size))
        clear b12 R11 K11
        by_cases hz : l.length = 0
        · have hb : (some l == (some [] : Sc)) = true := by rw [List.eq_nil_of_length_eq_zero hz]; rfl
          have hlz : ((l.length : Int) == 0) = true := by simp [hz]
          go_wp2_with fail
          go_ret
          exact ⟨rfl, B12.out⟩
        · have hb : (some l == (some [] : Sc)) = false := by
            rw [beq_eq_false_iff_ne]
            intro e
            injection e with e
            exact hz (by rw [e]; rfl)
          have hlz : ((l.length : Int) == 0) = false := by simp; intro e; exact hz (by rw [e]; rfl)
          go_wp2_with fail
          go_ret
          exact ⟨rfl, B12.out⟩


set_option maxRecDepth 100000 in
theorem orderBytes_lifted (os : Os) (started : os.Started) (H : Type) (enc : TypeId × Value → H) :
    ReturnsInHanded {} Try.checked os 4 .any (Rows.orderBytesSpec.pre6 enc Try.prog Try.f4 Rows.orderBytesRow.domain false) (Rows.orderBytesSpec.post enc Try.prog Try.f4 false true false false) := by
  refine returnsInHanded_of_change (C := Try.checked) own started (by kernel_rfl) Try.func4
    (ChangeSpec.witness6 (enc := enc) (C := Try.checked) false ⟨#[], #[.agg #[.string ⟨#[]⟩, .slice none 0 0, .string ⟨#[]⟩, .string ⟨#[]⟩, .string ⟨#[]⟩, .int .i64 0, .int .i64 0, .bool false, .int .i64 0, .int .i64 0], .slice none 0 0], []⟩ 8 (by kernel_rfl) (by kernel_rfl) (by kernel_rfl) (by kernel_rfl)) ?_
  intro W base args ds gs before hval0 hW _ _
  have hval : ∀ (j : Nat) t v, Try.f4.params[j]? = some t → args[j]? = some v → Value.okWide Try.prog W .any base t v := hval0
  have hW' := hW
  obtain ⟨p, q, hA0, hV, rfl, _, _⟩ := hW
  have hA : DataW.TrodAll enc Try.prog W 0 (fun _ => true) true Try.f4.params.toList args.toList ds p := hA0
  rw [Try.params4] at hA hval
  obtain ⟨v0, vs0, d0, ds0, p0, q_0, hargs, rfl, rfl, h0, r0⟩ := trodAll_cons hA
  obtain ⟨v1, vs1, d1, ds1, p1, q_1, rfl, rfl, rfl, h1, r1⟩ := trodAll_cons r0
  obtain ⟨rfl, rfl, rfl⟩ := trodAll_nil r1
  obtain rfl : args = #[v0, v1] := by cases args; simp_all
  obtain ⟨rfl, rfl⟩ := trodVars_none hV
  clear hA0 hval0
  simp only [List.append_nil] at hW'
  obtain ⟨q0, cap0, o0, rfl, hS0⟩ := order_of_trod (hval 0 28 v0 rfl rfl) h0
  have hlt0 : ∀ x ∈ p0, x.block < W.heap.size := fun x hx => by simpa using hW'.lt x (by simpa using (by simp [hx]))
  obtain ⟨q1, cap1, l1, rfl, hS1, hm1⟩ := bytes_of_trod (hval 1 35 v1 rfl rfl) h1
  have hlt1 : ∀ x ∈ p1, x.block < W.heap.size := fun x hx => by simpa using hW'.lt x (by simpa using (by simp [hx]))
  refine (bytes_walk q0 q1 cap0 cap1 o0 l1 W hS0.od hS1 hm1).mono fun e W' ⟨he, hb⟩ => ?_
  subst he
  have hT : DataW.TrodAll enc Try.prog W' 0 (fun b => decide (b < W.heap.size)) true _ _ _ _ := (trodAll_cons_mk (Below.trod laidOut (by kernel_rfl) (of_decide_eq_true (by kernel_rfl)) h0 hb hlt0) (trodAll_cons_mk (Below.trod laidOut (by kernel_rfl) (of_decide_eq_true (by kernel_rfl)) h1 hb hlt1) trodAll_mk0))
  simp only [List.append_nil] at hT
  exact ⟨_, rfl, _, _, _, [], p0 ++ (p1), [], hW', trodAll_mk1 (shut_bool Try.underlying4 _), hT, rfl, hb.frame _, fun h => by cases h⟩

theorem orderBytes_holds : Rows.OrderBytesSaid :=
  OpenClaim.holds_of_wide 4 Try.f4 rfl rfl rfl rfl rfl rfl rfl ⟨rfl, rfl, rfl, rfl, rfl⟩ rfl rfl rfl rfl rfl (by kernel_rfl) Try.func4 (by kernel_rfl)
    (of_decide_eq_true (by kernel_rfl)) (by unfold Func.isWrapper; first | (rw [if_pos (by decide +kernel)]; kernel_rfl) | (rw [if_neg (by decide +kernel)]; exact ⟨rfl, rfl⟩))
    (fun os started H enc _ => orderBytes_lifted os started H enc)
#print axioms orderBytes_holds


end Go.Proofs.Ytpmgafmbmjokhaa
