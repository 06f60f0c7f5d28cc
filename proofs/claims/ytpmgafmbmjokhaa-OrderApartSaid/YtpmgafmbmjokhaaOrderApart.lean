/- OrderApart: the law returns true for any two orders: they have the same bytes just where they are the same, and one's bytes never begin the other's. It has no conditions. -/
import Derived.Test.YtpmgafmbmjokhaaOrAlive
import Derived.Test.YtpmgafmbmjokhaaOrArgs
import Derived.Deep.DeepCutAuto
import Derived.Deep.CutBlock
namespace Go.Proofs.Ytpmgafmbmjokhaa
open Go.ChangeShapes Go.WideShapes Go.ChangeAt Go.RowKit

/-- Two orders that came in, each in a block of its own. -/
structure TwoI (w : World) (a b : Option Addr) (ca cb : Nat) (x y : Od) (W : World) : Prop where
  one : HldI w w.heap.size a ca x W
  two : HldI w (w.heap.size + 1) b cb y W

theorem TwoI.below {w W W' : World} {a b : Option Addr} {ca cb : Nat} {x y : Od} (h : TwoI w a b ca cb x y W) (k : Below W.heap.size W W') : TwoI w a b ca cb x y W' := ⟨h.one.below k, h.two.below k⟩
theorem TwoI.new {w : World} {a b : Option Addr} {ca cb : Nat} {x y : Od} (h1 : OdP w a ca x) (h2 : OdP w b cb y) : TwoI w a b ca cb x y ((w.alloc (.cells (odC a ca x) 28)).alloc (.cells (odC b cb y) 28)) := by
  have k := HldI.new h1
  have e : (w.alloc (.cells (odC a ca x) 28)).heap.size = w.heap.size + 1 := by simp
  have b1 : Below (w.alloc (.cells (odC a ca x) 28)).heap.size (w.alloc (.cells (odC a ca x) 28)) ((w.alloc (.cells (odC a ca x) 28)).alloc (.cells (odC b cb y) 28)) := (Below.refl _ _).alloc (Nat.le_refl _) _
  have q := k.below b1
  refine ⟨q, ⟨?_, q.low, h2.below q.low⟩⟩
  rw [← e]
  exact OdB.new _ b cb y

set_option maxRecDepth 100000 in
set_option maxHeartbeats 8000000 in
theorem apart_walk (a b : Option Addr) (ca cb : Nat) (x y : Od) (w : World) (h1 : OdP w a ca x) (h2 : OdP w b cb y) : Calls Try.prog 6 #[odV a ca x, odV b cb y] w (Tell true w) := by
  have K0 := Lib.hid (TwoI.new h1 h2)
  clear h1 h2
  unfold odV
  unfold odC at *
  go_enter Try.func6, Try.ntmps6
  go_wp2_with fail
  generalize (w.alloc (Obj.cells #[Value.string x.id, Value.slice a x.ls.length ca, Value.string x.car, Value.string x.zone, Value.string x.serv, Value.int IntKind.i64 x.total, Value.int IntKind.i64 x.phase, Value.bool x.given, Value.int IntKind.i64 x.ref, Value.int IntKind.i64 x.batch] 28)).alloc (Obj.cells #[Value.string y.id, Value.slice b y.ls.length cb, Value.string y.car, Value.string y.zone, Value.string y.serv, Value.int IntKind.i64 y.total, Value.int IntKind.i64 y.phase, Value.bool y.given, Value.int IntKind.i64 y.ref, Value.int IntKind.i64 y.batch] 28) = W0 at *
  refine (alive_any _).mono ?_
  rintro e w1 ⟨rfl, b1⟩
  have K1 := Lib.hid (K0.out.below b1)
  clear b1 K0
  obtain ⟨⟨c0, c1, c2, c3, c4⟩, c5, c6, c7, c8, c9⟩ := OdB.cells (o := x) K1.out.one.ord
  obtain ⟨⟨d0, d1, d2, d3, d4⟩, d5, d6, d7, d8, d9⟩ := OdB.cells (o := y) K1.out.two.ord
  have CX := Lib.hid (oRight_any a ca x w1 K1.out.one.od)
  unfold odV at CX
  go_wp2_with fail
  refine CX.out.mono ?_
  rintro e w2 ⟨rfl, b2⟩
  have K2 := Lib.hid (K1.out.below b2)
  clear b2 K1 CX c0 c1 c2 c3 c4 c5 c6 c7 c8 c9 d0 d1 d2 d3 d4 d5 d6 d7 d8 d9
  cases hx : rightO x with
  | false =>
    go_wp2_with fail
    go_ret
    exact ⟨rfl, K2.out.one.low⟩
  | true =>
    obtain ⟨⟨d0, d1, d2, d3, d4⟩, d5, d6, d7, d8, d9⟩ := OdB.cells (o := y) K2.out.two.ord
    have CY := Lib.hid (oRight_any b cb y w2 K2.out.two.od)
    unfold odV at CY
    go_wp2_with fail
    refine CY.out.mono ?_
    rintro e w3 ⟨rfl, b3⟩
    have K3 := Lib.hid (K2.out.below b3)
    clear b3 K2 CY d0 d1 d2 d3 d4 d5 d6 d7 d8 d9
    cases hy : rightO y with
    | false =>
      go_wp2_with fail
      go_ret
      exact ⟨rfl, K3.out.one.low⟩
    | true =>
      obtain ⟨⟨c0, c1, c2, c3, c4⟩, c5, c6, c7, c8, c9⟩ := OdB.cells (o := x) K3.out.one.ord
      obtain ⟨⟨d0, d1, d2, d3, d4⟩, d5, d6, d7, d8, d9⟩ := OdB.cells (o := y) K3.out.two.ord
      have BD := Lib.hid (show Below w3.heap.size w3 w3.drew from ⟨rfl, rfl, rfl, Nat.le_refl _, fun _ _ => rfl⟩)
      have KD := Lib.hid (K3.out.below BD.out)
      have CPX := Lib.hid (put_any none a 0 ca [] x w3.drew (BytesP.nil _ _ _) KD.out.one.od hx (by simp))
      have CPY := Lib.hid (fun W (h : OdP W b cb y) => put_any none b 0 cb [] y W (BytesP.nil _ _ _) h hy (by simp))
      have HX := Lib.hid (orderL_bytes x)
      have HY := Lib.hid (orderL_bytes y)
      have lx := Lib.hid (orderL_len hx)
      have ly := Lib.hid (orderL_len hy)
      have HS := Lib.hid (show orderL x = orderL y ↔ sameO x y = true from ⟨fun e => (sameO_iff _ _).2 (order_begins hx hy (r := []) (by rw [e, List.append_nil])).1, fun e => by rw [(sameO_iff _ _).1 e]⟩)
      have HT := Lib.hid (show (orderL y).take (orderL x).length = orderL x → sameO x y = true from fun e => (sameO_iff _ _).2 (order_begins hx hy (r := (orderL y).drop (orderL x).length) (by conv => lhs; rw [← List.take_append_drop (orderL x).length (orderL y), e])).1)
      unfold odV at CPX CPY
      have CPX : Hid (Calls Try.prog 14 #[.slice none 0 0, .agg #[.string x.id, .slice a x.ls.length ca, .string x.car, .string x.zone, .string x.serv, .int .i64 x.total, .int .i64 x.phase, .bool x.given, .int .i64 x.ref, .int .i64 x.batch]] w3.drew (OwnPost (orderL x) w3.drew)) := CPX
      have CPY : Hid (∀ W, OdP W b cb y → Calls Try.prog 14 #[.slice none 0 0, .agg #[.string y.id, .slice b y.ls.length cb, .string y.car, .string y.zone, .string y.serv, .int .i64 y.total, .int .i64 y.phase, .bool y.given, .int .i64 y.ref, .int .i64 y.batch]] W (OwnPost (orderL y) W)) := CPY
      clear hx hy
      generalize orderL x = lX at *
      generalize orderL y = lY at *
      go_wp2_with fail
      clear c0 c1 c2 c3 c4 c5 c6 c7 c8 c9 d0 d1 d2 d3 d4 d5 d6 d7 d8 d9
      obtain ⟨⟨c0, c1, c2, c3, c4⟩, c5, c6, c7, c8, c9⟩ := OdB.cells (o := x) KD.out.one.ord
      obtain ⟨⟨d0, d1, d2, d3, d4⟩, d5, d6, d7, d8, d9⟩ := OdB.cells (o := y) KD.out.two.ord
      obtain ⟨sa, hsa⟩ : ∃ s, strB lX = s := ⟨_, rfl⟩
      obtain ⟨sb, hsb⟩ : ∃ s, strB lY = s := ⟨_, rfl⟩
      have HSA := Lib.hid hsa
      have HSB := Lib.hid hsb
      clear hsa hsb
      go_cut [5, 6] (fun s5 s6 wx => s5 = .string sa ∧ s6 = .string sb ∧ Hid (TwoI w a b ca cb x y wx))
      case first =>
        go_region_law (first
          | ((try go_simp); go_at_call 14; refine CQ.out.mono ?_; rintro e w5 ⟨v5, rfl, o5, b5⟩; obtain ⟨a5, p5, e5, h5⟩ := o5.bytes HY.out; subst e5; have K5 := Lib.hid (K4.out.below b5); have t5 := run_text h5; have t6 := run_text (HH4.out.below b5); rw [HSB.out] at t5; rw [HSA.out] at t6; clear o5 b5 h5)
          | ((try go_simp); go_at_call 14; refine CPX.out.mono ?_; rintro e w4 ⟨v4, rfl, o4, b4⟩; obtain ⟨a4, p4, e4, h4⟩ := o4.bytes HX.out; subst e4; have K4 := Lib.hid (KD.out.below b4); have HH4 := Lib.hid h4; have t4 := run_text h4; rw [HSA.out] at t4; obtain ⟨⟨g0, g1, g2, g3, g4⟩, g5, g6, g7, g8, g9⟩ := OdB.cells (o := y) K4.out.two.ord; have CQ := Lib.hid (CPY.out w4 K4.out.two.od); clear o4 b4 h4))
        all_goals
          go_wp2_with fail
          go_meet
          exact ⟨rfl, rfl, K5⟩
      case rest =>
        obtain ⟨rfl, rfl, K5⟩ := hcut
        have CS := Lib.hid (fun W (h : TwoI w a b ca cb x y W) => show Calls Try.prog 12 #[.agg #[.string x.id, .slice a x.ls.length ca, .string x.car, .string x.zone, .string x.serv, .int .i64 x.total, .int .i64 x.phase, .bool x.given, .int .i64 x.ref, .int .i64 x.batch], .agg #[.string y.id, .slice b y.ls.length cb, .string y.car, .string y.zone, .string y.serv, .int .i64 y.total, .int .i64 y.phase, .bool y.given, .int .i64 y.ref, .int .i64 y.batch]] W (Tell (sameO x y) W) from oSame_any a b ca cb x y W h.one.od h.two.od)
        have HNA := Lib.hid (show sa.size = lX.length by rw [← HSA.out, strB_size])
        have HNB := Lib.hid (show sb.size = lY.length by rw [← HSB.out, strB_size])
        clear c0 c1 c2 c3 c4 c5 c6 c7 c8 c9 d0 d1 d2 d3 d4 d5 d6 d7 d8 d9 K3 KD BD
        cases hs : sameO x y with
        | true =>
          rw [hs] at CS
          have e : sb = sa := by rw [← HSA.out, ← HSB.out, HS.out.2 hs]
          subst e
          have hsl : ∀ W, (Instr.slice 9 (.string sb) none (some (.int .i64 (sb.size : Int))) none).run Try.prog W = .ok (.string sb) W := by
            intro W
            rw [run_slice_string_h W 9 sb Try.underlying9 .i64 (sb.size : Int) (by omega) (by omega)]
            congr 2
            rw [show ((sb.size : Int).toNat) = lY.length by rw [HNB.out]; rfl]
            conv => lhs; rw [← HSB.out]
            rw [strB_take HY.out, List.take_length, HSB.out]
          clear hs HS HT
          obtain ⟨⟨c0, c1, c2, c3, c4⟩, c5, c6, c7, c8, c9⟩ := OdB.cells (o := x) K5.out.one.ord
          obtain ⟨⟨d0, d1, d2, d3, d4⟩, d5, d6, d7, d8, d9⟩ := OdB.cells (o := y) K5.out.two.ord
          go_wp2_with fail
          refine (CS.out _ K5.out).mono ?_
          rintro e w6 ⟨rfl, b6⟩
          have K6 := Lib.hid (K5.out.below b6)
          clear b6 c0 c1 c2 c3 c4 c5 c6 c7 c8 c9 d0 d1 d2 d3 d4 d5 d6 d7 d8 d9
          obtain ⟨⟨c0, c1, c2, c3, c4⟩, c5, c6, c7, c8, c9⟩ := OdB.cells (o := x) K6.out.one.ord
          obtain ⟨⟨d0, d1, d2, d3, d4⟩, d5, d6, d7, d8, d9⟩ := OdB.cells (o := y) K6.out.two.ord
          go_wp2_with fail
          refine (CS.out _ K6.out).mono ?_
          rintro e w7 ⟨rfl, b7⟩
          have B7 := Lib.hid (K6.out.one.low.trans (b7.mono K6.out.one.low.size))
          clear b7
          go_wp2_with fail
          go_ret
          exact ⟨rfl, B7.out⟩
        | false =>
          rw [hs] at CS
          have hne : (sa.toList == sb.toList) = false := str_ne (fun e => by
            have := HS.out.1 (strB_inj HX.out HY.out (by rw [HSA.out, HSB.out, e]))
            rw [hs] at this
            cases this)
          by_cases hle : sa.size ≤ sb.size
          · obtain ⟨sc, hsc⟩ : ∃ s, strB (lY.take lX.length) = s := ⟨_, rfl⟩
            have hsl : ∀ W, (Instr.slice 9 (.string sb) none (some (.int .i64 (sa.size : Int))) none).run Try.prog W = .ok (.string sc) W := by
              intro W
              rw [run_slice_string_h W 9 sb Try.underlying9 .i64 (sa.size : Int) (by omega) (by omega)]
              congr 2
              rw [show ((sa.size : Int).toNat) = lX.length by rw [HNA.out]; rfl]
              conv => lhs; rw [← HSB.out]
              rw [strB_take HY.out, hsc]
            have hn2 : (sc.toList == sa.toList) = false := str_ne (fun e => by
              have := HT.out (strB_inj (fun z hz => HY.out z (List.mem_of_mem_take hz)) HX.out (by rw [hsc, HSA.out, e]))
              rw [hs] at this
              cases this)
            clear hs HS HT hsc
            obtain ⟨⟨c0, c1, c2, c3, c4⟩, c5, c6, c7, c8, c9⟩ := OdB.cells (o := x) K5.out.one.ord
            obtain ⟨⟨d0, d1, d2, d3, d4⟩, d5, d6, d7, d8, d9⟩ := OdB.cells (o := y) K5.out.two.ord
            go_wp2_with fail
            refine (CS.out _ K5.out).mono ?_
            rintro e w6 ⟨rfl, b6⟩
            have K6 := Lib.hid (K5.out.below b6)
            clear b6 c0 c1 c2 c3 c4 c5 c6 c7 c8 c9 d0 d1 d2 d3 d4 d5 d6 d7 d8 d9
            obtain ⟨⟨c0, c1, c2, c3, c4⟩, c5, c6, c7, c8, c9⟩ := OdB.cells (o := x) K6.out.one.ord
            obtain ⟨⟨d0, d1, d2, d3, d4⟩, d5, d6, d7, d8, d9⟩ := OdB.cells (o := y) K6.out.two.ord
            go_wp2_with fail
            refine (CS.out _ K6.out).mono ?_
            rintro e w7 ⟨rfl, b7⟩
            have B7 := Lib.hid (K6.out.one.low.trans (b7.mono K6.out.one.low.size))
            clear b7
            go_wp2_with fail
            go_ret
            exact ⟨rfl, B7.out⟩
          · clear hs HS HT
            obtain ⟨⟨c0, c1, c2, c3, c4⟩, c5, c6, c7, c8, c9⟩ := OdB.cells (o := x) K5.out.one.ord
            obtain ⟨⟨d0, d1, d2, d3, d4⟩, d5, d6, d7, d8, d9⟩ := OdB.cells (o := y) K5.out.two.ord
            go_wp2_with fail
            refine (CS.out _ K5.out).mono ?_
            rintro e w6 ⟨rfl, b6⟩
            have K6 := Lib.hid (K5.out.below b6)
            clear b6 c0 c1 c2 c3 c4 c5 c6 c7 c8 c9 d0 d1 d2 d3 d4 d5 d6 d7 d8 d9
            obtain ⟨⟨c0, c1, c2, c3, c4⟩, c5, c6, c7, c8, c9⟩ := OdB.cells (o := x) K6.out.one.ord
            obtain ⟨⟨d0, d1, d2, d3, d4⟩, d5, d6, d7, d8, d9⟩ := OdB.cells (o := y) K6.out.two.ord
            go_wp2_with fail
            refine (CS.out _ K6.out).mono ?_
            rintro e w7 ⟨rfl, b7⟩
            have B7 := Lib.hid (K6.out.one.low.trans (b7.mono K6.out.one.low.size))
            clear b7
            go_wp2_with fail
            go_ret
            exact ⟨rfl, B7.out⟩


set_option maxRecDepth 100000 in
theorem orderApart_lifted (os : Os) (started : os.Started) (H : Type) (enc : TypeId × Value → H) :
    ReturnsInHanded {} Try.checked os 6 .any (Rows.orderApartSpec.pre6 enc Try.prog Try.f6 Rows.orderApartRow.domain false) (Rows.orderApartSpec.post enc Try.prog Try.f6 false true false false) := by
  refine returnsInHanded_of_change (C := Try.checked) own started (by kernel_rfl) Try.func6
    (ChangeSpec.witness6 (enc := enc) (C := Try.checked) false ⟨#[], #[.agg #[.string ⟨#[]⟩, .slice none 0 0, .string ⟨#[]⟩, .string ⟨#[]⟩, .string ⟨#[]⟩, .int .i64 0, .int .i64 0, .bool false, .int .i64 0, .int .i64 0], .agg #[.string ⟨#[]⟩, .slice none 0 0, .string ⟨#[]⟩, .string ⟨#[]⟩, .string ⟨#[]⟩, .int .i64 0, .int .i64 0, .bool false, .int .i64 0, .int .i64 0]], []⟩ 8 (by kernel_rfl) (by kernel_rfl) (by kernel_rfl) (by kernel_rfl)) ?_
  intro W base args ds gs before hval0 hW _ _
  have hval : ∀ (j : Nat) t v, Try.f6.params[j]? = some t → args[j]? = some v → Value.okWide Try.prog W .any base t v := hval0
  have hW' := hW
  obtain ⟨p, q, hA0, hV, rfl, _, _⟩ := hW
  have hA : DataW.TrodAll enc Try.prog W 0 (fun _ => true) true Try.f6.params.toList args.toList ds p := hA0
  rw [Try.params6] at hA hval
  obtain ⟨v0, vs0, d0, ds0, p0, q_0, hargs, rfl, rfl, h0, r0⟩ := trodAll_cons hA
  obtain ⟨v1, vs1, d1, ds1, p1, q_1, rfl, rfl, rfl, h1, r1⟩ := trodAll_cons r0
  obtain ⟨rfl, rfl, rfl⟩ := trodAll_nil r1
  obtain rfl : args = #[v0, v1] := by cases args; simp_all
  obtain ⟨rfl, rfl⟩ := trodVars_none hV
  clear hA0 hval0
  simp only [List.append_nil] at hW'
  obtain ⟨q0, cap0, o0, rfl, hS0⟩ := order_of_trod (hval 0 28 v0 rfl rfl) h0
  have hlt0 : ∀ x ∈ p0, x.block < W.heap.size := fun x hx => by simpa using hW'.lt x (by simpa using (by simp [hx]))
  obtain ⟨q1, cap1, o1, rfl, hS1⟩ := order_of_trod (hval 1 28 v1 rfl rfl) h1
  have hlt1 : ∀ x ∈ p1, x.block < W.heap.size := fun x hx => by simpa using hW'.lt x (by simpa using (by simp [hx]))
  refine (apart_walk q0 q1 cap0 cap1 o0 o1 W hS0.od hS1.od).mono fun e W' ⟨he, hb⟩ => ?_
  subst he
  have hT : DataW.TrodAll enc Try.prog W' 0 (fun b => decide (b < W.heap.size)) true _ _ _ _ := (trodAll_cons_mk (Below.trod laidOut (by kernel_rfl) (of_decide_eq_true (by kernel_rfl)) h0 hb hlt0) (trodAll_cons_mk (Below.trod laidOut (by kernel_rfl) (of_decide_eq_true (by kernel_rfl)) h1 hb hlt1) trodAll_mk0))
  simp only [List.append_nil] at hT
  exact ⟨_, rfl, _, _, _, [], p0 ++ (p1), [], hW', trodAll_mk1 (shut_bool Try.underlying4 _), hT, rfl, hb.frame _, fun h => by cases h⟩

theorem orderApart_holds : Rows.OrderApartSaid :=
  OpenClaim.holds_of_wide 6 Try.f6 rfl rfl rfl rfl rfl rfl rfl ⟨rfl, rfl, rfl, rfl, rfl⟩ rfl rfl rfl rfl rfl (by kernel_rfl) Try.func6 (by kernel_rfl)
    (of_decide_eq_true (by kernel_rfl)) (by unfold Func.isWrapper; first | (rw [if_pos (by decide +kernel)]; kernel_rfl) | (rw [if_neg (by decide +kernel)]; exact ⟨rfl, rfl⟩))
    (fun os started H enc _ => orderApart_lifted os started H enc)
#print axioms orderApart_holds


end Go.Proofs.Ytpmgafmbmjokhaa
