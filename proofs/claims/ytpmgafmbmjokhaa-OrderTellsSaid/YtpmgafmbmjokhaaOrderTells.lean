/- OrderTells: the law returns true for any two orders: whether it can be and whether both are the same are as the document says; a copy is the same, and its own. It has no conditions. -/
import Derived.Test.YtpmgafmbmjokhaaOrAlive
import Derived.Test.YtpmgafmbmjokhaaOrArgs
import Derived.Test.YtpmgafmbmjokhaaOrRight2
namespace Go.Proofs.Ytpmgafmbmjokhaa
open Go.ChangeShapes Go.WideShapes Go.ChangeAt Go.RowKit

/-- Two orders that came in, each in a block of its own. -/
structure TwoI (w : World) (a b : Option Addr) (ca cb : Nat) (x y : Od) (W : World) : Prop where
  one : HldI w w.heap.size a ca x W
  two : HldI w (w.heap.size + 1) b cb y W

theorem TwoI.below {w W W' : World} {a b : Option Addr} {ca cb : Nat} {x y : Od} (h : TwoI w a b ca cb x y W) (k : Below W.heap.size W W') : TwoI w a b ca cb x y W' := ⟨h.one.below k, h.two.below k⟩
theorem TwoI.new {w : World} {a b : Option Addr} {ca cb : Nat} {x y : Od} (h1 : OdP w a ca x) (h2 : OdP w b cb y) : TwoI w a b ca cb x y ((w.alloc (.cells (odC a ca x) 28)).alloc (.cells (odC b cb y) 28)) := by
  have k := HldI.new h1
  have e : (w.alloc (.cells (odC a ca x) 28)).heap.size = w.heap.size + 1 := by simp
  have b1 : Below (w.alloc (.cells (odC a ca x) 28)).heap.size (w.alloc (.cells (odC a ca x) 28)) ((w.alloc (.cells (odC a ca x) 28)).alloc (.cells (odC b cb y) 28)) := (Below.refl _ _).alloc (Nat.le_refl _) _
  have q := k.below b1
  refine ⟨q, ⟨?_, q.low, h2.below q.low⟩⟩
  rw [← e]
  exact OdB.new _ b cb y

/-- Turned by one, a number is another. -/
theorem xor_one (q : Int) : bits .xor .i64 q 1 ≠ q := by
  show IntKind.i64.wrap ((BitVec.ofInt 64 q ^^^ BitVec.ofInt 64 1).toNat : Int) ≠ q
  intro e
  rw [BitVec.toNat_xor] at e
  have h1 : (BitVec.ofInt 64 (1 : Int)).toNat = 1 := by decide
  rw [h1] at e
  have h2 : (BitVec.ofInt 64 q).toNat = (q % 18446744073709551616).toNat := by rw [BitVec.toNat_ofInt]; rfl
  have hlt : (BitVec.ofInt 64 q).toNat < 18446744073709551616 := (BitVec.ofInt 64 q).isLt
  generalize (BitVec.ofInt 64 q).toNat = n at *
  have hx : n ^^^ 1 < 2 ^ 64 := Nat.xor_lt_two_pow (by omega) (by decide)
  have h3 : (n ^^^ 1) = n := by
    rw [IntKind.wrap_i64] at e
    omega
  have h4 := congrArg (fun m => Nat.testBit m 0) h3
  simp at h4
  omega

theorem eq_ln (x : Ln) (w : World) : (binOp .eql 34 (.agg #[.string x.sku, .int .i64 x.qty, .int .i64 x.wt]) (.agg #[.string x.sku, .int .i64 x.qty, .int .i64 x.wt])).run Try.prog w = .ok (.bool true) w := by
  have u2 := Try.underlying2
  have u9 := Try.underlying9
  have a2 := Try.isAgg2
  have a9 := Try.isAgg9
  have z2 := Try.sizeOf2
  have z9 := Try.sizeOf9
  have hS : Try.prog.underlying 34 = some (.struct (Try.prog.fieldsOf 34)) := by kernel_rfl
  have hp : Try.prog.stoodInHeld 34 = false := by kernel_rfl
  rw [run_eql_struct, show (10000 : Nat) = 9999 + 1 from rfl, run_equalIn_agg w 9999 34 _ _ hS hp]
  simp only [Program.fieldsOf, Try.underlying34]
  go_simp

set_option maxRecDepth 100000 in
set_option maxHeartbeats 8000000 in
theorem tells_walk (a b : Option Addr) (ca cb : Nat) (x y : Od) (w : World) (h1 : OdP w a ca x) (h2 : OdP w b cb y) : Calls Try.prog 3 #[odV a ca x, odV b cb y] w (Tell true w) := by
  have K0 := Lib.hid (TwoI.new h1 h2)
  have HA := Lib.hid h1
  clear h1 h2
  unfold odV
  unfold odC at *
  go_enter Try.func3, Try.ntmps3
  go_wp2_with fail
  generalize (w.alloc (Obj.cells #[Value.string x.id, Value.slice a x.ls.length ca, Value.string x.car, Value.string x.zone, Value.string x.serv, Value.int IntKind.i64 x.total, Value.int IntKind.i64 x.phase, Value.bool x.given, Value.int IntKind.i64 x.ref, Value.int IntKind.i64 x.batch] 28)).alloc (Obj.cells #[Value.string y.id, Value.slice b y.ls.length cb, Value.string y.car, Value.string y.zone, Value.string y.serv, Value.int IntKind.i64 y.total, Value.int IntKind.i64 y.phase, Value.bool y.given, Value.int IntKind.i64 y.ref, Value.int IntKind.i64 y.batch] 28) = W0 at *
  refine (alive_any _).mono ?_
  rintro e w1 ⟨rfl, b1⟩
  have K1 := Lib.hid (K0.out.below b1)
  clear b1 K0
  obtain ⟨⟨c0, c1, c2, c3, c4⟩, c5, c6, c7, c8, c9⟩ := OdB.cells (o := x) K1.out.one.ord
  obtain ⟨⟨d0, d1, d2, d3, d4⟩, d5, d6, d7, d8, d9⟩ := OdB.cells (o := y) K1.out.two.ord
  cases hl : decide (50 < (x.ls.length : Int)) with
  | true =>
    go_wp2_with fail
    go_ret
    exact ⟨rfl, K1.out.one.low⟩
  | false =>
    cases hm : decide (50 < (y.ls.length : Int)) with
    | true =>
      go_wp2_with fail
      go_ret
      exact ⟨rfl, K1.out.one.low⟩
    | false =>
      have CC := Lib.hid (copy_any a ca x w1 K1.out.one.od (by simp at hl; omega))
      unfold odV CopyPost at CC
      go_wp2_with fail
      refine CC.out.mono ?_
      rintro e w2 ⟨a2, p2, rfl, o2, b2⟩
      have K2 := Lib.hid (K1.out.below b2)
      have hlt := OdB.lt (o := y) K1.out.two.ord
      have HB2 := Lib.hid (fun k (hk : (Value.slice a2 x.ls.length p2).ownBlock = some k) => (World.ownsRow.lt o2 k hk).2)
      clear K1 CC c0 c1 c2 c3 c4 c5 c6 c7 c8 c9 d0 d1 d2 d3 d4 d5 d6 d7 d8 d9
      have D3 := Lib.hid (OdB.new w2 a2 p2 x)
      have A3 := Lib.hid ((Below.refl w2.heap.size w2).alloc (Nat.le_refl _) (.cells (odC a2 p2 x) 28))
      have K3 := Lib.hid (K2.out.below A3.out)
      have O3 := Lib.hid (o2.below A3.out)
      have hlt3 : w2.heap.size < (w2.alloc (.cells (odC a2 p2 x) 28)).heap.size := by simp
      clear o2 b2 K2
      unfold odC odV at *
      go_wp2_with fail
      generalize w2.alloc (Obj.cells #[Value.string x.id, Value.slice a2 x.ls.length p2, Value.string x.car, Value.string x.zone, Value.string x.serv, Value.int IntKind.i64 x.total, Value.int IntKind.i64 x.phase, Value.bool x.given, Value.int IntKind.i64 x.ref, Value.int IntKind.i64 x.batch] 28) = W at *
      have L3 := Lib.hid (show OdP W a2 p2 x from by
        obtain ⟨a', c', e, h⟩ := O3.out.lns K3.out.one.od.lns.size
        injection e with e1 e2 e3
        subst e1 e3
        exact ⟨h, K3.out.one.od.len, K3.out.one.od.id, K3.out.one.od.car, K3.out.one.od.zone, K3.out.one.od.serv⟩)
      have C1 := Lib.hid (fun (p : Far W) => show Calls Try.prog 10 #[.agg #[.string x.id, .slice a x.ls.length ca, .string x.car, .string x.zone, .string x.serv, .int .i64 x.total, .int .i64 x.phase, .bool x.given, .int .i64 x.ref, .int .i64 x.batch]] (farOf W p) (Tell (rightO x) (farOf W p)) from oRight_any a ca x _ (K3.out.one.od.below (far_below W p)))
      have C2 := Lib.hid (fun (p : Far W) => show Calls Try.prog 11 #[.agg #[.string x.id, .slice a x.ls.length ca, .string x.car, .string x.zone, .string x.serv, .int .i64 x.total, .int .i64 x.phase, .bool x.given, .int .i64 x.ref, .int .i64 x.batch]] (farOf W p) (Tell (rightO x) (farOf W p)) from refORight_any a ca x _ (K3.out.one.od.below (far_below W p)))
      have C3 := Lib.hid (fun (p : Far W) => show Calls Try.prog 12 #[.agg #[.string x.id, .slice a x.ls.length ca, .string x.car, .string x.zone, .string x.serv, .int .i64 x.total, .int .i64 x.phase, .bool x.given, .int .i64 x.ref, .int .i64 x.batch], .agg #[.string y.id, .slice b y.ls.length cb, .string y.car, .string y.zone, .string y.serv, .int .i64 y.total, .int .i64 y.phase, .bool y.given, .int .i64 y.ref, .int .i64 y.batch]] (farOf W p) (Tell (sameO x y) (farOf W p)) from oSame_any a b ca cb x y _ (K3.out.one.od.below (far_below W p)) (K3.out.two.od.below (far_below W p)))
      have C4 := Lib.hid (fun (p : Far W) => show Calls Try.prog 13 #[.agg #[.string x.id, .slice a x.ls.length ca, .string x.car, .string x.zone, .string x.serv, .int .i64 x.total, .int .i64 x.phase, .bool x.given, .int .i64 x.ref, .int .i64 x.batch], .agg #[.string y.id, .slice b y.ls.length cb, .string y.car, .string y.zone, .string y.serv, .int .i64 y.total, .int .i64 y.phase, .bool y.given, .int .i64 y.ref, .int .i64 y.batch]] (farOf W p) (Tell (sameO x y) (farOf W p)) from refOSame_any a b ca cb x y _ (K3.out.one.od.below (far_below W p)) (K3.out.two.od.below (far_below W p)))
      have C5 := Lib.hid (fun (p : Far W) => show Calls Try.prog 12 #[.agg #[.string x.id, .slice a x.ls.length ca, .string x.car, .string x.zone, .string x.serv, .int .i64 x.total, .int .i64 x.phase, .bool x.given, .int .i64 x.ref, .int .i64 x.batch], .agg #[.string x.id, .slice a2 x.ls.length p2, .string x.car, .string x.zone, .string x.serv, .int .i64 x.total, .int .i64 x.phase, .bool x.given, .int .i64 x.ref, .int .i64 x.batch]] (farOf W p) (Tell true (farOf W p)) from by
        have := oSame_any a a2 ca p2 x x _ (K3.out.one.od.below (far_below W p)) (L3.out.below (far_below W p))
        rw [(sameO_iff x x).2 rfl] at this
        exact this)
      obtain ⟨⟨c0, c1, c2, c3, c4⟩, c5, c6, c7, c8, c9⟩ := OdB.cells (o := x) K3.out.one.ord
      obtain ⟨⟨d0, d1, d2, d3, d4⟩, d5, d6, d7, d8, d9⟩ := OdB.cells (o := y) K3.out.two.ord
      have DC : Hid (OdB W w2.heap.size a2 p2 x) := Lib.hid D3.out
      obtain ⟨⟨e0, e1, e2, e3, e4⟩, e5, e6, e7, e8, e9⟩ := OdB.cells (o := x) DC.out
      have f0 := far_cell (OdB.lt (o := x) K3.out.one.ord) c0
      have f1 := far_cell (OdB.lt (o := x) K3.out.one.ord) c1
      have f2 := far_cell (OdB.lt (o := x) K3.out.one.ord) c2
      have f3 := far_cell (OdB.lt (o := x) K3.out.one.ord) c3
      have f4 := far_cell (OdB.lt (o := x) K3.out.one.ord) c4
      have f5 := far_cell (OdB.lt (o := x) K3.out.one.ord) c5
      have f6 := far_cell (OdB.lt (o := x) K3.out.one.ord) c6
      have f7 := far_cell (OdB.lt (o := x) K3.out.one.ord) c7
      have f8 := far_cell (OdB.lt (o := x) K3.out.one.ord) c8
      have f9 := far_cell (OdB.lt (o := x) K3.out.one.ord) c9
      have g0 := far_cell (OdB.lt (o := y) K3.out.two.ord) d0
      have g1 := far_cell (OdB.lt (o := y) K3.out.two.ord) d1
      have g2 := far_cell (OdB.lt (o := y) K3.out.two.ord) d2
      have g3 := far_cell (OdB.lt (o := y) K3.out.two.ord) d3
      have g4 := far_cell (OdB.lt (o := y) K3.out.two.ord) d4
      have g5 := far_cell (OdB.lt (o := y) K3.out.two.ord) d5
      have g6 := far_cell (OdB.lt (o := y) K3.out.two.ord) d6
      have g7 := far_cell (OdB.lt (o := y) K3.out.two.ord) d7
      have g8 := far_cell (OdB.lt (o := y) K3.out.two.ord) d8
      have g9 := far_cell (OdB.lt (o := y) K3.out.two.ord) d9
      have i0 := far_cell (OdB.lt (o := x) DC.out) e0
      have i1 := far_cell (OdB.lt (o := x) DC.out) e1
      have i2 := far_cell (OdB.lt (o := x) DC.out) e2
      have i3 := far_cell (OdB.lt (o := x) DC.out) e3
      have i4 := far_cell (OdB.lt (o := x) DC.out) e4
      have i5 := far_cell (OdB.lt (o := x) DC.out) e5
      have i6 := far_cell (OdB.lt (o := x) DC.out) e6
      have i7 := far_cell (OdB.lt (o := x) DC.out) e7
      have i8 := far_cell (OdB.lt (o := x) DC.out) e8
      have i9 := far_cell (OdB.lt (o := x) DC.out) e9
      clear c0 c1 c2 c3 c4 c5 c6 c7 c8 c9 d0 d1 d2 d3 d4 d5 d6 d7 d8 d9 e0 e1 e2 e3 e4 e5 e6 e7 e8 e9 D3
      cases hr : rightO x <;> cases hs : sameO x y
      all_goals
        rw [hr] at C1 C2
        rw [hs] at C3 C4
        clear hr hs
        refine wp_region_far (by kernel_rfl) (by kernel_rfl) ?_
        repeat (first | go_big_quiet_step (first | (go_at_call 10; exact calls_far (C1.out _)) | (go_at_call 11; exact calls_far (C2.out _)) | (go_at_call 13; exact calls_far (C4.out _)) | (go_at_call 12; with_reducible exact calls_far (C3.out _)) | (go_at_call 12; with_reducible exact calls_far (C5.out _))) | quiet_step (first | (go_at_call 10; exact calls_far (C1.out _)) | (go_at_call 11; exact calls_far (C2.out _)) | (go_at_call 13; exact calls_far (C4.out _)) | (go_at_call 12; with_reducible exact calls_far (C3.out _)) | (go_at_call 12; with_reducible exact calls_far (C5.out _))))
        refine wpQuiet_nil ?_
        intro _ hw'
        obtain ⟨p, hw''⟩ := hw'
        subst hw''
        have K4 := Lib.hid (K3.out.below (far_below W p))
        have O4 := Lib.hid (O3.out.below (far_below W p))
        have D4 : Hid (OdB (farOf W p) w2.heap.size a2 p2 x) := Lib.hid (OdB.below (o := x) DC.out (far_below W p))
        clear f0 f1 f2 f3 f4 f5 f6 f7 f8 f9 g0 g1 g2 g3 g4 g5 g6 g7 g8 g9 i0 i1 i2 i3 i4 i5 i6 i7 i8 i9 C1 C2 C3 C4 C5 K3 O3 DC L3
        generalize farOf W p = W4 at *
        obtain ⟨⟨c0, c1, c2, c3, c4⟩, c5, c6, c7, c8, c9⟩ := OdB.cells (o := x) K4.out.one.ord
        obtain ⟨⟨e0, e1, e2, e3, e4⟩, e5, e6, e7, e8, e9⟩ := OdB.cells (o := x) D4.out
        by_cases hz : 0 < x.ls.length
        · have HS := Lib.hid (K4.out.one.od.lns.size)
          obtain ⟨bb, oo, ea, hbb, q1, q2, q3, _⟩ := K4.out.one.od.lns.at 0 hz
          have hca := K4.out.one.od.lns.cap
          obtain ⟨gc, pc, ec, hbase, hgc, hcp, _, r1, r2, r3, rf⟩ := O4.out.at 0 hz
          injection ec with ec1 ec2 ec3
          subst ec1 ec3
          subst ea
          have hgc2 := HB2.out gc rfl
          have hne : gc ≠ w2.heap.size := by omega
          simp only [Nat.zero_mul, Nat.add_zero, Nat.zero_add] at q1 q2 q3 r1 r2 r3
          have hxo := Lib.hid (xor_one x.ls[0].qty)
          have hq := eq_ln x.ls[0]
          obtain ⟨r, hr⟩ : ∃ r, bits .xor .i64 x.ls[0].qty 1 = r := ⟨_, rfl⟩
          rw [hr] at hxo
          have rf1 := rf 1
          have hd4 := OdB.lt (o := x) D4.out
          have hk4 := OdB.lt (o := x) K4.out.one.ord
          go_wp2_with fail
          have BC := Lib.hid (((But.refl gc W4).set 1 (.int .i64 r)).trans (But.alloc gc (W4.setCell ⟨gc, 1, none⟩ (.int .i64 r)) (Obj.cells #[Value.string x.ls[0].sku, Value.int IntKind.i64 x.ls[0].qty, Value.int IntKind.i64 x.ls[0].wt] 34)))
          have K6 := Lib.hid (K4.out.one.but HA.out BC.out (by omega) (by omega))
          have D6 : Hid (OdB ((W4.setCell ⟨gc, 1, none⟩ (.int .i64 r)).alloc (Obj.cells #[Value.string x.ls[0].sku, Value.int IntKind.i64 x.ls[0].qty, Value.int IntKind.i64 x.ls[0].wt] 34)) w2.heap.size (some ⟨gc, 0, none⟩) p2 x) := Lib.hid ((BC.out.block w2.heap.size hd4 (Ne.symm hne)).trans D4.out)
          have RL : Hid (Row ((W4.setCell ⟨gc, 1, none⟩ (.int .i64 r)).alloc (Obj.cells #[Value.string x.ls[0].sku, Value.int IntKind.i64 x.ls[0].qty, Value.int IntKind.i64 x.ls[0].wt] 34)) W4.heap.size 34 #[Value.string x.ls[0].sku, Value.int IntKind.i64 x.ls[0].qty, Value.int IntKind.i64 x.ls[0].wt]) := Lib.hid (by
            have := heap_alloc_new (W4.setCell ⟨gc, 1, none⟩ (.int .i64 r)) (Obj.cells #[Value.string x.ls[0].sku, Value.int IntKind.i64 x.ls[0].qty, Value.int IntKind.i64 x.ls[0].wt] 34)
            rwa [show (W4.setCell ⟨gc, 1, none⟩ (.int .i64 r)).heap.size = W4.heap.size by simp [World.setCell]] at this)
          have O6 := Lib.hid ((OwnL.set O4.out 0 hz r).below ((Below.refl _ _).alloc (Nat.le_refl _) (Obj.cells #[Value.string x.ls[0].sku, Value.int IntKind.i64 x.ls[0].qty, Value.int IntKind.i64 x.ls[0].wt] 34)))
          simp only [Nat.zero_mul, Nat.zero_add] at O6
          obtain ⟨x', hx'⟩ : ∃ x' : Od, x' = { x with ls := x.ls.set 0 { x.ls[0] with qty := r } } := ⟨_, rfl⟩
          have hxl : x'.ls.length = x.ls.length := by rw [hx']; exact List.length_set
          have L6 := Lib.hid (show OdP ((W4.setCell ⟨gc, 1, none⟩ (.int .i64 r)).alloc (Obj.cells #[Value.string x.ls[0].sku, Value.int IntKind.i64 x.ls[0].qty, Value.int IntKind.i64 x.ls[0].wt] 34)) (some ⟨gc, 0, none⟩) p2 x' from by
            have hsz : ∀ z ∈ x.ls.set 0 { x.ls[0] with qty := r }, z.sku.size ≤ maxLen := by
              intro z hz2
              rcases List.mem_or_eq_of_mem_set hz2 with h | h
              · exact HS.out z h
              · rw [h]; exact HS.out x.ls[0] (List.getElem_mem hz)
            obtain ⟨a', c', e, h⟩ := O6.out.lns hsz
            injection e with e1 e2 e3
            subst e1 e3 hx'
            exact ⟨h, by rw [List.length_set]; exact K4.out.one.od.len, K4.out.one.od.id, K4.out.one.od.car, K4.out.one.od.zone, K4.out.one.od.serv⟩)
          have HF := Lib.hid (show sameO x x' = false by
            cases h : sameO x x' with
            | false => rfl
            | true =>
              exfalso
              have e := (sameO_iff _ _).1 h
              rw [hx'] at e
              have e2 : x.ls = x.ls.set 0 { x.ls[0] with qty := r } := congrArg Od.ls e
              have e3 : x.ls[0]? = (x.ls.set 0 { x.ls[0] with qty := r })[0]? := congrArg (fun l => l[0]?) e2
              rw [List.getElem?_eq_getElem hz, List.getElem?_set_self hz] at e3
              injection e3 with e3
              exact hxo.out (congrArg Ln.qty e3).symm)
          have HV : Hid (odV (some ⟨gc, 0, none⟩) p2 x' = .agg #[.string x.id, .slice (some ⟨gc, 0, none⟩) x.ls.length p2, .string x.car, .string x.zone, .string x.serv, .int .i64 x.total, .int .i64 x.phase, .bool x.given, .int .i64 x.ref, .int .i64 x.batch]) := Lib.hid (by unfold odV; rw [hxl]; subst hx'; rfl)
          generalize (W4.setCell ⟨gc, 1, none⟩ (.int .i64 r)).alloc (Obj.cells #[Value.string x.ls[0].sku, Value.int IntKind.i64 x.ls[0].qty, Value.int IntKind.i64 x.ls[0].wt] 34) = V at *
          have C6 := Lib.hid (fun (p : Far V) => show Calls Try.prog 12 #[.agg #[.string x.id, .slice (some ⟨bb, oo, none⟩) x.ls.length ca, .string x.car, .string x.zone, .string x.serv, .int .i64 x.total, .int .i64 x.phase, .bool x.given, .int .i64 x.ref, .int .i64 x.batch], .agg #[.string x.id, .slice (some ⟨gc, 0, none⟩) x.ls.length p2, .string x.car, .string x.zone, .string x.serv, .int .i64 x.total, .int .i64 x.phase, .bool x.given, .int .i64 x.ref, .int .i64 x.batch]] (farOf V p) (Tell false (farOf V p)) from by
            have := oSame_any (some ⟨bb, oo, none⟩) (some ⟨gc, 0, none⟩) ca p2 x x' _ (K6.out.od.below (far_below V p)) (L6.out.below (far_below V p))
            rw [HF.out, HV.out] at this
            exact this)
          obtain ⟨b3, o3, ea3, hb3, v1, v2, v3, _⟩ := K6.out.od.lns.at 0 hz
          injection ea3 with ea3
          injection ea3 with eb3 eo3
          subst eb3 eo3
          simp only [Nat.zero_mul, Nat.add_zero] at v1 v2 v3
          clear c0 c1 c2 c3 c4 c5 c6 c7 c8 c9 e0 e1 e2 e3 e4 e5 e6 e7 e8 e9 q1 q2 q3 r1 r2 r3 rf rf1
          obtain ⟨⟨c0, c1, c2, c3, c4⟩, c5, c6, c7, c8, c9⟩ := OdB.cells (o := x) K6.out.ord
          obtain ⟨⟨e0, e1, e2, e3, e4⟩, e5, e6, e7, e8, e9⟩ := OdB.cells (o := x) D6.out
          obtain ⟨⟨u0, u1, u2⟩, _⟩ := cellsR3 RL.out
          have f0 := far_cell (OdB.lt (o := x) K6.out.ord) c0
          have f1 := far_cell (OdB.lt (o := x) K6.out.ord) c1
          have f2 := far_cell (OdB.lt (o := x) K6.out.ord) c2
          have f3 := far_cell (OdB.lt (o := x) K6.out.ord) c3
          have f4 := far_cell (OdB.lt (o := x) K6.out.ord) c4
          have f5 := far_cell (OdB.lt (o := x) K6.out.ord) c5
          have f6 := far_cell (OdB.lt (o := x) K6.out.ord) c6
          have f7 := far_cell (OdB.lt (o := x) K6.out.ord) c7
          have f8 := far_cell (OdB.lt (o := x) K6.out.ord) c8
          have f9 := far_cell (OdB.lt (o := x) K6.out.ord) c9
          have i0 := far_cell (OdB.lt (o := x) D6.out) e0
          have i1 := far_cell (OdB.lt (o := x) D6.out) e1
          have i2 := far_cell (OdB.lt (o := x) D6.out) e2
          have i3 := far_cell (OdB.lt (o := x) D6.out) e3
          have i4 := far_cell (OdB.lt (o := x) D6.out) e4
          have i5 := far_cell (OdB.lt (o := x) D6.out) e5
          have i6 := far_cell (OdB.lt (o := x) D6.out) e6
          have i7 := far_cell (OdB.lt (o := x) D6.out) e7
          have i8 := far_cell (OdB.lt (o := x) D6.out) e8
          have i9 := far_cell (OdB.lt (o := x) D6.out) e9
          have y0 := far_cell (a := ⟨bb, oo, none⟩) hb3 v1
          have y1 := far_cell (a := ⟨bb, oo + 1, none⟩) hb3 v2
          have y2 := far_cell (a := ⟨bb, oo + 2, none⟩) hb3 v3
          have z0 := far_cell RL.out.lt u0
          have z1 := far_cell RL.out.lt u1
          have z2 := far_cell RL.out.lt u2
          clear c0 c1 c2 c3 c4 c5 c6 c7 c8 c9 e0 e1 e2 e3 e4 e5 e6 e7 e8 e9 u0 u1 u2 v1 v2 v3
          refine wp_region_far (by kernel_rfl) (by kernel_rfl) ?_
          repeat (first | go_big_quiet_step ((go_at_call 12; exact calls_far (C6.out _))) | quiet_step ((go_at_call 12; exact calls_far (C6.out _))))
          refine wpQuiet_nil ?_
          intro _ hw'
          obtain ⟨p, hw''⟩ := hw'
          subst hw''
          go_wp2_with fail
          go_ret
          exact ⟨rfl, K6.out.low.trans ((far_below V p).mono K6.out.low.size)⟩
        · have hz' : x.ls.length = 0 := by omega
          go_wp2_with fail
          go_ret
          exact ⟨rfl, K4.out.one.low⟩


set_option maxRecDepth 100000 in
theorem orderTells_lifted (os : Os) (started : os.Started) (H : Type) (enc : TypeId × Value → H) :
    ReturnsInHanded {} Try.checked os 3 .any (Rows.orderTellsSpec.pre6 enc Try.prog Try.f3 Rows.orderTellsRow.domain false) (Rows.orderTellsSpec.post enc Try.prog Try.f3 false true false false) := by
  refine returnsInHanded_of_change (C := Try.checked) own started (by kernel_rfl) Try.func3
    (ChangeSpec.witness6 (enc := enc) (C := Try.checked) false ⟨#[], #[.agg #[.string ⟨#[]⟩, .slice none 0 0, .string ⟨#[]⟩, .string ⟨#[]⟩, .string ⟨#[]⟩, .int .i64 0, .int .i64 0, .bool false, .int .i64 0, .int .i64 0], .agg #[.string ⟨#[]⟩, .slice none 0 0, .string ⟨#[]⟩, .string ⟨#[]⟩, .string ⟨#[]⟩, .int .i64 0, .int .i64 0, .bool false, .int .i64 0, .int .i64 0]], []⟩ 8 (by kernel_rfl) (by kernel_rfl) (by kernel_rfl) (by kernel_rfl)) ?_
  intro W base args ds gs before hval0 hW _ _
  have hval : ∀ (j : Nat) t v, Try.f3.params[j]? = some t → args[j]? = some v → Value.okWide Try.prog W .any base t v := hval0
  have hW' := hW
  obtain ⟨p, q, hA0, hV, rfl, _, _⟩ := hW
  have hA : DataW.TrodAll enc Try.prog W 0 (fun _ => true) true Try.f3.params.toList args.toList ds p := hA0
  rw [Try.params3] at hA hval
  obtain ⟨v0, vs0, d0, ds0, p0, q_0, hargs, rfl, rfl, h0, r0⟩ := trodAll_cons hA
  obtain ⟨v1, vs1, d1, ds1, p1, q_1, rfl, rfl, rfl, h1, r1⟩ := trodAll_cons r0
  obtain ⟨rfl, rfl, rfl⟩ := trodAll_nil r1
  obtain rfl : args = #[v0, v1] := by cases args; simp_all
  obtain ⟨rfl, rfl⟩ := trodVars_none hV
  clear hA0 hval0
  simp only [List.append_nil] at hW'
  obtain ⟨q0, cap0, o0, rfl, hS0⟩ := order_of_trod (hval 0 28 v0 rfl rfl) h0
  have hlt0 : ∀ x ∈ p0, x.block < W.heap.size := fun x hx => by simpa using hW'.lt x (by simpa using (by simp [hx]))
  obtain ⟨q1, cap1, o1, rfl, hS1⟩ := order_of_trod (hval 1 28 v1 rfl rfl) h1
  have hlt1 : ∀ x ∈ p1, x.block < W.heap.size := fun x hx => by simpa using hW'.lt x (by simpa using (by simp [hx]))
  refine (tells_walk q0 q1 cap0 cap1 o0 o1 W hS0.od hS1.od).mono fun e W' ⟨he, hb⟩ => ?_
  subst he
  have hT : DataW.TrodAll enc Try.prog W' 0 (fun b => decide (b < W.heap.size)) true _ _ _ _ := (trodAll_cons_mk (Below.trod laidOut (by kernel_rfl) (of_decide_eq_true (by kernel_rfl)) h0 hb hlt0) (trodAll_cons_mk (Below.trod laidOut (by kernel_rfl) (of_decide_eq_true (by kernel_rfl)) h1 hb hlt1) trodAll_mk0))
  simp only [List.append_nil] at hT
  exact ⟨_, rfl, _, _, _, [], p0 ++ (p1), [], hW', trodAll_mk1 (shut_bool Try.underlying4 _), hT, rfl, hb.frame _, fun h => by cases h⟩

theorem orderTells_holds : Rows.OrderTellsSaid :=
  OpenClaim.holds_of_wide 3 Try.f3 rfl rfl rfl rfl rfl rfl rfl ⟨rfl, rfl, rfl, rfl, rfl⟩ rfl rfl rfl rfl rfl (by kernel_rfl) Try.func3 (by kernel_rfl)
    (of_decide_eq_true (by kernel_rfl)) (by unfold Func.isWrapper; first | (rw [if_pos (by decide +kernel)]; kernel_rfl) | (rw [if_neg (by decide +kernel)]; exact ⟨rfl, rfl⟩))
    (fun os started H enc _ => orderTells_lifted os started H enc)
#print axioms orderTells_holds


end Go.Proofs.Ytpmgafmbmjokhaa
