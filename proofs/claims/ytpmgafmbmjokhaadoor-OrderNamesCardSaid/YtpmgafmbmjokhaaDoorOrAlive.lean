/- The law's example: what orderAlive answers. -/
import Derived.Test.YtpmgafmbmjokhaaDoorOrCopy
namespace Go.Proofs.YtpmgafmbmjokhaaDoor
open Go.RowKit Go.ChangeShapes Go.WideShapes Go.ChangeAt

theorem plain_fits : (∀ x ∈ plainO.ls, x.sku.size ≤ 32) ∧ plainO.ls.length ≤ 8 ∧ plainO.id.size ≤ 32 ∧ plainO.car.size ≤ 32 ∧ plainO.zone.size ≤ 32 ∧ plainO.serv.size ≤ 32 := by
  refine ⟨fun x hx => ?_, by decide, by decide, by decide, by decide, by decide⟩
  have e : x = ⟨⟨#[120]⟩, 2, 5⟩ := by simpa [plainO] using hx
  rw [e]; decide
theorem one_98 (W : World) : BytesP (W.alloc (.cells #[.int .u8 98] 5 (1, 2))) (some ⟨W.heap.size, 0, none⟩) 1 [98] := bytes_block [98] (by intro b hb; simp at hb; omega) (by simp) W 5 (1, 2)

/-- An order's bytes are taken as that order. -/
theorem takeO_put {o : Od} (h : rightO o = true) (r : List Nat) : takeO (some (orderL o ++ r)) = o ∧ takeE (some (orderL o ++ r)) = 0 ∧ (takeS (some (orderL o ++ r))).2 = some r := by
  unfold takeO takeE
  rw [takeV_put h, takeS_put h]
  exact ⟨rfl, rfl, rfl⟩

set_option maxRecDepth 100000 in
set_option maxHeartbeats 4000000 in
theorem alive_any (w : World) : Calls Tryd.prog 8 #[] w (Tell true w) := by
  have CP := Lib.hid (fun W => plain_any W)
  have kc := fun (w : World) (C : Array Value) (n c : Nat) => Lib.run_convert_bytes_const (P := Tryd.prog) w 28 5 C n c Tryd.underlying28 Tryd.underlying5
  have HB := Lib.hid (one_98 w)
  have B0 := Lib.hid ((Below.refl w.heap.size w).alloc (Nat.le_refl _) (.cells #[.int .u8 98] 5 (1, 2)))
  have PR := Lib.hid plain_right
  have PF := Lib.hid plain_fits
  have CB := Lib.hid (fun a oa cap oc W h1 h2 => put_any a oa cap oc [98] plainO W h1 h2 plain_right (by simp))
  have YB := Lib.hid (orderL_bytes plainO)
  have hyl := plain_len
  obtain ⟨T1, T2, T3⟩ := takeO_put plain_right []
  rw [List.append_nil] at T1 T2 T3
  generalize orderL plainO = y at *
  have CT := Lib.hid (fun W g (h : RdS W g (some y)) => take_any W g (some y) h)
  unfold TakeO at CT
  rw [T1, T2, T3] at CT
  have SM := Lib.hid (show sameO plainO plainO = true from (sameO_iff _ _).2 rfl)
  clear T1 T2 T3
  generalize hpo : plainO = po at *
  have HL := Lib.hid (show ([98] ++ y).length = 20 by simp; omega)
  have HBB := Lib.hid (show Bytes ([98] ++ y) from bytes_app (by intro b hb; simp at hb; omega) YB.out)
  have HYL := Lib.hid hyl
  clear hyl
  go_enter Tryd.func8, Tryd.ntmps8
  go_wp2_with fail
  generalize w.alloc (Obj.cells #[Value.int .u8 98] 5 (1, 2)) = W0 at *
  refine (CP.out _).mono ?_
  rintro e w1 ⟨ap, pp, rfl, o1, b1⟩
  have P1 := Lib.hid (odP_own o1 PF.out)
  have B1 := Lib.hid (B0.out.trans (b1.mono B0.out.size))
  have C1 := Lib.hid (CB.out _ ap _ pp w1 (HB.out.below b1) P1.out)
  clear o1 b1 kc HB B0 CB P1
  go_wp2_with fail
  refine C1.out.mono ?_
  rintro e w2 ⟨v2, rfl, o2, b2⟩
  obtain ⟨a2, p2, e2, h2⟩ := o2.bytes HBB.out
  rw [HL.out] at e2
  subst e2
  have B2 := Lib.hid (B1.out.trans (b2.mono B1.out.size))
  obtain ⟨bb, oo, ea, _, hcl⟩ := h2.cell (by simp)
  subst ea
  have c98 : w2.cell? ⟨bb, oo, none⟩ = some (.int .u8 98) := hcl 0 98 rfl
  have hcp := h2.cap
  rw [HL.out] at hcp
  obtain ⟨a3, p3, s3, k3⟩ := slice_from (a := some ⟨bb, oo, none⟩) h2.cap 1 1 rfl (by rw [HL.out]; omega)
  have H3 : Hid (BytesP w2 a3 p3 y) := Lib.hid (k3 w2 h2)
  have s3 : ∀ W, (Instr.slice 28 (.slice (some ⟨bb, oo, none⟩) 20 p2) (some (.int .i64 1)) none none).run Tryd.prog W = .ok (.slice a3 y.length p3) W := by
    intro W
    have := s3 W
    rw [HL.out] at this
    exact this
  clear k3 h2 hcl o2 b2 C1 B1
  go_wp2_with fail
  refine (new_any a3 p3 y w2 H3.out (by have := HYL.out; omega)).mono ?_
  rintro e w3 ⟨g, rfl, r3, b3, hg3⟩
  have R3 : Hid (RdS w3 g (some y)) := Lib.hid (.inr ⟨y, 0, rfl, r3⟩)
  have B3 := Lib.hid (B2.out.trans (b3.mono B2.out.size))
  clear r3 b3 H3 c98 s3
  go_wp2_with fail
  refine (CT.out _ _ R3.out).mono ?_
  rintro e w4 ⟨a4, p4, rfl, o4, r4, b4⟩
  have P4 := Lib.hid (odP_own o4 PF.out)
  have B4 := Lib.hid (B3.out.trans (b4.below (by have := B2.out.size; omega) B3.out.size))
  have A4 := Lib.hid ((Below.refl w4.heap.size w4).alloc (Nat.le_refl _) (.cells (odC a4 p4 po) 36))
  have D4 := Lib.hid (OdB.new w4 a4 p4 po)
  unfold odV
  unfold odC at *
  clear o4 r4 b4 R3 B3
  go_wp2_with fail
  generalize w4.alloc (Obj.cells #[Value.string po.id, Value.slice a4 po.ls.length p4, Value.string po.car, Value.string po.zone, Value.string po.serv, Value.int IntKind.i64 po.total, Value.int IntKind.i64 po.phase, Value.bool po.given, Value.int IntKind.i64 po.ref, Value.int IntKind.i64 po.batch] 36) = W at *
  have P5 := Lib.hid (P4.out.below A4.out)
  have B5 := Lib.hid (B4.out.trans (A4.out.mono B4.out.size))
  have BD := Lib.hid (show Below W.heap.size W W.drew from ⟨rfl, rfl, rfl, Nat.le_refl _, fun _ _ => rfl⟩)
  have D5 : Hid (OdB W.drew w4.heap.size a4 p4 po) := Lib.hid (OdB.below (o := po) D4.out BD.out)
  clear P4 A4 B4 D4
  obtain ⟨⟨c0, c1, c2, c3, c4⟩, c5, c6, c7, c8, c9⟩ := OdB.cells (o := po) D5.out
  go_region_law (first
    | (go_simp; go_at_call 11; refine (CP.out _).mono ?_; rintro e w5 ⟨a5, p5, rfl, o5, b5⟩; have D6 := Lib.hid (OdB.below (o := po) D5.out b5); have P6 := Lib.hid (odP_own o5 PF.out); have Q6 := Lib.hid ((P5.out.below BD.out).below b5); have B6 := Lib.hid (BD.out.trans (b5.mono BD.out.size)); unfold odV; obtain ⟨⟨x0, x1, x2, x3, x4⟩, x5, x6, x7, x8, x9⟩ := OdB.cells (o := po) D6.out; clear o5 b5)
    | (go_simp; go_at_call 14; refine (oSame_any a4 a5 p4 p5 po po w5 Q6.out P6.out).mono ?_; rw [SM.out]; rintro e w6 ⟨rfl, b6⟩; have D7 := Lib.hid (OdB.below (o := po) D6.out b6); have Q7 := Lib.hid (Q6.out.below b6); have B7 := Lib.hid (B6.out.trans (b6.mono B6.out.size)); obtain ⟨⟨z0, z1, z2, z3, z4⟩, z5, z6, z7, z8, z9⟩ := OdB.cells (o := po) D7.out; clear b6)
    | (go_simp; go_at_call 15; refine (oRight_any a4 p4 po w6 Q7.out).mono ?_; rw [PR.out]; rintro e w7 ⟨rfl, b7⟩; have B8 := Lib.hid (B7.out.trans (b7.mono B7.out.size)); clear b7))
  all_goals
    go_wp2_with fail
    go_ret
    exact ⟨rfl, B5.out.trans (B8.out.mono B5.out.size)⟩

/-- An order that came in, in a block of its own. -/
structure HldI (w : World) (g : Nat) (a : Option Addr) (cap : Nat) (o : Od) (W : World) : Prop where
  ord : OdB W g a cap o
  low : Below w.heap.size w W
  od : OdP W a cap o

theorem HldI.below {w W W' : World} {g : Nat} {a : Option Addr} {cap : Nat} {o : Od} (h : HldI w g a cap o W) (b : Below W.heap.size W W') : HldI w g a cap o W' :=
  ⟨OdB.below (o := o) h.ord b, h.low.trans (b.mono h.low.size), h.od.below b⟩
theorem HldI.new {w : World} {a : Option Addr} {cap : Nat} {o : Od} (h : OdP w a cap o) : HldI w w.heap.size a cap o (w.alloc (.cells (odC a cap o) 36)) := by
  have b := (Below.refl w.heap.size w).alloc (Nat.le_refl _) (.cells (odC a cap o) 36)
  exact ⟨OdB.new w a cap o, b, h.below b⟩

theorem HldI.grown {w W W' : World} {g : Nat} {a : Option Addr} {cap : Nat} {o : Od} {row : Option Nat} (h : HldI w g a cap o W) (ho : OdP w a cap o) (gr : W.grownBy W' row) (hr : ∀ k, row = some k → g < k ∧ w.heap.size ≤ k) : HldI w g a cap o W' := by
  have b := h.low.grown gr h.low.size (fun k hk => (hr k hk).2)
  exact ⟨(gr.block g h.ord.lt (fun e => by have := hr _ e.symm; omega)).trans h.ord, b, ho.below b⟩
theorem HldI.but {w W W' : World} {g r : Nat} {a : Option Addr} {cap : Nat} {o : Od} (h : HldI w g a cap o W) (ho : OdP w a cap o) (b : But r W W') (hg : g ≠ r) (hr : w.heap.size ≤ r) : HldI w g a cap o W' := by
  have q := h.low.trans (b.below hr h.low.size)
  exact ⟨(b.block g h.ord.lt hg).trans h.ord, q, ho.below q⟩

theorem strB_take {l : List Nat} (h : Bytes l) (n : Nat) : (strB l).extract 0 n = strB (l.take n) := by
  apply strL_inj
  rw [strL_strB (fun x hx => h x (List.mem_of_mem_take hx))]
  conv => rhs; rw [← strL_strB h]
  unfold strL
  rw [ByteArray.data_extract, Array.toList_extract]
  simp [List.extract_eq_take_drop, List.map_take]

theorem no_fits : (∀ x ∈ noO.ls, x.sku.size ≤ 32) ∧ noO.ls.length ≤ 8 ∧ noO.id.size ≤ 32 ∧ noO.car.size ≤ 32 ∧ noO.zone.size ≤ 32 ∧ noO.serv.size ≤ 32 :=
  ⟨fun x hx => (by simp [noO] at hx), by decide, by decide, by decide, by decide, by decide⟩
theorem no_od (w : World) : OdP w none 0 noO := odP_own (OwnL.nil w 0) no_fits
theorem right_fits {o : Od} (h : rightO o = true) : (∀ x ∈ o.ls, x.sku.size ≤ 32) ∧ o.ls.length ≤ 8 ∧ o.id.size ≤ 32 ∧ o.car.size ≤ 32 ∧ o.zone.size ≤ 32 ∧ o.serv.size ≤ 32 := by
  obtain ⟨k1, k2, k3, _, _, _⟩ := rightO_of h
  obtain ⟨k4, k5, k6⟩ := groupB_of k2
  obtain ⟨⟨_, k8⟩, k9, _⟩ := (rightLB_iff _).1 k3
  exact ⟨fun x hx => right_32 (lineB_of (k9 x hx)).1, k8, right_32 k1, right_32 k4, right_32 k5, right_32 k6⟩
theorem linesL_len : ∀ (l : List Ln), (∀ x ∈ l, lineB x = true) → (linesL l).length ≤ 62 * l.length
  | [], _ => by simp [linesL]
  | x :: l, h => by
    obtain ⟨h0, h1, h2, h3, h4⟩ := lineB_of (h x (by simp))
    have h5 := linesL_len l (fun y hy => h y (by simp [hy]))
    have t1 := textL_32 (right_32 (s := x.sku) h0)
    have t2 := numL_ten (show x.qty.toNat < 18446744073709551616 by omega)
    have t3 := numL_ten (show x.wt.toNat < 18446744073709551616 by omega)
    rw [linesL_cons, List.length_append, List.length_cons, lineL, List.length_append, List.length_append]
    omega
theorem orderL_len {o : Od} (h : rightO o = true) : (orderL o).length ≤ 1000 := by
  obtain ⟨k1, k2, k3, r4, r5, r6⟩ := rightO_of h
  obtain ⟨k4, k5, k6⟩ := groupB_of k2
  obtain ⟨⟨_, k8⟩, k9, _⟩ := (rightLB_iff _).1 k3
  have t1 := textL_32 (right_32 k1)
  have t2 := textL_32 (right_32 k4)
  have t3 := textL_32 (right_32 k5)
  have t4 := textL_32 (right_32 k6)
  have t5 := linesL_len _ k9
  have t6 := numL_ten (show o.ls.length < 18446744073709551616 by omega)
  have t7 := numL_ten (show o.total.toNat < 18446744073709551616 by omega)
  have t8 := numL_ten (show o.phase.toNat < 18446744073709551616 by omega)
  have q5 := givenN_le o.given
  have t9 := numL_ten (show givenN o.given < 18446744073709551616 by omega)
  have t10 := numL_ten (show o.ref.toNat < 18446744073709551616 by omega)
  have t11 := numL_ten (show o.batch.toNat < 18446744073709551616 by omega)
  unfold orderL
  simp only [List.length_append]
  omega

end Go.Proofs.YtpmgafmbmjokhaaDoor
