/- OrderTakes: the law returns true for any bytes: the order at their beginning, or none, is the document's, and its bytes are those that were taken. It has no conditions. -/
import Derived.Test.YtpmgafmbmjokhaaOrAlive
import Derived.Test.YtpmgafmbmjokhaaOrArgs
import Derived.Test.YtpmgafmbmjokhaaOrRTake
import Derived.Deep.DeepCutAuto
import Derived.Deep.CutBlock
import Derived.Deep.RegionHeldLaw
namespace Go.Proofs.Ytpmgafmbmjokhaa
open Go.ChangeShapes Go.WideShapes Go.ChangeAt Go.RowKit

theorem BytesP.beside {w w' : World} {a sa : Option Addr} {cap n sc k : Nat} {l : List Nat} {ok : Bool} {T : TypeId} (h : BytesP w a cap l) (R : Row w k T #[.slice sa n sc, .bool ok]) (hb : But k w w') : BytesP w' a cap l := by
  refine ⟨h.cap, h.len, h.byte, fun hne => ?_⟩
  obtain ⟨b, o, e, hlt, hc⟩ := h.cell hne
  have hbk : b ≠ k := by
    intro e2
    subst e2
    obtain ⟨x, hx⟩ : ∃ x, l[0]? = some x := by
      cases l with
      | nil => exact absurd rfl hne
      | cons y r => exact ⟨y, rfl⟩
    have h1 := hc 0 x hx
    rw [R.cell] at h1
    match o, h1 with
    | 0, h1 => simp at h1
    | 1, h1 => simp at h1
    | _ + 2, h1 => simp at h1
  exact ⟨b, o, e, Nat.lt_of_lt_of_le hlt hb.size, fun j x hx => (World.cell?_of_block (a := ⟨b, o + j, none⟩) (hb.block b hlt hbk)).trans (hc j x hx)⟩
/-- What a Scan reads on is nothing to a Reader. -/
theorem RdS.beside {w w' : World} {g k : Nat} {s t : Sc} (h : RdS w g s) (hs : SnS w k t) (hk : k ≠ g) (hb : But k w w') : RdS w' g s := by
  obtain ⟨sa, sc, sl, ok, R, _⟩ := hs
  have step : ∀ l pos bad, RdP w g l pos bad → RdP w' g l pos bad := by
    intro l pos bad q
    obtain ⟨a, c, h1, h2, h3⟩ := q.mem
    exact ⟨q.le, q.len, a, c, (hb.block g q.lt (Ne.symm hk)).trans h1, h2.beside R hb, h3⟩
  rcases h with ⟨e, h⟩ | ⟨l, p, e, h⟩
  · exact .inl ⟨e, step _ _ _ h⟩
  · exact .inr ⟨l, p, e, step _ _ _ h⟩

/-- What is taken of bytes. -/
theorem take_cases {l : List Nat} (h : Bytes l) : (takeE (some l) = 0 ∧ ∃ r, (takeS (some l)).2 = some r ∧ rightO (takeO (some l)) = true ∧ l = orderL (takeO (some l)) ++ r) ∨ (takeE (some l) = 101 ∧ takeO (some l) = noO) := by
  cases e : takeV (some l) with
  | none => exact .inr (by unfold takeE takeO; rw [e]; exact ⟨rfl, rfl⟩)
  | some o =>
    obtain ⟨r, h1, h2⟩ := takeV_some e
    have hb : BytesS (some l) := fun b hb => by cases hb; exact h
    have e1 := takeS_back hb (r := r) (by rw [h1])
    rw [h1] at e1
    injection e1 with e1
    have ho : takeO (some l) = o := by unfold takeO; rw [e]; rfl
    exact .inl ⟨by unfold takeE; rw [e]; rfl, r, by rw [h1], by rw [ho]; exact h2, by rw [ho]; exact e1⟩

set_option maxRecDepth 100000 in
set_option maxHeartbeats 8000000 in
theorem takes_walk (q : Option Addr) (qc : Nat) (l : List Nat) (w : World) (h : BytesP w q qc l) (_hm : l.length ≤ maxLen) : Calls Try.prog 5 #[.slice q l.length qc] w (Tell true w) := by
  have HL := Lib.hid h
  have hll := h.len
  have HC := take_cases h.byte
  clear h
  go_enter Try.func5, Try.ntmps5
  go_wp2_with fail
  refine (alive_any _).mono ?_
  rintro e w1 ⟨rfl, b1⟩
  have B1 := Lib.hid b1
  clear b1
  cases hn : decide (1000 < (l.length : Int)) with
  | true =>
    go_wp2_with fail
    go_ret
    exact ⟨rfl, B1.out⟩
  | false =>
    have hl1000 : l.length ≤ 1000 := by simp at hn; omega
    have H1 := Lib.hid (HL.out.below B1.out)
    have B2 := Lib.hid ((Below.refl w1.heap.size w1).alloc (Nat.le_refl _) (.cells #[.slice q l.length qc, .bool true] 46))
    have S2 : Hid (SnS (w1.alloc (.cells #[.slice q l.length qc, .bool true] 46)) w1.heap.size (some l)) := Lib.hid ⟨q, qc, l, true, heap_alloc_new _ _, H1.out.below B2.out, fun hne b o e => (by obtain ⟨b', o', e', hlt, _⟩ := H1.out.cell hne; rw [e] at e'; injection e' with e'; injection e' with e1 _; omega), rfl⟩
    have CN := Lib.hid (new_any q qc l _ (H1.out.below B2.out) (by omega))
    have B3 := Lib.hid (B1.out.trans (B2.out.mono B1.out.size))
    have hs1 := B1.out.size
    clear H1 B1
    go_wp2_with fail
    generalize w1.alloc (Obj.cells #[Value.slice q l.length qc, Value.bool true] 46) = W2 at *
    generalize hsb : w1.heap.size = sb at *
    refine CN.out.mono ?_
    rintro e w3 ⟨g, rfl, r3, b3, hg3⟩
    have R3 : Hid (RdS w3 g (some l)) := Lib.hid (.inr ⟨l, 0, rfl, r3⟩)
    have S3 := Lib.hid (S2.out.below b3)
    have hsg : sb < g := Nat.lt_of_lt_of_le S2.out.lt hg3
    have B4 := Lib.hid (B3.out.trans (b3.mono B3.out.size))
    clear r3 b3 CN S2 B2 B3
    have CT := Lib.hid (fun W g (h : RdS W g (some l)) => take_any W g (some l) h)
    have CU := Lib.hid (fun W g (h : SnS W g (some l)) => refTakeO_any W g (some l) h)
    unfold TakeO at CT
    have HF := Lib.hid (show (∀ x ∈ (takeO (some l)).ls, x.sku.size ≤ 32) ∧ (takeO (some l)).ls.length ≤ 8 ∧ (takeO (some l)).id.size ≤ 32 ∧ (takeO (some l)).car.size ≤ 32 ∧ (takeO (some l)).zone.size ≤ 32 ∧ (takeO (some l)).serv.size ≤ 32 from by
      rcases HC with ⟨_, r, _, hr, _⟩ | ⟨_, e⟩
      · exact right_fits hr
      · rw [e]; exact no_fits)
    generalize takeO (some l) = o at *
    generalize takeE (some l) = E at *
    generalize (takeS (some l)).2 = t at *
    have HCC := Lib.hid HC
    clear HC
    go_wp2_with fail
    refine (CT.out _ _ R3.out).mono ?_
    rintro e w5 ⟨a5, p5, rfl, o5, r5, b5⟩
    have hs3 := S3.out.lt
    have O5 := Lib.hid o5
    have R5 := Lib.hid r5
    have S5 := Lib.hid (S3.out.other hsg b5)
    have B5 := Lib.hid (B4.out.trans (b5.below (by omega) B4.out.size))
    clear o5 r5 b5 R3 S3 B4 CT
    have A5 := Lib.hid ((Below.refl w5.heap.size w5).alloc (Nat.le_refl _) (.cells (odC a5 p5 o) 28))
    have D5 : Hid (OdB (w5.alloc (.cells (odC a5 p5 o) 28)) w5.heap.size a5 p5 o) := Lib.hid (OdB.new w5 a5 p5 o)
    have O6 := Lib.hid (O5.out.below A5.out)
    have R6 := Lib.hid (R5.out.below A5.out)
    have S6 := Lib.hid (S5.out.below A5.out)
    have B6 := Lib.hid (B5.out.trans (A5.out.mono B5.out.size))
    have hs5 := S5.out.lt
    unfold odV
    unfold odC at *
    clear O5 R5 S5 A5 B5
    go_wp2_with fail
    generalize w5.alloc (Obj.cells #[Value.string o.id, Value.slice a5 o.ls.length p5, Value.string o.car, Value.string o.zone, Value.string o.serv, Value.int IntKind.i64 o.total, Value.int IntKind.i64 o.phase, Value.bool o.given, Value.int IntKind.i64 o.ref, Value.int IntKind.i64 o.batch] 28) = W6 at *
    refine (CU.out _ _ S6.out).mono ?_
    rintro e w7 ⟨a7, p7, rfl, o7, s7, b7⟩
    have D7 : Hid (OdB w7 w5.heap.size a5 p5 o) := Lib.hid ((b7.block w5.heap.size (OdB.lt (o := o) D5.out) (by omega)).trans D5.out)
    have P7 := Lib.hid (odP_own (O6.out.grown (w' := w7) fun k h1 h2 => b7.block k h2 (by omega)) HF.out)
    have R7 := Lib.hid (R6.out.beside S6.out (by omega) b7)
    have Q7 := Lib.hid (odP_own o7 HF.out)
    have S7 := Lib.hid s7
    have B7 := Lib.hid (B6.out.trans (b7.below (by omega) B6.out.size))
    clear o7 s7 b7 O6 R6 S6 B6 D5 CU
    have A8 := Lib.hid ((Below.refl w7.heap.size w7).alloc (Nat.le_refl _) (.cells (odC a7 p7 o) 28))
    have E8 : Hid (OdB (w7.alloc (.cells (odC a7 p7 o) 28)) w7.heap.size a7 p7 o) := Lib.hid (OdB.new w7 a7 p7 o)
    have D8 := Lib.hid (OdB.below (o := o) D7.out A8.out)
    have P8 := Lib.hid (P7.out.below A8.out)
    have Q8 := Lib.hid (Q7.out.below A8.out)
    have R8 := Lib.hid (R7.out.below A8.out)
    have S8 := Lib.hid (S7.out.below A8.out)
    have B8 := Lib.hid (B7.out.trans (A8.out.mono B7.out.size))
    unfold odV
    unfold odC at *
    clear P7 Q7 R7 S7 B7 D7 A8
    obtain ⟨⟨c0, c1, c2, c3, c4⟩, c5, c6, c7, c8, c9⟩ := OdB.cells (o := o) D8.out
    obtain ⟨⟨d0, d1, d2, d3, d4⟩, d5, d6, d7, d8, d9⟩ := OdB.cells (o := o) E8.out
    go_wp2_with fail
    generalize w7.alloc (Obj.cells #[Value.string o.id, Value.slice a7 o.ls.length p7, Value.string o.car, Value.string o.zone, Value.string o.serv, Value.int IntKind.i64 o.total, Value.int IntKind.i64 o.phase, Value.bool o.given, Value.int IntKind.i64 o.ref, Value.int IntKind.i64 o.batch] 28) = W8 at *
    refine (oSame_any a5 a7 p5 p7 o o _ P8.out Q8.out).mono ?_
    rw [(sameO_iff o o).2 rfl]
    rintro e w9 ⟨rfl, b9⟩
    have D9 := Lib.hid (OdB.below (o := o) D8.out b9)
    have P9 := Lib.hid (P8.out.below b9)
    have R9 := Lib.hid (R8.out.below b9)
    have S9 := Lib.hid (S8.out.below b9)
    have B9 := Lib.hid (B8.out.trans (b9.mono B8.out.size))
    clear b9 c0 c1 c2 c3 c4 c5 c6 c7 c8 c9 d0 d1 d2 d3 d4 d5 d6 d7 d8 d9 D8 E8 P8 Q8 R8 S8 B8
    rcases HCC.out with ⟨e1, r, e2, e3, e4⟩ | ⟨e1, e2⟩
    · subst e1 e2
      have hyl := orderL_len e3
      have HY := Lib.hid (orderL_bytes o)
      have BD := Lib.hid (show Below w9.heap.size w9 w9.drew from ⟨rfl, rfl, rfl, Nat.le_refl _, fun _ _ => rfl⟩)
      have CPA := Lib.hid (fun W (h : OdP W a5 p5 o) => show Calls Try.prog 14 #[.slice none 0 0, .agg #[.string o.id, .slice a5 o.ls.length p5, .string o.car, .string o.zone, .string o.serv, .int .i64 o.total, .int .i64 o.phase, .bool o.given, .int .i64 o.ref, .int .i64 o.batch]] W (OwnPost (orderL o) W) from put_any none a5 0 p5 [] o W (BytesP.nil _ _ _) h e3 (by simp))
      clear e3 HCC
      generalize orderL o = y at *
      have hlen : l.length = y.length + r.length := by rw [e4, List.length_append]
      have htake : l.take y.length = y := by rw [e4]; exact List.take_left
      have hsub : (l.length : Int) - (r.length : Int) = (y.length : Int) := by omega
      obtain ⟨sy, hsy⟩ : ∃ s, strB y = s := ⟨_, rfl⟩
      have HSY := Lib.hid hsy
      obtain ⟨aq, cq, sq, kq⟩ := slice_to (a := q) HL.out.cap y.length (y.length : Int) rfl (by omega)
      rw [htake] at sq
      have KQ := Lib.hid (fun W (h : BytesP W q qc l) => show (convert 35 9 (.slice aq y.length cq)).run Try.prog W = .ok (.string sy) W from by
        have := run_text (kq W h)
        rw [htake, hsy] at this
        exact this)
      have KS := Lib.hid (fun W (h : SnS W sb (some r)) => show ∃ sa sc, W.cell? ⟨sb, 0, none⟩ = some (.slice sa r.length sc) from by
        obtain ⟨sa, sc, sl, ok, R, _, _, e⟩ := h
        cases ok with
        | false => cases e
        | true =>
          injection e with e
          subst e
          exact ⟨sa, sc, R.cell 0⟩)
      have RD := Lib.hid (R9.out.below BD.out)
      have SD := Lib.hid (S9.out.below BD.out)
      have BB := Lib.hid (B9.out.trans (BD.out.mono B9.out.size))
      obtain ⟨sa, sc, u0⟩ := KS.out _ SD.out
      have tq := KQ.out _ (HL.out.below BB.out)
      obtain ⟨⟨c0, c1, c2, c3, c4⟩, c5, c6, c7, c8, c9⟩ := OdB.cells (o := o) (OdB.below (o := o) D9.out BD.out)
      have hwy : IntKind.i64.wrap (y.length : Int) = (y.length : Int) := by rw [IntKind.wrap_i64]; omega
      have HLEN := Lib.hid hlen
      clear e4 hsy kq htake R9 S9 B9 hlen
      go_wp2_with fail
      have HZ : Hid (((some r == (some [] : Sc)) == ((r.length : Int) == 0)) = true) := Lib.hid (by
        cases r with
        | nil => rfl
        | cons z rs => simp; omega)
      obtain ⟨dn, hdn⟩ : ∃ d, (some r == (some [] : Sc)) = d := ⟨_, rfl⟩
      have hz2 : ((r.length : Int) == 0) = dn := by
        have := HZ.out
        rw [hdn] at this
        exact (by simpa using this : dn = ((r.length : Int) == 0)).symm
      have HDN := Lib.hid hdn
      clear HZ hdn
      have DD := Lib.hid (OdB.below (o := o) D9.out BD.out)
      have PD := Lib.hid (P9.out.below BD.out)
      have hd9 : w5.heap.size < w9.drew.heap.size := OdB.lt (o := o) DD.out
      have hb9 : sb < w9.drew.heap.size := SD.out.lt
      have SK := Lib.hid (fun (W W' : World) (h : W.cell? ⟨w5.heap.size, 0, none⟩ = some (.string o.id) ∧ W.cell? ⟨w5.heap.size, 1, none⟩ = some (.slice a5 o.ls.length p5) ∧ W.cell? ⟨w5.heap.size, 2, none⟩ = some (.string o.car) ∧ W.cell? ⟨w5.heap.size, 3, none⟩ = some (.string o.zone) ∧ W.cell? ⟨w5.heap.size, 4, none⟩ = some (.string o.serv) ∧ W.cell? ⟨w5.heap.size, 5, none⟩ = some (.int .i64 o.total) ∧ W.cell? ⟨w5.heap.size, 6, none⟩ = some (.int .i64 o.phase) ∧ W.cell? ⟨w5.heap.size, 7, none⟩ = some (.bool o.given) ∧ W.cell? ⟨w5.heap.size, 8, none⟩ = some (.int .i64 o.ref) ∧ W.cell? ⟨w5.heap.size, 9, none⟩ = some (.int .i64 o.batch) ∧ W.cell? ⟨sb, 0, none⟩ = some (.slice sa r.length sc) ∧ (convert 35 9 (.slice aq y.length cq)).run Try.prog W = .ok (.string sy) W ∧ RdS W g (some r) ∧ OdP W a5 p5 o ∧ Below w.heap.size w W ∧ w5.heap.size < W.heap.size ∧ sb < W.heap.size) (b : Below W.heap.size W W') => show W'.cell? ⟨w5.heap.size, 0, none⟩ = some (.string o.id) ∧ W'.cell? ⟨w5.heap.size, 1, none⟩ = some (.slice a5 o.ls.length p5) ∧ W'.cell? ⟨w5.heap.size, 2, none⟩ = some (.string o.car) ∧ W'.cell? ⟨w5.heap.size, 3, none⟩ = some (.string o.zone) ∧ W'.cell? ⟨w5.heap.size, 4, none⟩ = some (.string o.serv) ∧ W'.cell? ⟨w5.heap.size, 5, none⟩ = some (.int .i64 o.total) ∧ W'.cell? ⟨w5.heap.size, 6, none⟩ = some (.int .i64 o.phase) ∧ W'.cell? ⟨w5.heap.size, 7, none⟩ = some (.bool o.given) ∧ W'.cell? ⟨w5.heap.size, 8, none⟩ = some (.int .i64 o.ref) ∧ W'.cell? ⟨w5.heap.size, 9, none⟩ = some (.int .i64 o.batch) ∧ W'.cell? ⟨sb, 0, none⟩ = some (.slice sa r.length sc) ∧ (convert 35 9 (.slice aq y.length cq)).run Try.prog W' = .ok (.string sy) W' ∧ RdS W' g (some r) ∧ OdP W' a5 p5 o ∧ Below w.heap.size w W' ∧ w5.heap.size < W'.heap.size ∧ sb < W'.heap.size from by
        obtain ⟨k0, k1, k2, k3, k4, k5, k6, k7, k8, k9, k10, _, k12, k13, k14, hd, hb⟩ := h
        have q := fun o2 => b.cell (p := ⟨w5.heap.size, o2, none⟩) hd
        have q14 := k14.trans (b.mono k14.size)
        exact ⟨(q 0).trans k0, (q 1).trans k1, (q 2).trans k2, (q 3).trans k3, (q 4).trans k4, (q 5).trans k5, (q 6).trans k6, (q 7).trans k7, (q 8).trans k8, (q 9).trans k9, (b.cell (p := ⟨sb, 0, none⟩) hb).trans k10, KQ.out _ (HL.out.below q14), k12.below b, k13.below b, q14, Nat.lt_of_lt_of_le hd b.size, Nat.lt_of_lt_of_le hb b.size⟩)
      have SR := Lib.hid (fun (W : World) (h : W.cell? ⟨w5.heap.size, 0, none⟩ = some (.string o.id) ∧ W.cell? ⟨w5.heap.size, 1, none⟩ = some (.slice a5 o.ls.length p5) ∧ W.cell? ⟨w5.heap.size, 2, none⟩ = some (.string o.car) ∧ W.cell? ⟨w5.heap.size, 3, none⟩ = some (.string o.zone) ∧ W.cell? ⟨w5.heap.size, 4, none⟩ = some (.string o.serv) ∧ W.cell? ⟨w5.heap.size, 5, none⟩ = some (.int .i64 o.total) ∧ W.cell? ⟨w5.heap.size, 6, none⟩ = some (.int .i64 o.phase) ∧ W.cell? ⟨w5.heap.size, 7, none⟩ = some (.bool o.given) ∧ W.cell? ⟨w5.heap.size, 8, none⟩ = some (.int .i64 o.ref) ∧ W.cell? ⟨w5.heap.size, 9, none⟩ = some (.int .i64 o.batch) ∧ W.cell? ⟨sb, 0, none⟩ = some (.slice sa r.length sc) ∧ (convert 35 9 (.slice aq y.length cq)).run Try.prog W = .ok (.string sy) W ∧ RdS W g (some r) ∧ OdP W a5 p5 o ∧ Below w.heap.size w W ∧ w5.heap.size < W.heap.size ∧ sb < W.heap.size) => show RdS W g (some r) from h.2.2.2.2.2.2.2.2.2.2.2.2.1)
      have SO := Lib.hid (fun (W : World) (h : W.cell? ⟨w5.heap.size, 0, none⟩ = some (.string o.id) ∧ W.cell? ⟨w5.heap.size, 1, none⟩ = some (.slice a5 o.ls.length p5) ∧ W.cell? ⟨w5.heap.size, 2, none⟩ = some (.string o.car) ∧ W.cell? ⟨w5.heap.size, 3, none⟩ = some (.string o.zone) ∧ W.cell? ⟨w5.heap.size, 4, none⟩ = some (.string o.serv) ∧ W.cell? ⟨w5.heap.size, 5, none⟩ = some (.int .i64 o.total) ∧ W.cell? ⟨w5.heap.size, 6, none⟩ = some (.int .i64 o.phase) ∧ W.cell? ⟨w5.heap.size, 7, none⟩ = some (.bool o.given) ∧ W.cell? ⟨w5.heap.size, 8, none⟩ = some (.int .i64 o.ref) ∧ W.cell? ⟨w5.heap.size, 9, none⟩ = some (.int .i64 o.batch) ∧ W.cell? ⟨sb, 0, none⟩ = some (.slice sa r.length sc) ∧ (convert 35 9 (.slice aq y.length cq)).run Try.prog W = .ok (.string sy) W ∧ RdS W g (some r) ∧ OdP W a5 p5 o ∧ Below w.heap.size w W ∧ w5.heap.size < W.heap.size ∧ sb < W.heap.size) => show OdP W a5 p5 o from h.2.2.2.2.2.2.2.2.2.2.2.2.2.1)
      have SB := Lib.hid (fun (W : World) (h : W.cell? ⟨w5.heap.size, 0, none⟩ = some (.string o.id) ∧ W.cell? ⟨w5.heap.size, 1, none⟩ = some (.slice a5 o.ls.length p5) ∧ W.cell? ⟨w5.heap.size, 2, none⟩ = some (.string o.car) ∧ W.cell? ⟨w5.heap.size, 3, none⟩ = some (.string o.zone) ∧ W.cell? ⟨w5.heap.size, 4, none⟩ = some (.string o.serv) ∧ W.cell? ⟨w5.heap.size, 5, none⟩ = some (.int .i64 o.total) ∧ W.cell? ⟨w5.heap.size, 6, none⟩ = some (.int .i64 o.phase) ∧ W.cell? ⟨w5.heap.size, 7, none⟩ = some (.bool o.given) ∧ W.cell? ⟨w5.heap.size, 8, none⟩ = some (.int .i64 o.ref) ∧ W.cell? ⟨w5.heap.size, 9, none⟩ = some (.int .i64 o.batch) ∧ W.cell? ⟨sb, 0, none⟩ = some (.slice sa r.length sc) ∧ (convert 35 9 (.slice aq y.length cq)).run Try.prog W = .ok (.string sy) W ∧ RdS W g (some r) ∧ OdP W a5 p5 o ∧ Below w.heap.size w W ∧ w5.heap.size < W.heap.size ∧ sb < W.heap.size) => show Below w.heap.size w W from h.2.2.2.2.2.2.2.2.2.2.2.2.2.2.1)
      have S0 : Hid (∀ W, W = w9.drew → W.cell? ⟨w5.heap.size, 0, none⟩ = some (.string o.id) ∧ W.cell? ⟨w5.heap.size, 1, none⟩ = some (.slice a5 o.ls.length p5) ∧ W.cell? ⟨w5.heap.size, 2, none⟩ = some (.string o.car) ∧ W.cell? ⟨w5.heap.size, 3, none⟩ = some (.string o.zone) ∧ W.cell? ⟨w5.heap.size, 4, none⟩ = some (.string o.serv) ∧ W.cell? ⟨w5.heap.size, 5, none⟩ = some (.int .i64 o.total) ∧ W.cell? ⟨w5.heap.size, 6, none⟩ = some (.int .i64 o.phase) ∧ W.cell? ⟨w5.heap.size, 7, none⟩ = some (.bool o.given) ∧ W.cell? ⟨w5.heap.size, 8, none⟩ = some (.int .i64 o.ref) ∧ W.cell? ⟨w5.heap.size, 9, none⟩ = some (.int .i64 o.batch) ∧ W.cell? ⟨sb, 0, none⟩ = some (.slice sa r.length sc) ∧ (convert 35 9 (.slice aq y.length cq)).run Try.prog W = .ok (.string sy) W ∧ RdS W g (some r) ∧ OdP W a5 p5 o ∧ Below w.heap.size w W ∧ w5.heap.size < W.heap.size ∧ sb < W.heap.size) := Lib.hid (by rintro W rfl; exact ⟨c0, c1, c2, c3, c4, c5, c6, c7, c8, c9, u0, tq, RD.out, PD.out, BB.out, hd9, hb9⟩)
      have CPW := Lib.hid (fun W (h : OdP W a5 p5 o) => show Calls Try.prog 14 #[.slice none 0 0, .agg #[.string o.id, .slice a5 o.ls.length p5, .string o.car, .string o.zone, .string o.serv, .int .i64 o.total, .int .i64 o.phase, .bool o.given, .int .i64 o.ref, .int .i64 o.batch]] W (OwnPost y W) from CPA.out W h)
      have CDW := Lib.hid (fun W (h : RdS W g (some r)) => show Calls Try.prog 18 #[.pointer (some ⟨g, 0, none⟩)] W (BoolB dn W) from by rw [← HDN.out]; exact rd_done_any W g (some r) h)
      clear CPA DD PD D9 P9 RD SD BB BD c0 c1 c2 c3 c4 c5 c6 c7 c8 c9 u0 tq hd9 hb9
      go_region_held_law (fun W => W.cell? ⟨w5.heap.size, 0, none⟩ = some (.string o.id) ∧ W.cell? ⟨w5.heap.size, 1, none⟩ = some (.slice a5 o.ls.length p5) ∧ W.cell? ⟨w5.heap.size, 2, none⟩ = some (.string o.car) ∧ W.cell? ⟨w5.heap.size, 3, none⟩ = some (.string o.zone) ∧ W.cell? ⟨w5.heap.size, 4, none⟩ = some (.string o.serv) ∧ W.cell? ⟨w5.heap.size, 5, none⟩ = some (.int .i64 o.total) ∧ W.cell? ⟨w5.heap.size, 6, none⟩ = some (.int .i64 o.phase) ∧ W.cell? ⟨w5.heap.size, 7, none⟩ = some (.bool o.given) ∧ W.cell? ⟨w5.heap.size, 8, none⟩ = some (.int .i64 o.ref) ∧ W.cell? ⟨w5.heap.size, 9, none⟩ = some (.int .i64 o.batch) ∧ W.cell? ⟨sb, 0, none⟩ = some (.slice sa r.length sc) ∧ (convert 35 9 (.slice aq y.length cq)).run Try.prog W = .ok (.string sy) W ∧ RdS W g (some r) ∧ OdP W a5 p5 o ∧ Below w.heap.size w W ∧ w5.heap.size < W.heap.size ∧ sb < W.heap.size)
        (first | exact S0.out _ rfl | exact kp)
        (first
          | ((try go_simp); go_at_call 18; refine (CDW.out _ (SR.out _ (by assumption))).mono ?_; rintro e w11 ⟨rfl, b11⟩; have kp := SK.out _ _ (by assumption) b11)
          | ((try go_simp); go_at_call 14; refine (CPW.out _ (SO.out _ (by assumption))).mono ?_; rintro e w10 ⟨v10, rfl, o10, b10⟩; obtain ⟨a10, c10, rfl, h10⟩ := o10.bytes HY.out; have kp := SK.out _ _ (by assumption) b10; have k10 := run_text h10; rw [HSY.out] at k10))
      --@
      all_goals
        go_wp2_with fail
        go_ret
        exact ⟨by simp, SB.out _ (by assumption)⟩
    · subst e1 e2
      obtain ⟨⟨c0, c1, c2, c3, c4⟩, c5, c6, c7, c8, c9⟩ := OdB.cells (o := noO) D9.out
      go_wp2_with fail
      refine (oSame_any a5 none p5 0 noO noO w9 P9.out (no_od _)).mono ?_
      rw [(sameO_iff noO noO).2 rfl]
      rintro e w10 ⟨rfl, b10⟩
      have B10 := Lib.hid (B9.out.trans (b10.mono B9.out.size))
      clear b10
      go_wp2_with fail
      go_ret
      exact ⟨rfl, B10.out⟩


set_option maxRecDepth 100000 in
theorem orderTakes_lifted (os : Os) (started : os.Started) (H : Type) (enc : TypeId × Value → H) :
    ReturnsInHanded {} Try.checked os 5 .any (Rows.orderTakesSpec.pre6 enc Try.prog Try.f5 Rows.orderTakesRow.domain false) (Rows.orderTakesSpec.post enc Try.prog Try.f5 false true false false) := by
  refine returnsInHanded_of_change (C := Try.checked) own started (by kernel_rfl) Try.func5
    (ChangeSpec.witness6 (enc := enc) (C := Try.checked) false ⟨#[], #[.slice none 0 0], []⟩ 8 (by kernel_rfl) (by kernel_rfl) (by kernel_rfl) (by kernel_rfl)) ?_
  intro W base args ds gs before hval0 hW _ _
  have hval : ∀ (j : Nat) t v, Try.f5.params[j]? = some t → args[j]? = some v → Value.okWide Try.prog W .any base t v := hval0
  have hW' := hW
  obtain ⟨p, q, hA0, hV, rfl, _, _⟩ := hW
  have hA : DataW.TrodAll enc Try.prog W 0 (fun _ => true) true Try.f5.params.toList args.toList ds p := hA0
  rw [Try.params5] at hA hval
  obtain ⟨v0, vs0, d0, ds0, p0, q_0, hargs, rfl, rfl, h0, r0⟩ := trodAll_cons hA
  obtain ⟨rfl, rfl, rfl⟩ := trodAll_nil r0
  obtain rfl : args = #[v0] := by cases args; simp_all
  obtain ⟨rfl, rfl⟩ := trodVars_none hV
  clear hA0 hval0
  simp only [List.append_nil] at hW'
  obtain ⟨q0, cap0, l0, rfl, hS0, hm0⟩ := bytes_of_trod (hval 0 35 v0 rfl rfl) h0
  have hlt0 : ∀ x ∈ p0, x.block < W.heap.size := fun x hx => by simpa using hW'.lt x (by simpa using (by simp [hx]))
  refine (takes_walk q0 cap0 l0 W hS0 hm0).mono fun e W' ⟨he, hb⟩ => ?_
  subst he
  have hT : DataW.TrodAll enc Try.prog W' 0 (fun b => decide (b < W.heap.size)) true _ _ _ _ := (trodAll_cons_mk (Below.trod laidOut (by kernel_rfl) (of_decide_eq_true (by kernel_rfl)) h0 hb hlt0) trodAll_mk0)
  simp only [List.append_nil] at hT
  exact ⟨_, rfl, _, _, _, [], p0, [], hW', trodAll_mk1 (shut_bool Try.underlying4 _), hT, rfl, hb.frame _, fun h => by cases h⟩

theorem orderTakes_holds : Rows.OrderTakesSaid :=
  OpenClaim.holds_of_wide 5 Try.f5 rfl rfl rfl rfl rfl rfl rfl ⟨rfl, rfl, rfl, rfl, rfl⟩ rfl rfl rfl rfl rfl (by kernel_rfl) Try.func5 (by kernel_rfl)
    (of_decide_eq_true (by kernel_rfl)) (by unfold Func.isWrapper; first | (rw [if_pos (by decide +kernel)]; kernel_rfl) | (rw [if_neg (by decide +kernel)]; exact ⟨rfl, rfl⟩))
    (fun os started H enc _ => orderTakes_lifted os started H enc)
#print axioms orderTakes_holds


end Go.Proofs.Ytpmgafmbmjokhaa
