/- What the document's Right answers, at every order. -/
import Derived.Test.YtpmgafmbmjokhaaOrRight
namespace Go.Proofs.Ytpmgafmbmjokhaa
open Go.RowKit

/-- A saga in a block. -/
def SgB (w : World) (g : Nat) (o : Od) : Prop := w.heap[g]? = some (.cells #[.int .i64 o.phase, .bool o.given, .int .i64 o.ref] 26 (0, 0))
theorem SgB.cells {w : World} {g : Nat} {o : Od} (h : SgB w g o) : w.cell? ⟨g, 0, none⟩ = some (.int .i64 o.phase) ∧ w.cell? ⟨g, 1, none⟩ = some (.bool o.given) ∧ w.cell? ⟨g, 2, none⟩ = some (.int .i64 o.ref) := by
  unfold SgB at h
  simp [World.cell?, h]
theorem SgB.lt {w : World} {g : Nat} {o : Od} (h : SgB w g o) : g < w.heap.size := (Array.getElem?_eq_some_iff.1 h).1
theorem SgB.below {w w' : World} {g : Nat} {o : Od} (h : SgB w g o) (hb : Below w.heap.size w w') : SgB w' g o := (hb.block g h.lt).trans h

theorem batched_eq (p : Int) : batchedB p = (p == 3 || (p == 4 || (p == 5 || p == 6))) := by
  rw [Bool.eq_iff_iff]
  simp [batchedB]
  omega

set_option maxRecDepth 100000 in
set_option maxHeartbeats 4000000 in
theorem refORight_any (a : Option Addr) (cap : Nat) (o : Od) (w : World) (h : OdP w a cap o) : Calls Try.prog 11 #[odV a cap o] w (Tell (rightO o) w) := by
  have C1 : Hid (∀ w, Calls Try.prog 28 #[.string o.id] w (Tell (rightT o.id) w)) := Lib.hid (fun w => refRight_any o.id w h.id)
  have C2 := Lib.hid (fun w => refGroup_any o.car o.zone o.serv w h.car h.zone h.serv)
  have C3 := Lib.hid (fun W hW => refRight15_any a cap o.ls W hW h.len)
  have C4 := Lib.hid (fun w => refTally_any o.total w)
  have C5 := Lib.hid (fun w => refTally_any o.batch w)
  have D0 := Lib.hid (OdB.new w a cap o)
  have B0 := Lib.hid ((Below.refl w.heap.size w).alloc (Nat.le_refl _) (Obj.cells (odC a cap o) 28))
  have L0 := Lib.hid (h.lns.below B0.out)
  have HE := Lib.hid (show rightO o = (rightT o.id && groupB o.car o.zone o.serv && rightLB o.ls && tallyB o.total && sagaB o.phase o.ref && tallyB o.batch && (decide (o.batch ≠ 0) == batchedB o.phase)) from rfl)
  have HS : Hid (sagaB o.phase o.ref = (!(decide (o.phase < 1) || decide (12 < o.phase)) && !(decide (o.ref < 0) || decide (1000000 < o.ref)))) := Lib.hid (by rw [Bool.eq_iff_iff]; simp [sagaB, phaseB])
  have HB := Lib.hid (batched_eq o.phase)
  have HN : Hid (tallyB o.batch = true → decide (0 < o.batch) = decide (o.batch ≠ 0)) := Lib.hid (by intro ht; simp only [tallyB, decide_eq_true_eq] at ht; rw [Bool.eq_iff_iff]; simp; omega)
  clear h
  unfold odV
  unfold odC at *
  go_enter Try.func11, Try.ntmps11
  go_wp2_with fail
  have hz : (w.alloc (Obj.cells #[Value.string o.id, Value.slice a o.ls.length cap, Value.string o.car, Value.string o.zone, Value.string o.serv, Value.int IntKind.i64 o.total, Value.int IntKind.i64 o.phase, Value.bool o.given, Value.int IntKind.i64 o.ref, Value.int IntKind.i64 o.batch] 28)).heap.size = w.heap.size + 1 := by simp
  generalize w.alloc (Obj.cells #[Value.string o.id, Value.slice a o.ls.length cap, Value.string o.car, Value.string o.zone, Value.string o.serv, Value.int IntKind.i64 o.total, Value.int IntKind.i64 o.phase, Value.bool o.given, Value.int IntKind.i64 o.ref, Value.int IntKind.i64 o.batch] 28) = W at *
  have DS : Hid (SgB (W.alloc (Obj.cells #[Value.int IntKind.i64 o.phase, Value.bool o.given, Value.int IntKind.i64 o.ref] 26)) (w.heap.size + 1) o) := Lib.hid (by rw [← hz]; exact heap_alloc_new W _)
  have BS := Lib.hid ((Below.refl W.heap.size W).alloc (Nat.le_refl _) (Obj.cells #[Value.int IntKind.i64 o.phase, Value.bool o.given, Value.int IntKind.i64 o.ref] 26))
  have D := Lib.hid (D0.out.below BS.out)
  have B := Lib.hid (B0.out.trans (BS.out.mono B0.out.size))
  have L := Lib.hid (L0.out.below BS.out)
  clear hz
  obtain ⟨⟨c0, c1, c2, c3, c4⟩, c5, c6, c7, c8, c9⟩ := OdB.cells (o := o) D0.out
  go_wp2_with fail
  generalize W.alloc (Obj.cells #[Value.int IntKind.i64 o.phase, Value.bool o.given, Value.int IntKind.i64 o.ref] 26) = W1 at *
  refine (C1.out _).mono ?_
  rintro e w1 ⟨rfl, b1⟩
  have D1 := Lib.hid (D.out.below b1)
  have DS1 := Lib.hid (DS.out.below b1)
  have B1 := Lib.hid (B.out.trans (b1.mono B.out.size))
  have L1 := Lib.hid (L.out.below b1)
  clear c0 c1 c2 c3 c4 c5 c6 c7 c8 c9 b1
  obtain ⟨⟨c0, c1, c2, c3, c4⟩, c5, c6, c7, c8, c9⟩ := OdB.cells (o := o) D1.out
  cases h1 : rightT o.id with
  | false =>
    go_wp2_with fail
    go_ret
    exact ⟨by rw [HE.out, h1]; simp, B1.out⟩
  | true =>
    go_wp2_with fail
    refine (C2.out _).mono ?_
    rintro e w2 ⟨rfl, b2⟩
    have D2 := Lib.hid (D1.out.below b2)
    have DS2 := Lib.hid (DS1.out.below b2)
    have B2 := Lib.hid (B1.out.trans (b2.mono B1.out.size))
    have L2 := Lib.hid (L1.out.below b2)
    clear c0 c1 c2 c3 c4 c5 c6 c7 c8 c9 b2
    obtain ⟨⟨c0, c1, c2, c3, c4⟩, c5, c6, c7, c8, c9⟩ := OdB.cells (o := o) D2.out
    cases h2 : groupB o.car o.zone o.serv with
    | false =>
      go_wp2_with fail
      go_ret
      exact ⟨by rw [HE.out, h1, h2]; simp, B2.out⟩
    | true =>
      go_wp2_with fail
      refine (C3.out _ L2.out).mono ?_
      rintro e w3 ⟨rfl, b3⟩
      have D3 := Lib.hid (D2.out.below b3)
      have DS3 := Lib.hid (DS2.out.below b3)
      have B3 := Lib.hid (B2.out.trans (b3.mono B2.out.size))
      have L3 := Lib.hid (L2.out.below b3)
      clear c0 c1 c2 c3 c4 c5 c6 c7 c8 c9 b3
      obtain ⟨⟨c0, c1, c2, c3, c4⟩, c5, c6, c7, c8, c9⟩ := OdB.cells (o := o) D3.out
      cases h3 : rightLB o.ls with
      | false =>
        go_wp2_with fail
        go_ret
        exact ⟨by rw [HE.out, h1, h2, h3]; simp, B3.out⟩
      | true =>
        go_wp2_with fail
        refine (C4.out _).mono ?_
        rintro e w' ⟨rfl, rfl⟩
        cases h4 : tallyB o.total with
        | false =>
          go_wp2_with fail
          go_ret
          exact ⟨by rw [HE.out, h1, h2, h3, h4]; simp, B3.out⟩
        | true =>
          go_wp2_with fail
          refine (C5.out _).mono ?_
          rintro e w' ⟨rfl, rfl⟩
          cases h5 : tallyB o.batch with
          | false =>
            go_wp2_with fail
            go_ret
            exact ⟨by rw [HE.out, h1, h2, h3, h4, h5]; simp, B3.out⟩
          | true =>
            obtain ⟨s0, s1, s2⟩ := SgB.cells (o := o) DS3.out
            cases t1 : decide (o.phase < 1) with
            | true =>
              go_wp2_with fail
              go_ret
              exact ⟨by rw [HE.out, HS.out, h1, h2, h3, h4, h5, t1]; simp, B3.out⟩
            | false =>
              cases t2 : decide (12 < o.phase) with
              | true =>
                go_wp2_with fail
                go_ret
                exact ⟨by rw [HE.out, HS.out, h1, h2, h3, h4, h5, t1, t2]; simp, B3.out⟩
              | false =>
                cases t3 : decide (o.ref < 0) with
                | true =>
                  go_wp2_with fail
                  go_ret
                  exact ⟨by rw [HE.out, HS.out, h1, h2, h3, h4, h5, t1, t2, t3]; simp, B3.out⟩
                | false =>
                  cases t4 : decide (1000000 < o.ref) with
                  | true =>
                    go_wp2_with fail
                    go_ret
                    exact ⟨by rw [HE.out, HS.out, h1, h2, h3, h4, h5, t1, t2, t3, t4]; simp, B3.out⟩
                  | false =>
                    have HN := Lib.hid (HN.out h5)
                    cases q3 : (o.phase == 3) with
                    | true =>
                      go_wp2_with fail
                      go_ret
                      exact ⟨by rw [HE.out, HS.out, HB.out, ← HN.out, h1, h2, h3, h4, h5, t1, t2, t3, t4, q3]; cases decide (0 < o.batch) <;> rfl, B3.out⟩
                    | false =>
                      cases q4 : (o.phase == 4) with
                      | true =>
                        go_wp2_with fail
                        go_ret
                        exact ⟨by rw [HE.out, HS.out, HB.out, ← HN.out, h1, h2, h3, h4, h5, t1, t2, t3, t4, q3, q4]; cases decide (0 < o.batch) <;> rfl, B3.out⟩
                      | false =>
                        cases q5 : (o.phase == 5) with
                        | true =>
                          go_wp2_with fail
                          go_ret
                          exact ⟨by rw [HE.out, HS.out, HB.out, ← HN.out, h1, h2, h3, h4, h5, t1, t2, t3, t4, q3, q4, q5]; cases decide (0 < o.batch) <;> rfl, B3.out⟩
                        | false =>
                          cases q6 : (o.phase == 6) with
                          | true =>
                            go_wp2_with fail
                            go_ret
                            exact ⟨by rw [HE.out, HS.out, HB.out, ← HN.out, h1, h2, h3, h4, h5, t1, t2, t3, t4, q3, q4, q5, q6]; cases decide (0 < o.batch) <;> rfl, B3.out⟩
                          | false =>
                            go_wp2_with fail
                            go_ret
                            exact ⟨by rw [HE.out, HS.out, HB.out, ← HN.out, h1, h2, h3, h4, h5, t1, t2, t3, t4, q3, q4, q5, q6]; cases decide (0 < o.batch) <;> rfl, B3.out⟩

end Go.Proofs.Ytpmgafmbmjokhaa
