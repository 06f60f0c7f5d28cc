/- What Right of package order, and the document's, answer, at every order. -/
import Derived.Test.YtpmgafmbmjokhaaDoorOrLeaf
namespace Go.Proofs.YtpmgafmbmjokhaaDoor
open Go.RowKit

/-- An order as a value, its lines in a slice. -/
def odV (a : Option Addr) (cap : Nat) (o : Od) : Value := .agg #[.string o.id, .slice a o.ls.length cap, .string o.car, .string o.zone, .string o.serv, .int .i64 o.total, .int .i64 o.phase, .bool o.given, .int .i64 o.ref, .int .i64 o.batch]
/-- An order's cells. -/
def odC (a : Option Addr) (cap : Nat) (o : Od) : Array Value := #[.string o.id, .slice a o.ls.length cap, .string o.car, .string o.zone, .string o.serv, .int .i64 o.total, .int .i64 o.phase, .bool o.given, .int .i64 o.ref, .int .i64 o.batch]

/-- Its lines lie there; its texts fit. -/
structure OdP (w : World) (a : Option Addr) (cap : Nat) (o : Od) : Prop where
  lns : LnsP w a cap o.ls
  len : o.ls.length ≤ maxLen
  id : o.id.size ≤ maxLen
  car : o.car.size ≤ maxLen
  zone : o.zone.size ≤ maxLen
  serv : o.serv.size ≤ maxLen

theorem OdP.below {w w' : World} {a : Option Addr} {cap : Nat} {o : Od} (h : OdP w a cap o) (hb : Below w.heap.size w w') : OdP w' a cap o := ⟨h.lns.below hb, h.len, h.id, h.car, h.zone, h.serv⟩

/-- An order in a block. -/
def OdB (w : World) (g : Nat) (a : Option Addr) (cap : Nat) (o : Od) : Prop := w.heap[g]? = some (.cells (odC a cap o) 36 (0, 0))
theorem OdB.cells {w : World} {g : Nat} {a : Option Addr} {cap : Nat} {o : Od} (h : OdB w g a cap o) :
    (w.cell? ⟨g, 0, none⟩ = some (.string o.id) ∧ w.cell? ⟨g, 1, none⟩ = some (.slice a o.ls.length cap) ∧ w.cell? ⟨g, 2, none⟩ = some (.string o.car) ∧ w.cell? ⟨g, 3, none⟩ = some (.string o.zone) ∧ w.cell? ⟨g, 4, none⟩ = some (.string o.serv)) ∧
    w.cell? ⟨g, 5, none⟩ = some (.int .i64 o.total) ∧ w.cell? ⟨g, 6, none⟩ = some (.int .i64 o.phase) ∧ w.cell? ⟨g, 7, none⟩ = some (.bool o.given) ∧ w.cell? ⟨g, 8, none⟩ = some (.int .i64 o.ref) ∧ w.cell? ⟨g, 9, none⟩ = some (.int .i64 o.batch) := by
  unfold OdB odC at h
  simp [World.cell?, h]
theorem OdB.lt {w : World} {g : Nat} {a : Option Addr} {cap : Nat} {o : Od} (h : OdB w g a cap o) : g < w.heap.size := (Array.getElem?_eq_some_iff.1 h).1
theorem OdB.below {w w' : World} {g : Nat} {a : Option Addr} {cap : Nat} {o : Od} (h : OdB w g a cap o) (hb : Below w.heap.size w w') : OdB w' g a cap o := (hb.block g h.lt).trans h
theorem OdB.new (w : World) (a : Option Addr) (cap : Nat) (o : Od) : OdB (w.alloc (.cells (odC a cap o) 36)) w.heap.size a cap o := heap_alloc_new w _

set_option maxRecDepth 100000 in
set_option maxHeartbeats 4000000 in
theorem oRight_any (a : Option Addr) (cap : Nat) (o : Od) (w : World) (h : OdP w a cap o) : Calls Tryd.prog 15 #[odV a cap o] w (Tell (rightO o) w) := by
  have C1 : Hid (∀ w, Calls Tryd.prog 23 #[.string o.id] w (Tell (rightT o.id) w)) := Lib.hid (fun w => right_any o.id w h.id)
  have C2 := Lib.hid (fun w => isGroup_any o.car o.zone o.serv w h.car h.zone h.serv)
  have C4 := Lib.hid (fun w => tally_any o.total w)
  have C5 := Lib.hid (fun w => isSaga_any o.phase o.ref o.given w)
  have C6 := Lib.hid (fun w => tally_any o.batch w)
  have C7 := Lib.hid (fun w => isBatched_any o.phase w)
  have D := Lib.hid (OdB.new w a cap o)
  have B := Lib.hid ((Below.refl w.heap.size w).alloc (Nat.le_refl _) (Obj.cells (odC a cap o) 36))
  have L := Lib.hid (h.lns.below B.out)
  have HE := Lib.hid (show rightO o = (rightT o.id && groupB o.car o.zone o.serv && rightLB o.ls && tallyB o.total && sagaB o.phase o.ref && tallyB o.batch && (decide (o.batch ≠ 0) == batchedB o.phase)) from rfl)
  have HN : Hid ((o.batch != 0) = decide (o.batch ≠ 0)) := Lib.hid (by rw [Bool.eq_iff_iff]; simp)
  have C3 := Lib.hid (fun W hW => right14_any a cap o.ls W hW h.len)
  clear h
  unfold odV
  unfold odC at *
  cases h1 : rightT o.id with
  | false =>
    rw [h1] at C1
    go_enter Tryd.func15, Tryd.ntmps15
    go_wp2_with fail
    generalize w.alloc (Obj.cells #[Value.string o.id, Value.slice a o.ls.length cap, Value.string o.car, Value.string o.zone, Value.string o.serv, Value.int IntKind.i64 o.total, Value.int IntKind.i64 o.phase, Value.bool o.given, Value.int IntKind.i64 o.ref, Value.int IntKind.i64 o.batch] 36) = W at *
    obtain ⟨⟨c0, c1, c2, c3, c4⟩, c5, c6, c7, c8, c9⟩ := OdB.cells (o := o) D.out
    have f0 := far_cell (OdB.lt (o := o) D.out) c0
    have f1 := far_cell (OdB.lt (o := o) D.out) c1
    have f2 := far_cell (OdB.lt (o := o) D.out) c2
    have f3 := far_cell (OdB.lt (o := o) D.out) c3
    have f4 := far_cell (OdB.lt (o := o) D.out) c4
    have f5 := far_cell (OdB.lt (o := o) D.out) c5
    have f6 := far_cell (OdB.lt (o := o) D.out) c6
    have f7 := far_cell (OdB.lt (o := o) D.out) c7
    have f8 := far_cell (OdB.lt (o := o) D.out) c8
    have f9 := far_cell (OdB.lt (o := o) D.out) c9
    clear c0 c1 c2 c3 c4 c5 c6 c7 c8 c9
    have C3 : Hid (∀ p, Calls Tryd.prog _ _ (farOf W p) _) := Lib.hid (fun p => C3.out _ (L.out.below (far_below W p)))
    refine wp_region_far (by kernel_rfl) (by kernel_rfl) ?_
    repeat (first | go_big_quiet_step (first | (go_at_call 23; exact calls_far (C1.out _)) | (go_at_call 24; exact calls_far (C2.out _)) | (go_at_call 25; exact calls_far (C3.out _)) | (go_at_call 27; exact calls_far (C5.out _)) | (go_at_call 28; exact calls_far_same (C7.out _)) | (go_at_call 26; with_reducible exact calls_far_same (C4.out _)) | (go_at_call 26; with_reducible exact calls_far_same (C6.out _))) | quiet_step (first | (go_at_call 23; exact calls_far (C1.out _)) | (go_at_call 24; exact calls_far (C2.out _)) | (go_at_call 25; exact calls_far (C3.out _)) | (go_at_call 27; exact calls_far (C5.out _)) | (go_at_call 28; exact calls_far_same (C7.out _)) | (go_at_call 26; with_reducible exact calls_far_same (C4.out _)) | (go_at_call 26; with_reducible exact calls_far_same (C6.out _))))
    refine wpQuiet_nil ?_
    intro _ hw'
    obtain ⟨p, hw''⟩ := hw'
    subst hw''
    go_wp2_with fail
    go_ret
    exact ⟨by rw [HE.out, h1]; simp, B.out.trans ((far_below _ _).mono B.out.size)⟩
  | true =>
    rw [h1] at C1
    cases h2 : groupB o.car o.zone o.serv with
    | false =>
      rw [h2] at C2
      go_enter Tryd.func15, Tryd.ntmps15
      go_wp2_with fail
      generalize w.alloc (Obj.cells #[Value.string o.id, Value.slice a o.ls.length cap, Value.string o.car, Value.string o.zone, Value.string o.serv, Value.int IntKind.i64 o.total, Value.int IntKind.i64 o.phase, Value.bool o.given, Value.int IntKind.i64 o.ref, Value.int IntKind.i64 o.batch] 36) = W at *
      obtain ⟨⟨c0, c1, c2, c3, c4⟩, c5, c6, c7, c8, c9⟩ := OdB.cells (o := o) D.out
      have f0 := far_cell (OdB.lt (o := o) D.out) c0
      have f1 := far_cell (OdB.lt (o := o) D.out) c1
      have f2 := far_cell (OdB.lt (o := o) D.out) c2
      have f3 := far_cell (OdB.lt (o := o) D.out) c3
      have f4 := far_cell (OdB.lt (o := o) D.out) c4
      have f5 := far_cell (OdB.lt (o := o) D.out) c5
      have f6 := far_cell (OdB.lt (o := o) D.out) c6
      have f7 := far_cell (OdB.lt (o := o) D.out) c7
      have f8 := far_cell (OdB.lt (o := o) D.out) c8
      have f9 := far_cell (OdB.lt (o := o) D.out) c9
      clear c0 c1 c2 c3 c4 c5 c6 c7 c8 c9
      have C3 : Hid (∀ p, Calls Tryd.prog _ _ (farOf W p) _) := Lib.hid (fun p => C3.out _ (L.out.below (far_below W p)))
      refine wp_region_far (by kernel_rfl) (by kernel_rfl) ?_
      repeat (first | go_big_quiet_step (first | (go_at_call 23; exact calls_far (C1.out _)) | (go_at_call 24; exact calls_far (C2.out _)) | (go_at_call 25; exact calls_far (C3.out _)) | (go_at_call 27; exact calls_far (C5.out _)) | (go_at_call 28; exact calls_far_same (C7.out _)) | (go_at_call 26; with_reducible exact calls_far_same (C4.out _)) | (go_at_call 26; with_reducible exact calls_far_same (C6.out _))) | quiet_step (first | (go_at_call 23; exact calls_far (C1.out _)) | (go_at_call 24; exact calls_far (C2.out _)) | (go_at_call 25; exact calls_far (C3.out _)) | (go_at_call 27; exact calls_far (C5.out _)) | (go_at_call 28; exact calls_far_same (C7.out _)) | (go_at_call 26; with_reducible exact calls_far_same (C4.out _)) | (go_at_call 26; with_reducible exact calls_far_same (C6.out _))))
      refine wpQuiet_nil ?_
      intro _ hw'
      obtain ⟨p, hw''⟩ := hw'
      subst hw''
      go_wp2_with fail
      go_ret
      exact ⟨by rw [HE.out, h1, h2]; simp, B.out.trans ((far_below _ _).mono B.out.size)⟩
    | true =>
      rw [h2] at C2
      cases h3 : rightLB o.ls with
      | false =>
        rw [h3] at C3
        go_enter Tryd.func15, Tryd.ntmps15
        go_wp2_with fail
        generalize w.alloc (Obj.cells #[Value.string o.id, Value.slice a o.ls.length cap, Value.string o.car, Value.string o.zone, Value.string o.serv, Value.int IntKind.i64 o.total, Value.int IntKind.i64 o.phase, Value.bool o.given, Value.int IntKind.i64 o.ref, Value.int IntKind.i64 o.batch] 36) = W at *
        obtain ⟨⟨c0, c1, c2, c3, c4⟩, c5, c6, c7, c8, c9⟩ := OdB.cells (o := o) D.out
        have f0 := far_cell (OdB.lt (o := o) D.out) c0
        have f1 := far_cell (OdB.lt (o := o) D.out) c1
        have f2 := far_cell (OdB.lt (o := o) D.out) c2
        have f3 := far_cell (OdB.lt (o := o) D.out) c3
        have f4 := far_cell (OdB.lt (o := o) D.out) c4
        have f5 := far_cell (OdB.lt (o := o) D.out) c5
        have f6 := far_cell (OdB.lt (o := o) D.out) c6
        have f7 := far_cell (OdB.lt (o := o) D.out) c7
        have f8 := far_cell (OdB.lt (o := o) D.out) c8
        have f9 := far_cell (OdB.lt (o := o) D.out) c9
        clear c0 c1 c2 c3 c4 c5 c6 c7 c8 c9
        have C3 : Hid (∀ p, Calls Tryd.prog _ _ (farOf W p) _) := Lib.hid (fun p => C3.out _ (L.out.below (far_below W p)))
        refine wp_region_far (by kernel_rfl) (by kernel_rfl) ?_
        repeat (first | go_big_quiet_step (first | (go_at_call 23; exact calls_far (C1.out _)) | (go_at_call 24; exact calls_far (C2.out _)) | (go_at_call 25; exact calls_far (C3.out _)) | (go_at_call 27; exact calls_far (C5.out _)) | (go_at_call 28; exact calls_far_same (C7.out _)) | (go_at_call 26; with_reducible exact calls_far_same (C4.out _)) | (go_at_call 26; with_reducible exact calls_far_same (C6.out _))) | quiet_step (first | (go_at_call 23; exact calls_far (C1.out _)) | (go_at_call 24; exact calls_far (C2.out _)) | (go_at_call 25; exact calls_far (C3.out _)) | (go_at_call 27; exact calls_far (C5.out _)) | (go_at_call 28; exact calls_far_same (C7.out _)) | (go_at_call 26; with_reducible exact calls_far_same (C4.out _)) | (go_at_call 26; with_reducible exact calls_far_same (C6.out _))))
        refine wpQuiet_nil ?_
        intro _ hw'
        obtain ⟨p, hw''⟩ := hw'
        subst hw''
        go_wp2_with fail
        go_ret
        exact ⟨by rw [HE.out, h1, h2, h3]; simp, B.out.trans ((far_below _ _).mono B.out.size)⟩
      | true =>
        rw [h3] at C3
        cases h4 : tallyB o.total with
        | false =>
          rw [h4] at C4
          go_enter Tryd.func15, Tryd.ntmps15
          go_wp2_with fail
          generalize w.alloc (Obj.cells #[Value.string o.id, Value.slice a o.ls.length cap, Value.string o.car, Value.string o.zone, Value.string o.serv, Value.int IntKind.i64 o.total, Value.int IntKind.i64 o.phase, Value.bool o.given, Value.int IntKind.i64 o.ref, Value.int IntKind.i64 o.batch] 36) = W at *
          obtain ⟨⟨c0, c1, c2, c3, c4⟩, c5, c6, c7, c8, c9⟩ := OdB.cells (o := o) D.out
          have f0 := far_cell (OdB.lt (o := o) D.out) c0
          have f1 := far_cell (OdB.lt (o := o) D.out) c1
          have f2 := far_cell (OdB.lt (o := o) D.out) c2
          have f3 := far_cell (OdB.lt (o := o) D.out) c3
          have f4 := far_cell (OdB.lt (o := o) D.out) c4
          have f5 := far_cell (OdB.lt (o := o) D.out) c5
          have f6 := far_cell (OdB.lt (o := o) D.out) c6
          have f7 := far_cell (OdB.lt (o := o) D.out) c7
          have f8 := far_cell (OdB.lt (o := o) D.out) c8
          have f9 := far_cell (OdB.lt (o := o) D.out) c9
          clear c0 c1 c2 c3 c4 c5 c6 c7 c8 c9
          have C3 : Hid (∀ p, Calls Tryd.prog _ _ (farOf W p) _) := Lib.hid (fun p => C3.out _ (L.out.below (far_below W p)))
          refine wp_region_far (by kernel_rfl) (by kernel_rfl) ?_
          repeat (first | go_big_quiet_step (first | (go_at_call 23; exact calls_far (C1.out _)) | (go_at_call 24; exact calls_far (C2.out _)) | (go_at_call 25; exact calls_far (C3.out _)) | (go_at_call 27; exact calls_far (C5.out _)) | (go_at_call 28; exact calls_far_same (C7.out _)) | (go_at_call 26; with_reducible exact calls_far_same (C4.out _)) | (go_at_call 26; with_reducible exact calls_far_same (C6.out _))) | quiet_step (first | (go_at_call 23; exact calls_far (C1.out _)) | (go_at_call 24; exact calls_far (C2.out _)) | (go_at_call 25; exact calls_far (C3.out _)) | (go_at_call 27; exact calls_far (C5.out _)) | (go_at_call 28; exact calls_far_same (C7.out _)) | (go_at_call 26; with_reducible exact calls_far_same (C4.out _)) | (go_at_call 26; with_reducible exact calls_far_same (C6.out _))))
          refine wpQuiet_nil ?_
          intro _ hw'
          obtain ⟨p, hw''⟩ := hw'
          subst hw''
          go_wp2_with fail
          go_ret
          exact ⟨by rw [HE.out, h1, h2, h3, h4]; simp, B.out.trans ((far_below _ _).mono B.out.size)⟩
        | true =>
          rw [h4] at C4
          cases h5 : sagaB o.phase o.ref with
          | false =>
            rw [h5] at C5
            go_enter Tryd.func15, Tryd.ntmps15
            go_wp2_with fail
            generalize w.alloc (Obj.cells #[Value.string o.id, Value.slice a o.ls.length cap, Value.string o.car, Value.string o.zone, Value.string o.serv, Value.int IntKind.i64 o.total, Value.int IntKind.i64 o.phase, Value.bool o.given, Value.int IntKind.i64 o.ref, Value.int IntKind.i64 o.batch] 36) = W at *
            obtain ⟨⟨c0, c1, c2, c3, c4⟩, c5, c6, c7, c8, c9⟩ := OdB.cells (o := o) D.out
            have f0 := far_cell (OdB.lt (o := o) D.out) c0
            have f1 := far_cell (OdB.lt (o := o) D.out) c1
            have f2 := far_cell (OdB.lt (o := o) D.out) c2
            have f3 := far_cell (OdB.lt (o := o) D.out) c3
            have f4 := far_cell (OdB.lt (o := o) D.out) c4
            have f5 := far_cell (OdB.lt (o := o) D.out) c5
            have f6 := far_cell (OdB.lt (o := o) D.out) c6
            have f7 := far_cell (OdB.lt (o := o) D.out) c7
            have f8 := far_cell (OdB.lt (o := o) D.out) c8
            have f9 := far_cell (OdB.lt (o := o) D.out) c9
            clear c0 c1 c2 c3 c4 c5 c6 c7 c8 c9
            have C3 : Hid (∀ p, Calls Tryd.prog _ _ (farOf W p) _) := Lib.hid (fun p => C3.out _ (L.out.below (far_below W p)))
            refine wp_region_far (by kernel_rfl) (by kernel_rfl) ?_
            repeat (first | go_big_quiet_step (first | (go_at_call 23; exact calls_far (C1.out _)) | (go_at_call 24; exact calls_far (C2.out _)) | (go_at_call 25; exact calls_far (C3.out _)) | (go_at_call 27; exact calls_far (C5.out _)) | (go_at_call 28; exact calls_far_same (C7.out _)) | (go_at_call 26; with_reducible exact calls_far_same (C4.out _)) | (go_at_call 26; with_reducible exact calls_far_same (C6.out _))) | quiet_step (first | (go_at_call 23; exact calls_far (C1.out _)) | (go_at_call 24; exact calls_far (C2.out _)) | (go_at_call 25; exact calls_far (C3.out _)) | (go_at_call 27; exact calls_far (C5.out _)) | (go_at_call 28; exact calls_far_same (C7.out _)) | (go_at_call 26; with_reducible exact calls_far_same (C4.out _)) | (go_at_call 26; with_reducible exact calls_far_same (C6.out _))))
            refine wpQuiet_nil ?_
            intro _ hw'
            obtain ⟨p, hw''⟩ := hw'
            subst hw''
            go_wp2_with fail
            go_ret
            exact ⟨by rw [HE.out, h1, h2, h3, h4, h5]; simp, B.out.trans ((far_below _ _).mono B.out.size)⟩
          | true =>
            rw [h5] at C5
            cases h6 : tallyB o.batch with
            | false =>
              rw [h6] at C6
              go_enter Tryd.func15, Tryd.ntmps15
              go_wp2_with fail
              generalize w.alloc (Obj.cells #[Value.string o.id, Value.slice a o.ls.length cap, Value.string o.car, Value.string o.zone, Value.string o.serv, Value.int IntKind.i64 o.total, Value.int IntKind.i64 o.phase, Value.bool o.given, Value.int IntKind.i64 o.ref, Value.int IntKind.i64 o.batch] 36) = W at *
              obtain ⟨⟨c0, c1, c2, c3, c4⟩, c5, c6, c7, c8, c9⟩ := OdB.cells (o := o) D.out
              have f0 := far_cell (OdB.lt (o := o) D.out) c0
              have f1 := far_cell (OdB.lt (o := o) D.out) c1
              have f2 := far_cell (OdB.lt (o := o) D.out) c2
              have f3 := far_cell (OdB.lt (o := o) D.out) c3
              have f4 := far_cell (OdB.lt (o := o) D.out) c4
              have f5 := far_cell (OdB.lt (o := o) D.out) c5
              have f6 := far_cell (OdB.lt (o := o) D.out) c6
              have f7 := far_cell (OdB.lt (o := o) D.out) c7
              have f8 := far_cell (OdB.lt (o := o) D.out) c8
              have f9 := far_cell (OdB.lt (o := o) D.out) c9
              clear c0 c1 c2 c3 c4 c5 c6 c7 c8 c9
              have C3 : Hid (∀ p, Calls Tryd.prog _ _ (farOf W p) _) := Lib.hid (fun p => C3.out _ (L.out.below (far_below W p)))
              refine wp_region_far (by kernel_rfl) (by kernel_rfl) ?_
              repeat (first | go_big_quiet_step (first | (go_at_call 23; exact calls_far (C1.out _)) | (go_at_call 24; exact calls_far (C2.out _)) | (go_at_call 25; exact calls_far (C3.out _)) | (go_at_call 27; exact calls_far (C5.out _)) | (go_at_call 28; exact calls_far_same (C7.out _)) | (go_at_call 26; with_reducible exact calls_far_same (C4.out _)) | (go_at_call 26; with_reducible exact calls_far_same (C6.out _))) | quiet_step (first | (go_at_call 23; exact calls_far (C1.out _)) | (go_at_call 24; exact calls_far (C2.out _)) | (go_at_call 25; exact calls_far (C3.out _)) | (go_at_call 27; exact calls_far (C5.out _)) | (go_at_call 28; exact calls_far_same (C7.out _)) | (go_at_call 26; with_reducible exact calls_far_same (C4.out _)) | (go_at_call 26; with_reducible exact calls_far_same (C6.out _))))
              refine wpQuiet_nil ?_
              intro _ hw'
              obtain ⟨p, hw''⟩ := hw'
              subst hw''
              go_wp2_with fail
              go_ret
              exact ⟨by rw [HE.out, h1, h2, h3, h4, h5, h6]; simp, B.out.trans ((far_below _ _).mono B.out.size)⟩
            | true =>
              rw [h6] at C6
              cases h7 : batchedB o.phase with
              | false =>
                rw [h7] at C7
                go_enter Tryd.func15, Tryd.ntmps15
                go_wp2_with fail
                generalize w.alloc (Obj.cells #[Value.string o.id, Value.slice a o.ls.length cap, Value.string o.car, Value.string o.zone, Value.string o.serv, Value.int IntKind.i64 o.total, Value.int IntKind.i64 o.phase, Value.bool o.given, Value.int IntKind.i64 o.ref, Value.int IntKind.i64 o.batch] 36) = W at *
                obtain ⟨⟨c0, c1, c2, c3, c4⟩, c5, c6, c7, c8, c9⟩ := OdB.cells (o := o) D.out
                have f0 := far_cell (OdB.lt (o := o) D.out) c0
                have f1 := far_cell (OdB.lt (o := o) D.out) c1
                have f2 := far_cell (OdB.lt (o := o) D.out) c2
                have f3 := far_cell (OdB.lt (o := o) D.out) c3
                have f4 := far_cell (OdB.lt (o := o) D.out) c4
                have f5 := far_cell (OdB.lt (o := o) D.out) c5
                have f6 := far_cell (OdB.lt (o := o) D.out) c6
                have f7 := far_cell (OdB.lt (o := o) D.out) c7
                have f8 := far_cell (OdB.lt (o := o) D.out) c8
                have f9 := far_cell (OdB.lt (o := o) D.out) c9
                clear c0 c1 c2 c3 c4 c5 c6 c7 c8 c9
                have C3 : Hid (∀ p, Calls Tryd.prog _ _ (farOf W p) _) := Lib.hid (fun p => C3.out _ (L.out.below (far_below W p)))
                refine wp_region_far (by kernel_rfl) (by kernel_rfl) ?_
                repeat (first | go_big_quiet_step (first | (go_at_call 23; exact calls_far (C1.out _)) | (go_at_call 24; exact calls_far (C2.out _)) | (go_at_call 25; exact calls_far (C3.out _)) | (go_at_call 27; exact calls_far (C5.out _)) | (go_at_call 28; exact calls_far_same (C7.out _)) | (go_at_call 26; with_reducible exact calls_far_same (C4.out _)) | (go_at_call 26; with_reducible exact calls_far_same (C6.out _))) | quiet_step (first | (go_at_call 23; exact calls_far (C1.out _)) | (go_at_call 24; exact calls_far (C2.out _)) | (go_at_call 25; exact calls_far (C3.out _)) | (go_at_call 27; exact calls_far (C5.out _)) | (go_at_call 28; exact calls_far_same (C7.out _)) | (go_at_call 26; with_reducible exact calls_far_same (C4.out _)) | (go_at_call 26; with_reducible exact calls_far_same (C6.out _))))
                refine wpQuiet_nil ?_
                intro _ hw'
                obtain ⟨p, hw''⟩ := hw'
                subst hw''
                go_wp2_with fail
                go_ret
                exact ⟨by rw [HE.out, h1, h2, h3, h4, h5, h6, h7, ← HN.out]; simp, B.out.trans ((far_below _ _).mono B.out.size)⟩
              | true =>
                rw [h7] at C7
                go_enter Tryd.func15, Tryd.ntmps15
                go_wp2_with fail
                generalize w.alloc (Obj.cells #[Value.string o.id, Value.slice a o.ls.length cap, Value.string o.car, Value.string o.zone, Value.string o.serv, Value.int IntKind.i64 o.total, Value.int IntKind.i64 o.phase, Value.bool o.given, Value.int IntKind.i64 o.ref, Value.int IntKind.i64 o.batch] 36) = W at *
                obtain ⟨⟨c0, c1, c2, c3, c4⟩, c5, c6, c7, c8, c9⟩ := OdB.cells (o := o) D.out
                have f0 := far_cell (OdB.lt (o := o) D.out) c0
                have f1 := far_cell (OdB.lt (o := o) D.out) c1
                have f2 := far_cell (OdB.lt (o := o) D.out) c2
                have f3 := far_cell (OdB.lt (o := o) D.out) c3
                have f4 := far_cell (OdB.lt (o := o) D.out) c4
                have f5 := far_cell (OdB.lt (o := o) D.out) c5
                have f6 := far_cell (OdB.lt (o := o) D.out) c6
                have f7 := far_cell (OdB.lt (o := o) D.out) c7
                have f8 := far_cell (OdB.lt (o := o) D.out) c8
                have f9 := far_cell (OdB.lt (o := o) D.out) c9
                clear c0 c1 c2 c3 c4 c5 c6 c7 c8 c9
                have C3 : Hid (∀ p, Calls Tryd.prog _ _ (farOf W p) _) := Lib.hid (fun p => C3.out _ (L.out.below (far_below W p)))
                refine wp_region_far (by kernel_rfl) (by kernel_rfl) ?_
                repeat (first | go_big_quiet_step (first | (go_at_call 23; exact calls_far (C1.out _)) | (go_at_call 24; exact calls_far (C2.out _)) | (go_at_call 25; exact calls_far (C3.out _)) | (go_at_call 27; exact calls_far (C5.out _)) | (go_at_call 28; exact calls_far_same (C7.out _)) | (go_at_call 26; with_reducible exact calls_far_same (C4.out _)) | (go_at_call 26; with_reducible exact calls_far_same (C6.out _))) | quiet_step (first | (go_at_call 23; exact calls_far (C1.out _)) | (go_at_call 24; exact calls_far (C2.out _)) | (go_at_call 25; exact calls_far (C3.out _)) | (go_at_call 27; exact calls_far (C5.out _)) | (go_at_call 28; exact calls_far_same (C7.out _)) | (go_at_call 26; with_reducible exact calls_far_same (C4.out _)) | (go_at_call 26; with_reducible exact calls_far_same (C6.out _))))
                refine wpQuiet_nil ?_
                intro _ hw'
                obtain ⟨p, hw''⟩ := hw'
                subst hw''
                go_wp2_with fail
                go_ret
                exact ⟨by rw [HE.out, h1, h2, h3, h4, h5, h6, h7, ← HN.out]; simp, B.out.trans ((far_below _ _).mono B.out.size)⟩

end Go.Proofs.YtpmgafmbmjokhaaDoor
