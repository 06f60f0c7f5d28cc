/- What Right of package tally answers, the document's Right of numbers and Group; three texts in a block. -/
import Derived.Test.YtieoihmndpkdoaaScPlain
import Derived.Test.YtieoihmndpkdoaaLbRef
import Derived.Test.YtieoihmndpkdoaaBkFar
namespace Go.Proofs.Ytieoihmndpkdoaa
set_option maxRecDepth 100000
open Go.RowKit

/-- A test is answered; all that was there stays. -/
def Tell (b : Bool) (w : World) (e : Ending) (w' : World) : Prop := e = .returned (.bool b) ∧ Below w.heap.size w w'
set_option maxHeartbeats 1000000 in
theorem tally_any (n : Int) (w : World) : Calls Try.prog 40 #[.int .i64 n] w (BoolSame (tallyB n) w) := by
  have HE := Lib.hid (show tallyB n = (decide (0 ≤ n) && decide (n ≤ 1000000000000)) by rw [Bool.eq_iff_iff]; simp [tallyB])
  cases h1 : decide (0 ≤ n) <;> cases h2 : decide (n ≤ 1000000000000)
  all_goals
    rw [h1, h2] at HE
    go_enter Try.func40, Try.ntmps40
    go_wp2_with fail
    go_ret
    exact ⟨by rw [HE.out]; rfl, rfl⟩
set_option maxHeartbeats 1000000 in
theorem refTally_any (n : Int) (w : World) : Calls Try.prog 21 #[.int .i64 n] w (BoolSame (tallyB n) w) := by
  have HE := Lib.hid (show tallyB n = (decide (0 ≤ n) && decide (n ≤ 1000000000000)) by rw [Bool.eq_iff_iff]; simp [tallyB])
  cases h1 : decide (0 ≤ n) <;> cases h2 : decide (n ≤ 1000000000000)
  all_goals
    rw [h1, h2] at HE
    go_enter Try.func21, Try.ntmps21
    go_wp2_with fail
    go_ret
    exact ⟨by rw [HE.out]; rfl, rfl⟩
/-- Three texts in a block. -/
def GrB (w : World) (g : Nat) (a b c : ByteArray) : Prop := w.heap[g]? = some (.cells #[.string a, .string b, .string c] 25 (0, 0))
theorem GrB.cells {w : World} {g : Nat} {a b c : ByteArray} (h : GrB w g a b c) : w.cell? ⟨g, 0, none⟩ = some (.string a) ∧ w.cell? ⟨g, 1, none⟩ = some (.string b) ∧ w.cell? ⟨g, 2, none⟩ = some (.string c) := by
  unfold GrB at h
  simp [World.cell?, h]
theorem GrB.lt {w : World} {g : Nat} {a b c : ByteArray} (h : GrB w g a b c) : g < w.heap.size := (Array.getElem?_eq_some_iff.1 h).1
theorem GrB.below {w w' : World} {g : Nat} {a b c : ByteArray} (h : GrB w g a b c) (hb : Below w.heap.size w w') : GrB w' g a b c := (hb.block g h.lt).trans h
theorem GrB.new (w : World) (a b c : ByteArray) : GrB (w.alloc (.cells #[.string a, .string b, .string c] 25)) w.heap.size a b c := heap_alloc_new w _
set_option maxHeartbeats 2000000 in
theorem refGroup_any (a b c : ByteArray) (w : World) (ha : a.size ≤ maxLen) (hb : b.size ≤ maxLen) (hc : c.size ≤ maxLen) : Calls Try.prog 45 #[.agg #[.string a, .string b, .string c]] w (Tell (groupB a b c) w) := by
  have C1 : Hid (∀ w, Calls Try.prog 46 #[.string a] w (Tell (rightT a) w)) := Lib.hid (fun w => refRight_any a w ha)
  have C2 : Hid (∀ w, Calls Try.prog 46 #[.string b] w (Tell (rightT b) w)) := Lib.hid (fun w => refRight_any b w hb)
  have C3 : Hid (∀ w, Calls Try.prog 46 #[.string c] w (Tell (rightT c) w)) := Lib.hid (fun w => refRight_any c w hc)
  have D := Lib.hid (GrB.new w a b c)
  have B := Lib.hid ((Below.refl w.heap.size w).alloc (Nat.le_refl _) (Obj.cells #[Value.string a, Value.string b, Value.string c] 25))
  have HE := Lib.hid (show groupB a b c = (rightT a && (rightT b && rightT c)) from rfl)
  clear ha hb hc
  go_enter Try.func45, Try.ntmps45
  go_wp2_with fail
  refine (C1.out _).mono ?_
  rintro e w1 ⟨rfl, b1⟩
  generalize w.alloc (Obj.cells #[Value.string a, Value.string b, Value.string c] 25) = W at *
  have D1 := Lib.hid (D.out.below b1)
  have B1 := Lib.hid (B.out.trans (b1.mono B.out.size))
  obtain ⟨c0, c1, c2⟩ := D1.out.cells
  clear b1
  cases h1 : rightT a with
  | false =>
    go_wp2_with fail
    go_ret
    exact ⟨by rw [HE.out, h1]; rfl, B1.out⟩
  | true =>
    go_wp2_with fail
    refine (C2.out _).mono ?_
    rintro e w2 ⟨rfl, b2⟩
    have D2 := Lib.hid (D1.out.below b2)
    have B2 := Lib.hid (B1.out.trans (b2.mono B1.out.size))
    clear c0 c1 c2 b2
    obtain ⟨c0, c1, c2⟩ := D2.out.cells
    cases h2 : rightT b with
    | false =>
      go_wp2_with fail
      go_ret
      exact ⟨by rw [HE.out, h1, h2]; rfl, B2.out⟩
    | true =>
      go_wp2_with fail
      refine (C3.out _).mono ?_
      rintro e w3 ⟨rfl, b3⟩
      have B3 := Lib.hid (B2.out.trans (b3.mono B2.out.size))
      clear c0 c1 c2 b3
      go_wp2_with fail
      go_ret
      exact ⟨by rw [HE.out, h1, h2]; rfl, B3.out⟩

end Go.Proofs.Ytieoihmndpkdoaa
