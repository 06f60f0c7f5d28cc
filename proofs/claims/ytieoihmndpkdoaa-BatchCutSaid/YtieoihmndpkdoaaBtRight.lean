/- What Right of package batch, and the document's, answer, at every batch. -/
import Derived.Test.YtieoihmndpkdoaaBtMem
namespace Go.Proofs.Ytieoihmndpkdoaa
set_option maxRecDepth 100000
open Go.RowKit

theorem right_all (b : Bt) : rightBt b = (aboveB b.id && (tallyB b.wt && (tickB b.born && (((b.kind == 1) || (b.kind == 2)) && (decide (1 ≤ b.phase) && (decide (b.phase ≤ 3) && (groupB b.car b.zone b.serv && membersB b.mem))))))) := by
  have e1 : kindB b.kind = ((b.kind == 1) || (b.kind == 2)) := by rw [Bool.eq_iff_iff]; simp [kindB]
  have e2 : btPhaseB b.phase = (decide (1 ≤ b.phase) && decide (b.phase ≤ 3)) := by rw [Bool.eq_iff_iff]; simp [btPhaseB]
  rw [rightBt, e1, e2, Bool.and_assoc]

set_option maxHeartbeats 4000000 in
theorem btRight_any (a : Option Addr) (cap : Nat) (b : Bt) (w : World) (h : BtP w a cap b) : Calls Try.prog 16 #[btV a cap b] w (Tell (rightBt b) w) := by
  have C1 := Lib.hid (fun w => above_any b.id w)
  have C2 := Lib.hid (fun w => tally_any b.wt w)
  have C3 := Lib.hid (fun w => tick_any b.born w)
  have C4 := Lib.hid (fun w => btGroup_any b.car b.zone b.serv w h.car h.zone h.serv)
  have C5 := Lib.hid (fun W hW => members_any a cap b.mem W hW h.fit)
  have D := Lib.hid (BtB.new w a cap b)
  have B := Lib.hid ((Below.refl w.heap.size w).alloc (Nat.le_refl _) (Obj.cells (btC a cap b) 28))
  have L := Lib.hid (h.mem.below B.out)
  have HE := Lib.hid (right_all b)
  clear h
  unfold btV
  unfold btC at *
  go_enter Try.func16, Try.ntmps16
  go_wp2_with fail
  generalize w.alloc (Obj.cells #[Value.int IntKind.i64 b.id, Value.int IntKind.i64 b.wt, Value.int IntKind.i64 b.born, Value.int IntKind.i64 b.kind, Value.int IntKind.i64 b.phase, Value.string b.car, Value.string b.zone, Value.string b.serv, Value.slice a b.mem.length cap] 28) = W at *
  obtain ⟨⟨c0, c1, c2, c3, c4⟩, c5, c6, c7, c8⟩ := BtB.cells (b := b) D.out
  go_wp2_with fail
  refine (C1.out _).mono ?_
  rintro e w1 ⟨rfl, rfl⟩
  cases h1 : aboveB b.id with
  | false =>
    go_wp2_with fail
    go_ret
    exact ⟨by rw [HE.out, h1]; rfl, B.out⟩
  | true =>
    go_wp2_with fail
    refine (C2.out _).mono ?_
    rintro e w1 ⟨rfl, rfl⟩
    cases h2 : tallyB b.wt with
    | false =>
      go_wp2_with fail
      go_ret
      exact ⟨by rw [HE.out, h1, h2]; rfl, B.out⟩
    | true =>
      go_wp2_with fail
      refine (C3.out _).mono ?_
      rintro e w1 ⟨rfl, rfl⟩
      cases h3 : tickB b.born with
      | false =>
        go_wp2_with fail
        go_ret
        exact ⟨by rw [HE.out, h1, h2, h3]; rfl, B.out⟩
      | true =>
        cases hk : ((b.kind == 1) || (b.kind == 2)) with
        | false =>
          have hk2 := hk
          rw [Bool.or_eq_false_iff] at hk2
          obtain ⟨ka, kb⟩ := hk2
          go_wp2_with fail
          go_ret
          exact ⟨by rw [HE.out, h1, h2, h3, hk]; rfl, B.out⟩
        | true =>
          cases ka : (b.kind == 1) with
          | false =>
            have kb : (b.kind == 2) = true := by rw [ka] at hk; exact hk
            cases p1 : decide (1 ≤ b.phase) with
            | false =>
              go_wp2_with fail
              go_ret
              exact ⟨by rw [HE.out, h1, h2, h3, hk, p1]; rfl, B.out⟩
            | true =>
              cases p2 : decide (b.phase ≤ 3) with
              | false =>
                go_wp2_with fail
                go_ret
                exact ⟨by rw [HE.out, h1, h2, h3, hk, p1, p2]; rfl, B.out⟩
              | true =>
                have p1i : 1 ≤ b.phase := by simpa using p1
                go_wp2_with fail
                refine (C4.out _).mono ?_
                rintro e w1 ⟨rfl, b1⟩
                have D1 := Lib.hid (BtB.below (b := b) D.out b1)
                have B1 := Lib.hid (B.out.trans (b1.mono B.out.size))
                have L1 := Lib.hid (L.out.below b1)
                obtain ⟨⟨d0, d1, d2, d3, d4⟩, d5, d6, d7, d8⟩ := BtB.cells (b := b) D1.out
                clear b1 c0 c1 c2 c3 c4 c5 c6 c7 c8
                cases h4 : groupB b.car b.zone b.serv with
                | false =>
                  go_wp2_with fail
                  go_ret
                  exact ⟨by rw [HE.out, h1, h2, h3, hk, p1, p2, h4]; rfl, B1.out⟩
                | true =>
                  go_wp2_with fail
                  refine (C5.out _ L1.out).mono ?_
                  rintro e w2 ⟨rfl, b2⟩
                  go_wp2_with fail
                  go_ret
                  exact ⟨by rw [HE.out, h1, h2, h3, hk, p1, p2, h4]; rfl, B1.out.trans (b2.mono B1.out.size)⟩
          | true =>
            cases p1 : decide (1 ≤ b.phase) with
            | false =>
              go_wp2_with fail
              go_ret
              exact ⟨by rw [HE.out, h1, h2, h3, hk, p1]; rfl, B.out⟩
            | true =>
              cases p2 : decide (b.phase ≤ 3) with
              | false =>
                go_wp2_with fail
                go_ret
                exact ⟨by rw [HE.out, h1, h2, h3, hk, p1, p2]; rfl, B.out⟩
              | true =>
                have p1i : 1 ≤ b.phase := by simpa using p1
                go_wp2_with fail
                refine (C4.out _).mono ?_
                rintro e w1 ⟨rfl, b1⟩
                have D1 := Lib.hid (BtB.below (b := b) D.out b1)
                have B1 := Lib.hid (B.out.trans (b1.mono B.out.size))
                have L1 := Lib.hid (L.out.below b1)
                obtain ⟨⟨d0, d1, d2, d3, d4⟩, d5, d6, d7, d8⟩ := BtB.cells (b := b) D1.out
                clear b1 c0 c1 c2 c3 c4 c5 c6 c7 c8
                cases h4 : groupB b.car b.zone b.serv with
                | false =>
                  go_wp2_with fail
                  go_ret
                  exact ⟨by rw [HE.out, h1, h2, h3, hk, p1, p2, h4]; rfl, B1.out⟩
                | true =>
                  go_wp2_with fail
                  refine (C5.out _ L1.out).mono ?_
                  rintro e w2 ⟨rfl, b2⟩
                  go_wp2_with fail
                  go_ret
                  exact ⟨by rw [HE.out, h1, h2, h3, hk, p1, p2, h4]; rfl, B1.out.trans (b2.mono B1.out.size)⟩

end Go.Proofs.Ytieoihmndpkdoaa
