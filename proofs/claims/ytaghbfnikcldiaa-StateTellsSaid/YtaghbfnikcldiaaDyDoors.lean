/- What Doors of package day answers. -/
import Derived.Test.YtaghbfnikcldiaaDyLeaf
import Derived.Test.YtaghbfnikcldiaaDyPlain2
namespace Go.Proofs.Ytaghbfnikcldiaa
set_option maxRecDepth 100000
open Go.RowKit

/-- Doors and an error's number, the doors in memory of the call's own. -/
def Doored (l : List Int) (w : World) (e : Ending) (w' : World) : Prop := ∃ a cap, e = .returned (.tuple #[.slice a (doorsV l).length cap, .int .i64 (doorsE l)]) ∧ OwnI w' w.heap.size (.slice a (doorsV l).length cap) (doorsV l) ∧ Below w.heap.size w w'

theorem addDoor_in {acc : List Int} {x : Int} (h : acc.contains x = false) : addDoor acc x = putAt acc (acc.countP (fun y => decide (y < x))) x := by
  unfold addDoor
  rw [h]; rfl
theorem addDoor_there {acc : List Int} {x : Int} (h : acc.contains x = true) : addDoor acc x = acc := by
  unfold addDoor
  rw [h]; rfl

set_option maxHeartbeats 2000000 in
theorem doors_any (a : Option Addr) (cap : Nat) (l : List Int) (w : World) (h : IntsP w a cap l) (hm : l.length ≤ maxLen) :
    Calls Try.prog 18 #[.slice a l.length cap] w (Doored l w) := by
  have H := Lib.hid h
  clear h
  unfold maxLen at hm
  go_enter Try.func18, Try.ntmps18
  go_wp2_with fail
  go_loopw [4, 11] (fun s i wr => ∃ (k : Nat) (acc : List Int), k ≤ l.length ∧ i = .int .i64 k ∧ Hid (OwnI wr w.heap.size s acc) ∧ Hid (doorsFrom [] l = doorsFrom acc (l.drop k)) ∧ Hid (acc.Pairwise (· < ·)) ∧ Hid (∀ y ∈ acc, 0 ≤ y ∧ y ≤ 95) ∧ Below w.heap.size w wr) (fun _ i _ => l.length - (intOf i).toNat)
  case atStart => exact ⟨0, [], Nat.zero_le _, rfl, Lib.hid (OwnI.nil _ _), Lib.hid rfl, Lib.hid (by simp), Lib.hid (by simp), Below.refl _ _⟩
  case round =>
    obtain ⟨k, acc, hk, rfl, HO, HS, HA, HR, hbw⟩ := hrel
    by_cases hlt : k < l.length
    · have hne : l ≠ [] := by intro e; subst e; simp at hlt
      obtain ⟨b1, o1, rfl, q1, r1⟩ := (H.out.below hbw).cell hne
      have g1 := r1 k _ (List.getElem?_eq_getElem hlt)
      have p1 := H.out.cap
      have HD := Lib.hid (List.drop_eq_getElem_cons hlt)
      generalize l[k] = x at *
      clear r1 hne
      cases hx : doorB x with
      | false =>
        have E := Lib.hid (show doorsV l = [] by
          unfold doorsV
          rw [HS.out, HD.out, doorsFrom, hx]; rfl)
        have E2 := Lib.hid (show doorsE l = 31 by unfold doorsE; rw [E.out]; rfl)
        have HX := Lib.hid hx
        clear hx
        go_wp2_with fail
        refine (isDoor_any _ _).mono ?_
        rintro e w' ⟨rfl, rfl⟩
        rw [HX.out]
        go_wp2_with fail
        go_ret2
        exact ⟨none, 0, by rw [E.out, E2.out]; rfl, by rw [E.out]; exact OwnI.nil _ _, hbw⟩
      | true =>
        have HX := Lib.hid hx
        obtain ⟨a2, c2, e2, i2⟩ := HO.out.ints
        subst e2
        have hfew := few_doors HA.out HR.out
        have C1 := Lib.hid (dySearch_any a2 c2 acc x _ i2 (by omega) HA.out)
        have HA2 := Lib.hid (asc_addDoor (x := x) HA.out)
        have HR2 := Lib.hid (rng_addDoor HR.out hx)
        have HN := Lib.hid (show doorsFrom [] l = doorsFrom (addDoor acc x) (l.drop (k + 1)) by
          rw [HS.out, HD.out, doorsFrom, hx]; rfl)
        have hn : acc.countP (fun y => decide (y < x)) ≤ acc.length := List.countP_le_length
        clear hx i2
        cases ht : acc.contains x with
        | true =>
          rw [addDoor_there ht] at HA2 HR2 HN
          rw [ht] at C1
          clear ht
          generalize acc.countP (fun y => decide (y < x)) = n at *
          go_wp2_with fail
          refine (isDoor_any _ _).mono ?_
          rintro e w' ⟨rfl, rfl⟩
          rw [HX.out]
          go_wp2_with fail
          refine C1.out.mono ?_
          rintro e w1 ⟨rfl, q, rfl⟩
          go_wp2_with fail
          go_roundw
          case rel => exact ⟨k + 1, acc, by omega, by go_num, Lib.hid (HO.out.below (dyBelow_drewN (Below.refl _ _) q)), HN, HA2, HR2, dyBelow_drewN hbw q⟩
          case measure => simp [intOf]; omega
        | false =>
          rw [addDoor_in ht] at HA2 HR2 HN
          rw [ht] at C1
          clear ht
          generalize acc.countP (fun y => decide (y < x)) = n at *
          have C2 := Lib.hid (fun q => insert_any w.heap.size a2 c2 acc n x _ (HO.out.below (dyBelow_drewN (Below.refl _ wr) q)) hbw.size hn (by omega))
          go_wp2_with fail
          refine (isDoor_any _ _).mono ?_
          rintro e w' ⟨rfl, rfl⟩
          rw [HX.out]
          go_wp2_with fail
          refine C1.out.mono ?_
          rintro e w1 ⟨rfl, q, rfl⟩
          go_wp2_with fail
          refine (C2.out q).mono ?_
          rintro e w2 ⟨v', rfl, o2, b2⟩
          go_wp2_with fail
          go_roundw
          case rel => exact ⟨k + 1, _, by omega, by go_num, Lib.hid o2, HN, HA2, HR2, ((dyBelow_drewN hbw q).alloc hbw.size _).trans b2⟩
          case measure => simp [intOf]; omega
    · have E := Lib.hid (show doorsV l = acc by
        unfold doorsV
        rw [HS.out, List.drop_eq_nil_of_le (by omega), doorsFrom]; rfl)
      obtain ⟨a2, c2, e2, i2⟩ := HO.out.ints
      subst e2
      have hfew := few_doors HA.out HR.out
      clear i2
      cases he : acc.isEmpty with
      | true =>
        have he' : acc = [] := List.isEmpty_iff.1 he
        subst he'
        have E2 := Lib.hid (show doorsE l = 31 by unfold doorsE; rw [E.out]; rfl)
        go_wp2_with fail
        go_ret2
        exact ⟨none, 0, by rw [E.out, E2.out]; rfl, by rw [E.out]; exact OwnI.nil _ _, hbw⟩
      | false =>
        have E2 := Lib.hid (show doorsE l = 0 by unfold doorsE; rw [E.out, he]; rfl)
        have hpos : ¬ ((acc.length : Int) = 0) := by
          have : acc ≠ [] := by intro e; subst e; simp at he
          have := List.length_pos_iff.2 this
          omega
        clear he
        go_wp2_with fail
        go_ret2
        exact ⟨a2, c2, by rw [E.out, E2.out]; rfl, by rw [E.out]; exact HO.out, hbw⟩

theorem OwnI.setRow {w : World} {base : Nat} {v : Value} {ls : List Int} (h : OwnI w base v ls) {k : Nat} (hk : k < base) (cs : Array Value) : OwnI (w.setRow k cs) base v ls := by
  refine ⟨h.1, ?_⟩
  rcases h.2 with h1 | ⟨g, cap, cur, e, h1, h2, h3⟩
  · exact .inl h1
  · exact .inr ⟨g, cap, cur, e, h1, (setRow_other _ _ g _ (by omega)).trans h2, h3⟩
theorem OwnI.at {w : World} {base : Nat} {a : Option Addr} {cap : Nat} {ls : List Int} (h : OwnI w base (.slice a ls.length cap) ls) : IntsP w a cap ls := by
  obtain ⟨a2, c2, e, i⟩ := h.ints
  injection e with e1 _ e2
  subst e1 e2
  exact i

end Go.Proofs.Ytaghbfnikcldiaa
