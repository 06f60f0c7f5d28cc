/- What Next and Passed of package day answer, and the document's Closes and Next. -/
import Derived.Test.YtbodojmapldbjaaLeaf
namespace Go.Proofs.Ytbodojmapldbjaa
open Go.RowKit

set_option maxHeartbeats 1000000 in
theorem closedBy_any (a : Option Addr) (cap : Nat) (l : List Int) (t : Int) (w : World) (h : IntsP w a cap l) (hf : FitsP l) (h0 : 0 ≤ t) (h1 : t < 96) :
    Calls Try.prog 26 #[.slice a l.length cap, .int .i64 t] w fun e w' => e = .returned (.int .i64 (closedN l t : Nat)) ∧ Below w.heap.size w w' := by
  have hl := hf.len
  have C := Lib.hid (search_any a cap l (t + 1) w h (by omega) hf.asc)
  have hlt : closedN l t ≤ l.length := closedN_le l t
  change Hid (Calls Try.prog 23 #[.slice a l.length cap, .int .i64 (t + 1)] w fun e w' => e = .returned (.tuple #[.int .i64 (closedN l t : Nat), .bool (l.contains (t + 1))]) ∧ ∃ q, w' = w.drewN q) at C
  generalize l.contains (t + 1) = c at C
  generalize closedN l t = n at *
  clear h hf
  go_enter Try.func26, Try.ntmps26
  go_wp2_with fail
  refine C.out.mono ?_
  rintro e w' ⟨rfl, q, rfl⟩
  go_wp2_with fail
  go_ret
  exact ⟨rfl, below_drewN (Below.refl _ _) q⟩

set_option maxHeartbeats 2000000 in
theorem closings_any (a : Option Addr) (cap : Nat) (l : List Int) (t : Int) (w : World) (h : IntsP w a cap l) (hf : FitsP l) (ht : rightB t = true) :
    Calls Try.prog 28 #[.slice a l.length cap, .int .i64 t] w fun e w' => e = .returned (.int .i64 (closeN l t)) ∧ Below w.heap.size w w' := by
  obtain ⟨t0, t1⟩ := rightB_true.1 ht
  have hl := hf.len
  have C1 := Lib.hid (fun W => of_any t W)
  have ho : ofD t = t / 96 := by simp [ofD, ht]
  have ho2 : ofT t = t % 96 := by simp [ofT, ht]
  rw [ho, ho2] at C1
  have HI := Lib.hid h
  have C2 := Lib.hid (fun W (hw : IntsP W a cap l) => closedBy_any a cap l (t % 96) W hw hf (by omega) (by omega))
  have E : closeN l t = t / 96 * l.length + (closedN l (t % 96) : Nat) := rfl
  obtain ⟨b1, b2, b3, b4⟩ := closeN_bounds hf t0 t1
  rw [E] at b3 b4
  rw [E]
  have hw1 : IntKind.i64.wrap (t / 96 * l.length) = t / 96 * l.length := IntWalk.i64_in _ (by omega)
  have hc := closedN_le l (t % 96)
  generalize closedN l (t % 96) = n at *
  have hw2 : IntKind.i64.wrap (t / 96 * l.length + n) = t / 96 * l.length + n := IntWalk.i64_in _ (by omega)
  have q0 : 0 ≤ t / 96 := by omega
  have q1 : t / 96 ≤ 1099511627776 := by omega
  clear h hf ht ho ho2 E
  go_enter Try.func28, Try.ntmps28
  go_wp2_with fail
  refine (C1.out _).mono ?_
  rintro e w' ⟨rfl, rfl⟩
  go_wp2_with fail
  refine (C2.out _ HI.out).mono ?_
  rintro e w' ⟨rfl, b5⟩
  go_wp2_with fail
  go_ret
  exact ⟨rfl, b5⟩

/-- The next closing, as a day and a door of it. -/
theorem next_tick {l : List Int} (hf : FitsP l) {t : Int} (ht : rightB t = true) : tickV (nextRaw l t) = nextV l t ∧ tickE (nextRaw l t) = nextE l t := by
  obtain ⟨h0, h1⟩ := rightB_true.1 ht
  have hg := next_gt hf t
  have : rightB (nextRaw l t) = decide (nextRaw l t ≤ 1099511627776) := by
    unfold rightB
    rw [decide_eq_true (show 0 ≤ nextRaw l t by omega)]
    rfl
  simp only [tickV, tickE, nextV, nextE, nextOk, this, ht, fitsB_iff.2 hf, Bool.true_and]
  exact ⟨trivial, trivial⟩

set_option maxHeartbeats 2000000 in
theorem next_any (a : Option Addr) (cap : Nat) (l : List Int) (t : Int) (w : World) (h : IntsP w a cap l) (hm : l.length ≤ maxLen) :
    Calls Try.prog 10 #[.slice a l.length cap, .int .i64 t] w (PairB (nextV l t) (nextE l t) w) := by
  have C0 := Lib.hid (areDoors_any a cap l w h hm)
  have HI := Lib.hid h
  clear h
  unfold maxLen at hm
  cases hF : fitsB l with
  | false =>
    have e1 : nextV l t = 0 := by simp [nextV, nextOk, hF]
    have e2 : nextE l t = 31 := by simp [nextE, nextOk, hF]
    rw [e1, e2]
    rw [hF] at C0
    clear hF e1 e2
    go_enter Try.func10, Try.ntmps10
    go_wp2_with fail
    refine C0.out.mono ?_
    rintro e w' ⟨rfl, b1⟩
    go_wp2_with fail
    go_ret2
    exact ⟨rfl, b1⟩
  | true =>
    have hf := fitsB_iff.1 hF
    rw [hF] at C0
    cases hR : rightB t with
    | false =>
      have e1 : nextV l t = 0 := by simp [nextV, nextOk, hR]
      have e2 : nextE l t = 31 := by simp [nextE, nextOk, hR]
      rw [e1, e2]
      have HR := Lib.hid hR
      clear hF hR e1 e2 hf
      go_enter Try.func10, Try.ntmps10
      go_wp2_with fail
      refine C0.out.mono ?_
      rintro e w' ⟨rfl, b1⟩
      go_wp2_with fail
      refine (right_any _ _).mono ?_
      rintro e w' ⟨rfl, rfl⟩
      rw [HR.out]
      go_wp2_with fail
      go_ret2
      exact ⟨rfl, b1⟩
    | true =>
      have HR := Lib.hid hR
      have HN := Lib.hid (next_tick hf hR)
      obtain ⟨t0, t1⟩ := rightB_true.1 hR
      have C1 := Lib.hid (fun W => of_any t W)
      have ho : ofD t = t / 96 := by simp [ofD, hR]
      have ho2 : ofT t = t % 96 := by simp [ofT, hR]
      rw [ho, ho2] at C1
      have C2 := Lib.hid (fun W (hw : IntsP W a cap l) => closedBy_any a cap l (t % 96) W hw hf (by omega) (by omega))
      have q0 : 0 ≤ t / 96 := by omega
      have q1 : t / 96 ≤ 11453246123 := by omega
      have hc := closedN_le l (t % 96)
      have hp := hf.pos
      have hl := hf.len
      have hne : l ≠ [] := by intro e; subst e; simp at hp
      obtain ⟨b, o, rfl, hlt, -⟩ := HI.out.cell hne
      have hcap := HI.out.cap
      by_cases he : closedN l (t % 96) = l.length
      · have hd := hf.at hp
        have HE := Lib.hid (show nextRaw l t = (t / (96 : Int) + (1 : Int)) * (96 : Int) + (l[0] : Int) by unfold nextRaw; rw [if_pos he, getD_get l hp])
        have C3 := Lib.hid (fun W => tickOf_any (t / 96 + 1) l[0] W (by omega) (by omega) (by omega) (by omega))
        rw [← HE.out, HN.out.1, HN.out.2] at C3
        have HX := Lib.hid (List.getElem?_eq_getElem hp)
        generalize l[0] = x at *
        generalize nextV l t = v at *
        generalize nextE l t = ve at *
        rw [he] at C2
        clear he hc hf hF hR ho ho2
        go_enter Try.func10, Try.ntmps10
        go_wp2_with fail
        refine C0.out.mono ?_
        rintro e w1 ⟨rfl, b1⟩
        go_wp2_with fail
        refine (right_any _ _).mono ?_
        rintro e w' ⟨rfl, rfl⟩
        rw [HR.out]
        go_wp2_with fail
        refine (C1.out _).mono ?_
        rintro e w' ⟨rfl, rfl⟩
        go_wp2_with fail
        refine (C2.out _ (HI.out.below b1)).mono ?_
        rintro e w2 ⟨rfl, b2⟩
        have b3 := b1.trans (b2.mono b1.size)
        obtain ⟨b', o', eq, hlt', hcell⟩ := (HI.out.below b3).cell hne
        injection eq with eq
        injection eq with eb eo
        subst eb eo
        have g1 := hcell 0 x HX.out
        rw [Nat.add_zero] at g1
        clear hcell
        go_wp2_with fail
        refine (C3.out _).mono ?_
        rintro e w' ⟨rfl, rfl⟩
        go_wp2_with fail
        go_ret2
        exact ⟨rfl, b3⟩
      · have hk : closedN l (t % 96) < l.length := by omega
        have hd := hf.at hk
        have HE := Lib.hid (show nextRaw l t = t / (96 : Int) * (96 : Int) + (l[closedN l (t % 96)] : Int) by unfold nextRaw; rw [if_neg he, getD_get l hk])
        have C3 := Lib.hid (fun W => tickOf_any (t / 96) l[closedN l (t % 96)] W (by omega) (by omega) (by omega) (by omega))
        rw [← HE.out, HN.out.1, HN.out.2] at C3
        have HX := Lib.hid (List.getElem?_eq_getElem hk)
        generalize l[closedN l (t % 96)] = x at *
        generalize nextV l t = v at *
        generalize nextE l t = ve at *
        generalize closedN l (t % 96) = n at *
        have hnn : ¬ ((n : Int) = (l.length : Int)) := by omega
        clear he hf hF hR ho ho2
        go_enter Try.func10, Try.ntmps10
        go_wp2_with fail
        refine C0.out.mono ?_
        rintro e w1 ⟨rfl, b1⟩
        go_wp2_with fail
        refine (right_any _ _).mono ?_
        rintro e w' ⟨rfl, rfl⟩
        rw [HR.out]
        go_wp2_with fail
        refine (C1.out _).mono ?_
        rintro e w' ⟨rfl, rfl⟩
        go_wp2_with fail
        refine (C2.out _ (HI.out.below b1)).mono ?_
        rintro e w2 ⟨rfl, b2⟩
        have b3 := b1.trans (b2.mono b1.size)
        obtain ⟨b', o', eq, hlt', hcell⟩ := (HI.out.below b3).cell hne
        injection eq with eq
        injection eq with eb eo
        subst eb eo
        have g1 := hcell n x HX.out
        clear hcell
        go_wp2_with fail
        refine (C3.out _).mono ?_
        rintro e w' ⟨rfl, rfl⟩
        go_wp2_with fail
        go_ret2
        exact ⟨rfl, b3⟩

end Go.Proofs.Ytbodojmapldbjaa
