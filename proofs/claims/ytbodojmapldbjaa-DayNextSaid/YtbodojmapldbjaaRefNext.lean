/- What the document's Next and Same answer. -/
import Derived.Test.YtbodojmapldbjaaPass
namespace Go.Proofs.Ytbodojmapldbjaa
open Go.RowKit

theorem next_bad {l : List Int} {t : Int} (h : nextOk l t = false) : nextV l t = 0 ∧ nextE l t = 31 := by simp [nextV, nextE, h]

set_option maxHeartbeats 2000000 in
theorem refNext_any (a : Option Addr) (cap : Nat) (l : List Int) (t : Int) (w : World) (h : IntsP w a cap l) (hm : l.length ≤ maxLen) :
    Calls Try.prog 16 #[.slice a l.length cap, .int .i64 t] w (PairB (nextV l t) (nextE l t) w) := by
  have C0 := Lib.hid (refFits_any a cap l w h hm)
  have HI := Lib.hid h
  have HM := Lib.hid hm
  clear h hm
  cases hF : fitsB l with
  | false =>
    have E := next_bad (show nextOk l t = false by simp [nextOk, hF])
    rw [E.1, E.2]
    rw [hF] at C0
    clear hF E
    go_enter Try.func16, Try.ntmps16
    go_wp2_with fail
    refine C0.out.mono ?_
    rintro e w' ⟨rfl, rfl⟩
    go_wp2_with fail
    go_ret2
    exact ⟨rfl, Below.refl _ _⟩
  | true =>
    have hf := fitsB_iff.1 hF
    rw [hF] at C0
    cases hT : rightB t with
    | false =>
      have E := next_bad (show nextOk l t = false by simp [nextOk, hT])
      rw [E.1, E.2]
      have HT := Lib.hid hT
      clear hF hT hf E
      go_enter Try.func16, Try.ntmps16
      go_wp2_with fail
      refine C0.out.mono ?_
      rintro e w' ⟨rfl, rfl⟩
      go_wp2_with fail
      refine (refRight_any _ _).mono ?_
      rintro e w' ⟨rfl, rfl⟩
      rw [HT.out]
      go_wp2_with fail
      go_ret2
      exact ⟨rfl, Below.refl _ _⟩
    | true =>
      obtain ⟨t0, t1⟩ := rightB_true.1 hT
      obtain ⟨k0, k1⟩ := next_gt hf t
      have HT := Lib.hid hT
      have HOK := Lib.hid (show nextOk l t = decide (nextRaw l t ≤ 1099511627776) by simp [nextOk, hF, hT])
      have HF := Lib.hid hf
      clear hF hT hf
      go_enter Try.func16, Try.ntmps16
      go_wp2_with fail
      refine C0.out.mono ?_
      rintro e w' ⟨rfl, rfl⟩
      go_wp2_with fail
      refine (refRight_any _ _).mono ?_
      rintro e w' ⟨rfl, rfl⟩
      rw [HT.out]
      go_wp2_with fail
      go_loopw [6] (fun i wr => ∃ (n : Int), t < n ∧ n ≤ nextRaw l t ∧ n ≤ 1099511627777 ∧ i = .int .i64 n ∧ Below w.heap.size w wr) (fun i _ => (1099511627777 - intOf i).toNat)
      case atStart => exact ⟨t + 1, by omega, by omega, by omega, rfl, Below.refl _ _⟩
      case round =>
        obtain ⟨n, n0, n1, n2, rfl, hbw⟩ := hrel
        by_cases hn : n ≤ 1099511627776
        · have C1 := Lib.hid (refCloses_any a cap l n _ (HI.out.below hbw) HM.out (by omega) (by omega))
          by_cases hlt : n < nextRaw l t
          · rw [next_none HF.out n0 hlt] at C1
            go_wp2_with fail
            refine C1.out.mono ?_
            rintro e w1 ⟨rfl, b1⟩
            go_wp2_with fail
            go_roundw
            case rel => exact ⟨n + 1, by omega, by omega, by omega, rfl, hbw.trans (b1.mono hbw.size)⟩
            case measure => simp [intOf]; omega
          · have hE := Lib.hid (show n = nextRaw l t by omega)
            have E1 := Lib.hid (show nextV l t = n by unfold nextV; rw [HOK.out, ← hE.out, decide_eq_true hn]; rfl)
            have E2 := Lib.hid (show nextE l t = 0 by unfold nextE; rw [HOK.out, ← hE.out, decide_eq_true hn]; rfl)
            rw [show closesB l n = true by rw [hE.out]; exact next_closes HF.out t] at C1
            clear hlt
            go_wp2_with fail
            refine C1.out.mono ?_
            rintro e w1 ⟨rfl, b1⟩
            go_wp2_with fail
            go_ret2
            exact ⟨by rw [E1.out, E2.out]; rfl, hbw.trans (b1.mono hbw.size)⟩
        · have E := Lib.hid (next_bad (show nextOk l t = false by rw [HOK.out]; simp; omega))
          have hn' : decide (n ≤ 1099511627776) = false := by simpa using hn
          go_wp2_with fail
          go_ret2
          exact ⟨by rw [E.out.1, E.out.2]; rfl, hbw⟩

set_option maxHeartbeats 2000000 in
/-- The document's Same, of the same numbers. -/
theorem same_any (a1 a2 : Option Addr) (c1 c2 : Nat) (l : List Int) (w : World) (h1 : IntsP w a1 c1 l) (h2 : IntsP w a2 c2 l) (hm : l.length ≤ maxLen) :
    Calls Try.prog 15 #[.slice a1 l.length c1, .slice a2 l.length c2] w fun e w' => e = .returned (.bool true) ∧ Below w.heap.size w w' := by
  have H1 := Lib.hid h1
  have H2 := Lib.hid h2
  clear h1 h2
  unfold maxLen at hm
  go_enter Try.func15, Try.ntmps15
  go_wp2_with fail
  go_loopw [13] (fun i wr => ∃ k : Nat, k ≤ l.length ∧ i = .int .i64 k ∧ Below w.heap.size w wr) (fun i _ => l.length - (intOf i).toNat)
  case atStart => exact ⟨0, Nat.zero_le _, rfl, Below.refl _ _⟩
  case round =>
    obtain ⟨k, hk, rfl, hbw⟩ := hrel
    by_cases hlt : k < l.length
    · have hne : l ≠ [] := by intro e; subst e; simp at hlt
      obtain ⟨b1, o1, rfl, q1, r1⟩ := (H1.out.below hbw).cell hne
      obtain ⟨b2, o2, rfl, q2, r2⟩ := (H2.out.below hbw).cell hne
      have g1 := r1 k _ (List.getElem?_eq_getElem hlt)
      have g2 := r2 k _ (List.getElem?_eq_getElem hlt)
      have p1 := H1.out.cap
      have p2 := H2.out.cap
      generalize l[k] = x at *
      clear r1 r2 hne
      go_wp2_with fail
      go_region
      go_wp2_with fail
      go_roundw
      case rel => exact ⟨k + 1, by omega, by go_num, hbw.drew⟩
      case measure => simp [intOf]; omega
    · go_wp2_with fail
      go_ret
      exact ⟨rfl, hbw⟩

end Go.Proofs.Ytbodojmapldbjaa
