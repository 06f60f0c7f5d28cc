/- What Same of package packhorseref01 answers of two slices of texts. -/
import Derived.Test.YtbhknaggbenfnaaTxMem
namespace Go.Proofs.Ytbhknaggbenfnaa
set_option maxRecDepth 100000
open Go.RowKit

set_option maxHeartbeats 2000000 in
theorem refSameT_any (a1 a2 : Option Addr) (c1 c2 : Nat) (l m : List ByteArray) (w : World) (h1 : StrsP w a1 c1 l) (h2 : StrsP w a2 c2 m) :
    Calls Try.prog 17 #[.slice a1 l.length c1, .slice a2 m.length c2] w (Tell (sameT l m) w) := by
  have H1 := Lib.hid h1
  have H2 := Lib.hid h2
  have hl := h1.len
  clear h1 h2
  by_cases hq : l.length = m.length
  rotate_left
  · have HE := Lib.hid (show sameT l m = false from sameT_len hq)
    go_enter Try.func17, Try.ntmps17
    go_wp2_with fail
    go_ret
    exact ⟨by rw [HE.out]; rfl, Below.refl _ _⟩
  · have HQ := Lib.hid hq
    rw [← hq]
    clear hq
    go_enter Try.func17, Try.ntmps17
    go_wp2_with fail
    go_loopw [13] (fun i wr => ∃ k : Nat, k ≤ l.length ∧ i = .int .i64 k ∧ Hid (sameT l m = sameT (l.drop k) (m.drop k)) ∧ Below w.heap.size w wr) (fun i _ => l.length - (intOf i).toNat)
    case atStart => exact ⟨0, Nat.zero_le _, rfl, Lib.hid rfl, Below.refl _ _⟩
    case round =>
      obtain ⟨k, hk, rfl, HK, hbw⟩ := hrel
      by_cases hlt : k < l.length
      · have hltm : k < m.length := by rw [← HQ.out]; exact hlt
        obtain ⟨b1, o1, rfl, q1, r1⟩ := (H1.out.below hbw).at k hlt
        obtain ⟨b2, o2, rfl, q2, s1⟩ := (H2.out.below hbw).at k hltm
        have p1 := H1.out.cap
        have p2 := H2.out.cap
        rw [← HQ.out] at p2
        have HS := Lib.hid (sameT_step l m k hlt hltm)
        generalize l[k] = x at *
        generalize m[k] = y at *
        cases hb : (x.toList == y.toList) with
        | true =>
          have HE := Lib.hid (show sameT l m = sameT (l.drop (k + 1)) (m.drop (k + 1)) by rw [HK.out, HS.out, hb]; rfl)
          go_wp2_with fail
          go_quiet (fail)
          go_wp2_with fail
          go_roundw
          case rel => exact ⟨k + 1, by omega, by go_num, HE, below_drewN hbw _⟩
          case measure => simp [intOf]; omega
        | false =>
          have HE := Lib.hid (show sameT l m = false by rw [HK.out, HS.out, hb]; rfl)
          go_wp2_with fail
          go_quiet (fail)
          go_wp2_with fail
          go_ret
          exact ⟨by rw [HE.out]; rfl, below_drewN hbw _⟩
      · have HE := Lib.hid (same_rest HQ.out hlt HK.out)
        go_wp2_with fail
        go_ret
        exact ⟨by rw [HE.out]; rfl, hbw⟩


end Go.Proofs.Ytbhknaggbenfnaa
