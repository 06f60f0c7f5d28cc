/- The document's own words on lines: what Same of package packhorseref04 answers of the same lines. -/
import Derived.Test.YtijcgioggmphkaaTake
import Derived.Test.YtijcgioggmphkaaMerge
namespace Go.Proofs.Ytijcgioggmphkaa
open Go.RowKit

theorem neq_self (x : Ln) (w : World) : (binOp .neq 27 (.agg #[.string x.sku, .int .i64 x.qty, .int .i64 x.wt]) (.agg #[.string x.sku, .int .i64 x.qty, .int .i64 x.wt])).run Try.prog w = .ok (.bool false) w := by
  have u2 := Try.underlying2
  have u9 := Try.underlying9
  have a2 := Try.isAgg2
  have a9 := Try.isAgg9
  have z2 := Try.sizeOf2
  have z9 := Try.sizeOf9
  have hS : Try.prog.underlying 27 = some (.struct (Try.prog.fieldsOf 27)) := by kernel_rfl
  have hp : Try.prog.stoodInHeld 27 = false := by kernel_rfl
  rw [run_neq_struct, show (10000 : Nat) = 9999 + 1 from rfl, run_equalIn_agg w 9999 27 _ _ hS hp]
  simp only [Program.fieldsOf, Try.underlying27]
  go_simp

set_option maxHeartbeats 2000000 in
/-- Two slices of the same lines are the same. -/
theorem same_any (a1 a2 : Option Addr) (c1 c2 : Nat) (ls : List Ln) (w : World) (h1 : LnsP w a1 c1 ls) (h2 : LnsP w a2 c2 ls) (hl : ls.length ≤ 1000000) :
    Calls Try.prog 20 #[.slice a1 ls.length c1, .slice a2 ls.length c2] w fun e w' => e = .returned (.bool true) ∧ Below w.heap.size w w' := by
  have H1 := Lib.hid h1
  have H2 := Lib.hid h2
  clear h1 h2
  go_enter Try.func20, Try.ntmps20
  go_wp2_with fail
  go_loopw [13] (fun i wr => ∃ k : Nat, k ≤ ls.length ∧ i = .int .i64 k ∧ Below w.heap.size w wr) (fun i _ => ls.length - (intOf i).toNat)
  case atStart => exact ⟨0, Nat.zero_le _, rfl, Below.refl _ _⟩
  case round =>
    obtain ⟨k, hk, rfl, hbw⟩ := hrel
    by_cases hlt : k < ls.length
    · obtain ⟨b1, o1, rfl, q1, r1, r2, r3, _⟩ := (H1.out.below hbw).at k hlt
      obtain ⟨b2, o2, rfl, q2, s1, s2, s3, _⟩ := (H2.out.below hbw).at k hlt
      have p1 := H1.out.cap
      have p2 := H2.out.cap
      have hn := neq_self ls[k]
      generalize ls[k] = x at *
      go_wp2_with fail
      go_quiet (fail)
      go_wp2_with fail
      go_roundw
      case rel => exact ⟨k + 1, by omega, by go_num, below_drewN hbw _⟩
      case measure => simp [intOf]; omega
    · go_wp2_with fail
      go_ret
      exact ⟨rfl, hbw⟩

end Go.Proofs.Ytijcgioggmphkaa
