/- What overByte of package check and the document's step answer. -/
import Derived.Test.YtfdeeanoohopfaaChecked
import Derived.Test.YtfdeeanoohopfaaPlain
import Derived.WalkKit
import Derived.WalkSpells
import Derived.ProofKit
import Derived.Below
import Derived.IntWalk
import Derived.Lib.Hide
import Derived.Laws.BitsAllLaws
namespace Go.Proofs.Ytfdeeanoohopfaa
open Go.RowKit

/-- A number of 32 bits is answered, and nothing has turned. -/
def Num (n : Nat) (w : World) (e : Ending) (w' : World) : Prop := e = .returned (.int .u32 (n : Int)) ∧ w = w'

theorem and_one (n : Nat) (h : n < 4294967296) : bits .and .u32 (n : Int) 1 = ((n % 2 : Nat) : Int) := by
  have := u32_and_nat n 1 h (by decide)
  rw [nat_mask1] at this
  exact this

theorem xor_mixed (n : Nat) (h : n < 4294967296) : bits .xor .u32 ((n : Int) / 2) 2197175160 = ((n / 2 ^^^ 2197175160 : Nat) : Int) := by
  have := u32_xor_nat (n / 2) 2197175160 (by omega) (by decide)
  rw [← this]
  rfl

set_option maxHeartbeats 1000000 in
theorem overByte_any (n : Nat) (w : World) (hn : n < 4294967296) : Calls Try.prog 36 #[.int .u32 (n : Int)] w (Num (halv 8 n) w) := by
  go_enter Try.func36, Try.ntmps36
  go_wp2_with fail
  go_loop [0, 4] (fun s i => ∃ (k m : Nat), k ≤ 8 ∧ i = .int .i64 k ∧ s = .int .u32 m ∧ m < 4294967296 ∧ Hid (halv 8 n = halv (8 - k) m)) (fun _ i => 8 - (intOf i).toNat)
  case atStart => exact ⟨0, n, Nat.zero_le _, rfl, rfl, hn, Lib.hid rfl⟩
  case round =>
    obtain ⟨k, m, hk, rfl, rfl, hm, HS⟩ := hrel
    by_cases hlt : k < 8
    · have ha := and_one m hm
      have hx := xor_mixed m hm
      have HN := Lib.hid (show halv 8 n = halv (8 - (k + 1)) (half m) by
        rw [HS.out, show 8 - k = (8 - (k + 1)) + 1 by omega]; rfl)
      have hh := half_lt hm
      cases ho : ((m % 2 : Nat) : Int) == 1 with
      | true =>
        have HE := Lib.hid (show half m = m / 2 ^^^ 2197175160 by simp at ho; unfold half; rw [if_pos (by omega)])
        go_wp2_with fail
        go_round
        case rel => exact ⟨k + 1, _, by omega, by go_num, by rw [← HE.out], hh, HN⟩
        case measure => simp [intOf]; omega
      | false =>
        have HE := Lib.hid (show half m = m / 2 by simp at ho; unfold half; rw [if_neg (by omega)])
        go_wp2_with fail
        go_round
        case rel => exact ⟨k + 1, _, by omega, by go_num, by rw [HE.out]; rfl, hh, HN⟩
        case measure => simp [intOf]; omega
    · have hk8 : k = 8 := by omega
      subst hk8
      go_wp2_with fail
      go_ret
      exact ⟨by rw [HS.out]; rfl, rfl⟩

/-- The document's number of 64 bits is answered, and nothing has turned. -/
def Num64 (n : Nat) (w : World) (e : Ending) (w' : World) : Prop := e = .returned (.int .u64 (n : Int)) ∧ w = w'

theorem xor_mixed64 (n : Nat) (h : n < 4294967296) : bits .xor .u64 ((n : Int) / 2) 2197175160 = ((n / 2 ^^^ 2197175160 : Nat) : Int) := by
  have := u64_xor_nat (n / 2) 2197175160 (by omega) (by decide)
  rw [← this]
  rfl

set_option maxHeartbeats 1000000 in
theorem step_any (n : Nat) (w : World) (hn : n < 4294967296) : Calls Try.prog 35 #[.int .u64 (n : Int)] w (Num64 (half n) w) := by
  have hx := xor_mixed64 n hn
  cases ho : ((n % 2 : Nat) : Int) == 1 with
  | true =>
    have HE := Lib.hid (show half n = n / 2 ^^^ 2197175160 by simp at ho; unfold half; rw [if_pos (by omega)])
    have h1 : (n : Int) % 2 = 1 := by simp at ho; omega
    clear ho
    go_enter Try.func35, Try.ntmps35
    go_wp2_with fail
    go_ret
    exact ⟨by rw [HE.out]; rfl, rfl⟩
  | false =>
    have HE := Lib.hid (show half n = n / 2 by simp at ho; unfold half; rw [if_neg (by omega)])
    have h1 : (n : Int) % 2 = 0 := by simp at ho; omega
    clear ho
    go_enter Try.func35, Try.ntmps35
    go_wp2_with fail
    go_ret
    exact ⟨by rw [HE.out]; rfl, rfl⟩

end Go.Proofs.Ytfdeeanoohopfaa
