/- The document's own words on signs: what sign, Signs, Right and Cut of package packhorseref01 answer. -/
import Derived.Test.YtobicfkbpoimnaaDoorCmp
import Derived.Test.YtobicfkbpoimnaaDoorCut
namespace Go.Proofs.YtobicfkbpoimnaaDoor
open Go.RowKit

/-- The sign at the head, by its first byte and the one behind it. -/
def sgN (c : Nat) (more : Bool) (d : Nat) : Nat × Bool :=
  if 97 ≤ c ∧ c ≤ 122 then (1, true) else if 48 ≤ c ∧ c ≤ 57 ∨ c = 45 then (1, false) else if more = false then (0, false)
  else if c = 206 ∧ 177 ≤ d ∧ d ≤ 191 ∨ c = 207 ∧ 128 ≤ d ∧ d ≤ 137 then (2, true) else (0, false)

theorem sg_N (l : List UInt8) (k : Nat) (h : k < l.length) : sg (l.drop k) = sgN (l.getD k 0).toNat (decide (k + 1 < l.length)) (l.getD (k + 1) 0).toNat := by
  rw [drop_cons l k h]
  generalize l.getD k 0 = c
  simp only [sg, sgN]
  by_cases h1 : let1 c = true
  · have : 97 ≤ c.toNat ∧ c.toNat ≤ 122 := by simpa [let1] using h1
    rw [if_pos h1, if_pos this]
  · have : ¬ (97 ≤ c.toNat ∧ c.toNat ≤ 122) := by simpa [let1] using h1
    rw [if_neg h1, if_neg this]
    by_cases h2 : one c = true
    · have h2' : 48 ≤ c.toNat ∧ c.toNat ≤ 57 ∨ c.toNat = 45 := by
        simp only [one, Bool.or_eq_true, h1, false_or, decide_eq_true_eq] at h2
        rcases h2 with h2 | h2
        · cases h2
        · exact h2
      rw [if_pos h2, if_pos h2']
    · have h2' : ¬ (48 ≤ c.toNat ∧ c.toNat ≤ 57 ∨ c.toNat = 45) := by
        intro h3
        exact h2 (by simp only [one, Bool.or_eq_true, decide_eq_true_eq]; exact Or.inr h3)
      rw [if_neg h2, if_neg h2']
      by_cases h3 : k + 1 < l.length
      · rw [drop_cons l (k + 1) h3]
        generalize l.getD (k + 1) 0 = d
        have h4 : decide (k + 1 < l.length) = true := by simpa using h3
        simp only [h4, Bool.true_eq_false, if_false]
        unfold two
        simp only [decide_eq_true_eq]
      · rw [List.drop_of_length_le (by omega)]
        have h4 : decide (k + 1 < l.length) = false := by simpa using h3
        simp only [h4, if_true]

theorem ret_pair {a b : Int} {x y : Bool} (h : a = b ∧ x = y) : Ending.returned (.tuple #[.int .i64 a, .bool x]) = .returned (.tuple #[.int .i64 b, .bool y]) := by rw [h.1, h.2]

set_option maxHeartbeats 2000000 in
theorem sign_any (s : ByteArray) (k : Nat) (w : World) (hs : s.size ≤ 1000000) (hk : k < s.size) :
    Calls Tryd.prog 30 #[.string s, .int .i64 k] w fun e w' => e = .returned (.tuple #[.int .i64 ((sg (s.data.toList.drop k)).1 : Nat), .bool (sg (s.data.toList.drop k)).2]) ∧ w = w' := by
  have hl : s.data.toList.length = s.size := (Lib.size_eq s).symm
  have HS := Lib.hid (sg_N s.data.toList k (by omega))
  rw [hl] at HS
  have hx := run_byte s k hk
  clear hl
  by_cases h1 : k + 1 < s.size
  · have hy := run_byte s (k + 1) h1
    have e1 : ((k + 1 : Nat) : Int) = (k : Int) + 1 := by omega
    rw [e1] at hy
    have hd : decide (k + 1 < s.size) = true := by simpa using h1
    rw [hd] at HS
    have hcb := (s.data.toList.getD k 0).toNat_lt
    have hdb := (s.data.toList.getD (k + 1) 0).toNat_lt
    generalize (s.data.toList.getD k 0).toNat = c at *
    generalize (s.data.toList.getD (k + 1) 0).toNat = d at *
    clear hd e1
    go_enter Tryd.func30, Tryd.ntmps30
    go_wp2
    all_goals
      go_ret2
      refine ⟨?_, rfl⟩
      rw [HS.out]
      simp only [beq_iff_eq, beq_eq_false_iff_ne, ne_eq] at *
      simp only [sgN, Bool.true_eq_false, if_false]
      repeat' split
      all_goals first | rfl | (exfalso; omega)
  · have hd : decide (k + 1 < s.size) = false := by simpa using h1
    rw [hd] at HS
    have hcb := (s.data.toList.getD k 0).toNat_lt
    generalize (s.data.toList.getD k 0).toNat = c at *
    generalize (s.data.toList.getD (k + 1) 0).toNat = d at *
    clear hd
    go_enter Tryd.func30, Tryd.ntmps30
    go_wp2
    all_goals
      go_ret2
      refine ⟨?_, rfl⟩
      rw [HS.out]
      simp only [beq_iff_eq, beq_eq_false_iff_ne, ne_eq] at *
      simp only [sgN, if_true]
      repeat' split
      all_goals first | rfl | (exfalso; omega)

end Go.Proofs.YtobicfkbpoimnaaDoor
