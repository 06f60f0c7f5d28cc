/- What Compare answers, in package label and in the document's own words, and that this is an order. -/
import Derived.Test.YtaghbfnikcldiaaGreatLbLeaf
import Derived.Test.YtaghbfnikcldiaaGreatLbShelf
import Derived.WalkSpells
import Derived.RegionTactic
import Derived.Deep.QuietTactic
import Derived.BigQuiet
import Derived.Deep.RegionWith
import Derived.ChangeAlike
namespace Go.Proofs.YtaghbfnikcldiaaGreat
open Go.RowKit

def cmpL (a b : List UInt8) : Int := Lib.compareBytes a b

theorem cmpL_cons (x y : UInt8) (a b : List UInt8) : cmpL (x :: a) (y :: b) = if x.toNat < y.toNat then -1 else if y.toNat < x.toNat then 1 else cmpL a b := by
  unfold cmpL
  simp only [Lib.compareBytes, UInt8.lt_iff_toNat_lt]
theorem cmpL_nn : cmpL [] [] = 0 := rfl
theorem cmpL_nc (y b) : cmpL [] (y :: b) = -1 := rfl
theorem cmpL_cn (x a) : cmpL (x :: a) [] = 1 := rfl

theorem cmpL_three : ∀ a b : List UInt8, cmpL a b = -1 ∨ cmpL a b = 0 ∨ cmpL a b = 1
  | [], [] => by simp [cmpL_nn]
  | [], _ :: _ => by simp [cmpL_nc]
  | _ :: _, [] => by simp [cmpL_cn]
  | x :: a, y :: b => by
    have := cmpL_three a b
    rw [cmpL_cons]
    split
    · simp
    · split
      · simp
      · exact this

theorem cmpL_swap : ∀ a b : List UInt8, cmpL b a = - cmpL a b
  | [], [] => by simp [cmpL_nn]
  | [], _ :: _ => by simp [cmpL_nc, cmpL_cn]
  | _ :: _, [] => by simp [cmpL_nc, cmpL_cn]
  | x :: a, y :: b => by
    have := cmpL_swap a b
    rw [cmpL_cons, cmpL_cons]
    by_cases h1 : x.toNat < y.toNat
    · rw [if_pos h1, if_neg (by omega), if_pos h1]; rfl
    · by_cases h2 : y.toNat < x.toNat
      · simp [h1, h2]
      · rw [if_neg h1, if_neg h2, if_neg h2, if_neg h1]; exact this

theorem cmpL_zero : ∀ a b : List UInt8, cmpL a b = 0 ↔ a = b
  | [], [] => by simp [cmpL_nn]
  | [], _ :: _ => by simp [cmpL_nc]
  | _ :: _, [] => by simp [cmpL_cn]
  | x :: a, y :: b => by
    have := cmpL_zero a b
    rw [cmpL_cons]
    by_cases h1 : x.toNat < y.toNat
    · rw [if_pos h1]
      simp
      intro e; subst e; omega
    · by_cases h2 : y.toNat < x.toNat
      · rw [if_neg h1, if_pos h2]
        simp
        intro e; subst e; omega
      · rw [if_neg h1, if_neg h2, this]
        have e : x = y := UInt8.toNat_inj.1 (by omega)
        simp [e]

theorem cmpL_trans : ∀ a b c : List UInt8, cmpL a b ≤ 0 → cmpL b c ≤ 0 → cmpL a c ≤ 0
  | [], _, [], _, _ => by simp [cmpL_nn]
  | [], _, _ :: _, _, _ => by simp [cmpL_nc]
  | _ :: _, [], _, h, _ => by simp [cmpL_cn] at h
  | _ :: _, _ :: _, [], _, h => by simp [cmpL_cn] at h
  | x :: a, y :: b, z :: c, h1, h2 => by
    have ih := cmpL_trans a b c
    rw [cmpL_cons] at h1 h2 ⊢
    by_cases c1 : x.toNat < z.toNat
    · rw [if_pos c1]; omega
    · rw [if_neg c1]
      by_cases a1 : x.toNat < y.toNat
      · by_cases b1 : y.toNat < z.toNat
        · omega
        · by_cases b2 : z.toNat < y.toNat
          · rw [if_neg b1, if_pos b2] at h2; omega
          · omega
      · by_cases a2 : y.toNat < x.toNat
        · rw [if_neg a1, if_pos a2] at h1; omega
        · rw [if_neg a1, if_neg a2] at h1
          by_cases b1 : y.toNat < z.toNat
          · omega
          · by_cases b2 : z.toNat < y.toNat
            · rw [if_neg b1, if_pos b2] at h2; omega
            · rw [if_neg b1, if_neg b2] at h2
              rw [if_neg (by omega)]
              exact ih h1 h2

theorem cmpL_drop (a b : List UInt8) (k : Nat) (ha : k < a.length) (hb : k < b.length) : cmpL (a.drop k) (b.drop k) =
    if (a.getD k 0).toNat < (b.getD k 0).toNat then -1 else if (b.getD k 0).toNat < (a.getD k 0).toNat then 1 else cmpL (a.drop (k + 1)) (b.drop (k + 1)) := by
  rw [drop_cons a k ha, drop_cons b k hb, cmpL_cons]

theorem cmpL_end (a b : List UInt8) (k : Nat) (ha : k ≤ a.length) (hb : k ≤ b.length) (h : ¬ (k < a.length ∧ k < b.length)) : cmpL (a.drop k) (b.drop k) =
    if a.length < b.length then -1 else if b.length < a.length then 1 else 0 := by
  by_cases h1 : k < a.length
  · have : k = b.length := by omega
    subst this
    rw [drop_cons a _ h1, List.drop_length, cmpL_cn, if_neg (by omega), if_pos (by omega)]
  · have : k = a.length := by omega
    subst this
    rw [List.drop_length]
    by_cases h2 : a.length < b.length
    · rw [drop_cons b _ h2, cmpL_nc, if_pos h2]
    · rw [List.drop_of_length_le (by omega), cmpL_nn, if_neg h2, if_neg (by omega)]

theorem compare_any (a b : ByteArray) (w : World) : Calls Tryz.prog 73 #[.string a, .string b] w fun e w' => e = .returned (.int .i64 (cmpL a.data.toList b.data.toList)) ∧ w = w' := by
  go_enter Tryz.func73, Tryz.ntmps73
  go_wp2_with (go_at_call 102; refine (Tryz.strings_Compare _ _ _).mono ?_; rintro e w' ⟨rfl, hw⟩; subst hw)
  go_ret
  exact ⟨rfl, rfl⟩

set_option maxHeartbeats 2000000 in
theorem refCompare_any (a b : ByteArray) (w : World) (ha : a.size ≤ maxLen) (hb : b.size ≤ maxLen) :
    Calls Tryz.prog 24 #[.string a, .string b] w fun e w' => e = .returned (.int .i64 (cmpL a.data.toList b.data.toList)) ∧ Below w.heap.size w w' := by
  unfold maxLen at ha hb
  have HA := Lib.hid (Lib.size_eq a)
  have HB := Lib.hid (Lib.size_eq b)
  go_enter Tryz.func24, Tryz.ntmps24
  go_wp2
  go_loopw [5] (fun i wr => ∃ k : Nat, i = .int .i64 k ∧ k ≤ a.size ∧ k ≤ b.size ∧ Hid (cmpL a.data.toList b.data.toList = cmpL (a.data.toList.drop k) (b.data.toList.drop k)) ∧ Below w.heap.size w wr) (fun i _ => a.size - (intOf i).toNat)
  case atStart => exact ⟨0, rfl, by omega, by omega, rfl, Below.refl _ _⟩
  case round =>
    obtain ⟨k, rfl, hka, hkb, HK, hbw⟩ := hrel
    by_cases hlt : k < a.size ∧ k < b.size
    · obtain ⟨h1, h2⟩ := hlt
      have hia := run_byte a k h1
      have hib := run_byte b k h2
      have HD := Lib.hid (cmpL_drop a.data.toList b.data.toList k (by rw [← HA.out]; exact h1) (by rw [← HB.out]; exact h2))
      generalize (a.data.toList.getD k 0).toNat = x at *
      generalize (b.data.toList.getD k 0).toNat = y at *
      by_cases hxy : x < y
      · have hd : decide ((x : Int) < (y : Int)) = true := by simp; omega
        go_wp2
        go_region
        go_wp2
        go_ret
        exact ⟨ret_int (by rw [HK.out, HD.out, if_pos hxy]), hbw.drew⟩
      · have hd : decide ((x : Int) < (y : Int)) = false := by simp; omega
        by_cases hyx : y < x
        · have hd2 : decide ((y : Int) < (x : Int)) = true := by simp; omega
          go_wp2
          go_region
          go_wp2
          go_region
          go_wp2
          go_ret
          exact ⟨ret_int (by rw [HK.out, HD.out, if_neg hxy, if_pos hyx]), hbw.drew.drew⟩
        · have hd2 : decide ((y : Int) < (x : Int)) = false := by simp; omega
          go_wp2
          go_region
          go_wp2
          go_region
          go_wp2
          go_roundw
          case rel => exact ⟨k + 1, by go_num, by omega, by omega, Lib.hid (HK.out.trans (by rw [HD.out, if_neg hxy, if_neg hyx])), hbw.drew.drew⟩
          case measure => simp [intOf]; omega
    · have HE := Lib.hid (cmpL_end a.data.toList b.data.toList k (by rw [← HA.out]; exact hka) (by rw [← HB.out]; exact hkb) (by rw [← HA.out, ← HB.out]; exact hlt))
      rw [← HA.out, ← HB.out] at HE
      by_cases h1 : k < a.size
      · have h2 : ¬ k < b.size := fun h => hlt ⟨h1, h⟩
        clear hlt
        go_wp2
        all_goals
          go_ret
          refine ⟨ret_int ?_, hbw⟩
          rw [HK.out, HE.out]
          first | rw [if_pos (by omega)] | rw [if_neg (by omega), if_pos (by omega)] | rw [if_neg (by omega), if_neg (by omega)]
      · clear hlt
        go_wp2
        all_goals
          go_ret
          refine ⟨ret_int ?_, hbw⟩
          rw [HK.out, HE.out]
          first | rw [if_pos (by omega)] | rw [if_neg (by omega), if_pos (by omega)] | rw [if_neg (by omega), if_neg (by omega)]

end Go.Proofs.YtaghbfnikcldiaaGreat
