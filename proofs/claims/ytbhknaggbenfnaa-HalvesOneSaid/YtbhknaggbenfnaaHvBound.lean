/- What both Bounds answer. -/
import Derived.Test.YtbhknaggbenfnaaHvCalls
import Derived.Deep.DeepCutAuto
namespace Go.Proofs.Ytbhknaggbenfnaa
set_option maxRecDepth 100000
open Go.RowKit

/-- How many bits there are in a byte, and in a number below 2^20. -/
def lenB (y : Nat) : Nat := if y < 1 then 0 else if y < 2 then 1 else if y < 4 then 2 else if y < 8 then 3 else if y < 16 then 4 else if y < 32 then 5 else if y < 64 then 6 else if y < 128 then 7 else 8
def len20 (x : Nat) : Nat := if 65536 ≤ x then 16 + lenB (x / 65536) else if 256 ≤ x then 8 + lenB (x / 256) else lenB x
theorem lenB_fits (y : Nat) (h : y < 256) : y < 2 ^ lenB y ∧ (1 ≤ y → 1 ≤ lenB y ∧ 2 ^ (lenB y - 1) ≤ y) ∧ (y < 1 → lenB y = 0) ∧ lenB y ≤ 8 := by
  unfold lenB
  repeat' split
  all_goals refine ⟨?_, fun _ => ⟨?_, ?_⟩, fun _ => ?_, ?_⟩ <;> omega
theorem len20_fits (x : Nat) (h : x < 1048576) : x < 2 ^ len20 x ∧ (1 ≤ x → 1 ≤ len20 x ∧ 2 ^ (len20 x - 1) ≤ x) ∧ (x < 1 → len20 x = 0) ∧ len20 x ≤ 24 := by
  unfold len20
  split
  · obtain ⟨h1, h2, _, h4⟩ := lenB_fits (x / 65536) (by omega)
    obtain ⟨h3, h5⟩ := h2 (by omega)
    generalize lenB (x / 65536) = l at *
    obtain ⟨m, rfl⟩ : ∃ m, l = m + 1 := ⟨l - 1, by omega⟩
    rw [show 16 + (m + 1) - 1 = 16 + m by omega, show 16 + (m + 1) = 16 + m + 1 by omega, Nat.pow_succ, Nat.pow_add]
    rw [show m + 1 - 1 = m by omega] at h5
    rw [Nat.pow_succ] at h1
    refine ⟨by omega, fun _ => ⟨by omega, by omega⟩, by omega, by omega⟩
  · split
    · obtain ⟨h1, h2, _, h4⟩ := lenB_fits (x / 256) (by omega)
      obtain ⟨h3, h5⟩ := h2 (by omega)
      generalize lenB (x / 256) = l at *
      obtain ⟨m, rfl⟩ : ∃ m, l = m + 1 := ⟨l - 1, by omega⟩
      rw [show 8 + (m + 1) - 1 = 8 + m by omega, show 8 + (m + 1) = 8 + m + 1 by omega, Nat.pow_succ, Nat.pow_add]
      rw [show m + 1 - 1 = m by omega] at h5
      rw [Nat.pow_succ] at h1
      refine ⟨by omega, fun _ => ⟨by omega, by omega⟩, by omega, by omega⟩
    · obtain ⟨h1, h2, h3, h4⟩ := lenB_fits x (by omega)
      exact ⟨h1, h2, h3, by omega⟩
theorem len20_deep (n : Nat) (h1 : 1 ≤ n) (h2 : n ≤ 1000000) : len20 (n - 1) = deepH n 20 0 1 := by
  obtain ⟨a1, a2, a3, _⟩ := len20_fits (n - 1) (by omega)
  have b1 := deepH_pow n 20 0 (by omega)
  have b2 := deepH_least n 20 0 (by omega)
  simp only [Nat.pow_zero] at b1 b2
  generalize deepH n 20 0 1 = d at *
  generalize len20 (n - 1) = k at *
  rcases Nat.lt_trichotomy k d with hlt | rfl | hlt
  · have := b2 k hlt
    omega
  · rfl
  · by_cases h : 1 ≤ n - 1
    · have h3 := (a2 h).2
      have : 2 ^ d ≤ 2 ^ (k - 1) := Nat.pow_le_pow_right (by omega) (by omega)
      omega
    · have := a3 (by omega)
      omega
theorem deepH_le (n : Nat) : ∀ (f k p : Nat), k ≤ deepH n f k p ∧ deepH n f k p ≤ k + f
  | 0, k, p => by simp [deepH]
  | f + 1, k, p => by
    unfold deepH
    split
    · have := deepH_le n f (k + 1) (2 * p); omega
    · omega

/-- What Bound answers. -/
def boundV (n b : Int) : Int := if n < 1 ∨ b < 0 ∨ n < b then 0 else 2 * b * ((deepH n.toNat 20 0 1 : Nat) + 1) + 1

/-- The table of bytes' lengths. -/
def tab8 : ByteArray := { data := (([0, 1, 2, 2, 3, 3, 3, 3, 4, 4, 4, 4, 4, 4, 4, 4, 5, 5, 5, 5, 5, 5, 5, 5, 5, 5, 5, 5, 5, 5, 5, 5, 6, 6, 6, 6, 6, 6, 6, 6, 6, 6, 6, 6, 6, 6, 6, 6, 6, 6, 6, 6, 6, 6, 6, 6, 6, 6, 6, 6, 6, 6, 6, 6].append [7, 7, 7, 7, 7, 7, 7, 7, 7, 7, 7, 7, 7, 7, 7, 7, 7, 7, 7, 7, 7, 7, 7, 7, 7, 7, 7, 7, 7, 7, 7, 7, 7, 7, 7, 7, 7, 7, 7, 7, 7, 7, 7, 7, 7, 7, 7, 7, 7, 7, 7, 7, 7, 7, 7, 7, 7, 7, 7, 7, 7, 7, 7, 7]).append ([8, 8, 8, 8, 8, 8, 8, 8, 8, 8, 8, 8, 8, 8, 8, 8, 8, 8, 8, 8, 8, 8, 8, 8, 8, 8, 8, 8, 8, 8, 8, 8, 8, 8, 8, 8, 8, 8, 8, 8, 8, 8, 8, 8, 8, 8, 8, 8, 8, 8, 8, 8, 8, 8, 8, 8, 8, 8, 8, 8, 8, 8, 8, 8].append [8, 8, 8, 8, 8, 8, 8, 8, 8, 8, 8, 8, 8, 8, 8, 8, 8, 8, 8, 8, 8, 8, 8, 8, 8, 8, 8, 8, 8, 8, 8, 8, 8, 8, 8, 8, 8, 8, 8, 8, 8, 8, 8, 8, 8, 8, 8, 8, 8, 8, 8, 8, 8, 8, 8, 8, 8, 8, 8, 8, 8, 8, 8, 8])).toArray }
theorem tab8_lit : Value.string { data := (([0, 1, 2, 2, 3, 3, 3, 3, 4, 4, 4, 4, 4, 4, 4, 4, 5, 5, 5, 5, 5, 5, 5, 5, 5, 5, 5, 5, 5, 5, 5, 5, 6, 6, 6, 6, 6, 6, 6, 6, 6, 6, 6, 6, 6, 6, 6, 6, 6, 6, 6, 6, 6, 6, 6, 6, 6, 6, 6, 6, 6, 6, 6, 6].append [7, 7, 7, 7, 7, 7, 7, 7, 7, 7, 7, 7, 7, 7, 7, 7, 7, 7, 7, 7, 7, 7, 7, 7, 7, 7, 7, 7, 7, 7, 7, 7, 7, 7, 7, 7, 7, 7, 7, 7, 7, 7, 7, 7, 7, 7, 7, 7, 7, 7, 7, 7, 7, 7, 7, 7, 7, 7, 7, 7, 7, 7, 7, 7]).append ([8, 8, 8, 8, 8, 8, 8, 8, 8, 8, 8, 8, 8, 8, 8, 8, 8, 8, 8, 8, 8, 8, 8, 8, 8, 8, 8, 8, 8, 8, 8, 8, 8, 8, 8, 8, 8, 8, 8, 8, 8, 8, 8, 8, 8, 8, 8, 8, 8, 8, 8, 8, 8, 8, 8, 8, 8, 8, 8, 8, 8, 8, 8, 8].append [8, 8, 8, 8, 8, 8, 8, 8, 8, 8, 8, 8, 8, 8, 8, 8, 8, 8, 8, 8, 8, 8, 8, 8, 8, 8, 8, 8, 8, 8, 8, 8, 8, 8, 8, 8, 8, 8, 8, 8, 8, 8, 8, 8, 8, 8, 8, 8, 8, 8, 8, 8, 8, 8, 8, 8, 8, 8, 8, 8, 8, 8, 8, 8])).toArray } = Value.string tab8 := rfl
theorem tab8_at : ∀ y : Fin 256, tab8.data.toList.getD y.val 0 = UInt8.ofNat (lenB y.val) := by decide +kernel
theorem tab8_size : tab8.size = 256 := by decide +kernel
theorem run_tab8 (y : Nat) (h : y < 256) (W : World) : (Instr.index 9 (.string tab8) (.int .u8 (y : Int))).run Try.prog W = .ok (.int .u8 (lenB y : Int)) W := by
  have hs := tab8_size
  have ht := tab8_at ⟨y, h⟩
  have hb := (lenB_fits y h).2.2.2
  rw [run_index_string W 9 tab8 .u8 _ Try.underlying9, dif_pos ⟨by omega, by omega⟩]
  have hy : y < tab8.data.toList.length := by
    rw [Array.length_toList]
    exact (by omega : y < tab8.size)
  rw [List.getD_eq_getElem?_getD, List.getElem?_eq_getElem hy] at ht
  have e : tab8[(y : Int).toNat]'(by simpa [hs] using h) = tab8.data.toList[y] := rfl
  rw [e]
  simp only [Option.getD_some] at ht
  rw [ht, UInt8.toNat_ofNat', Nat.mod_eq_of_lt (by omega)]

theorem wp_index_run {P : Program} (w : World) {o : Oper} {a : Act} {K : Act → World → Prop} {Q : Exit → Act → World → Prop} (t : TypeId) (x i : Operand)
    (ho : o.op = .index t x i) (vx vi : Value) (hx : a.eval x = vx) (hi : a.eval i = vi) (v' : Value) (hr : (Instr.index t vx vi).run P w = .ok v' w) (h : K (a.put o.dst v') w) : o.wp P a w K Q := by
  unfold Oper.wp execOp
  simp only [ho, Sem.run_bind, Sem.run_pure, hx, hi, hr, Result.andThen_ok]
  exact h
theorem wpList_index_run {P : Program} (w : World) {ops : Array Oper} {rest : List Oper} {o : Oper} {a : Act} {Q : Exit → Act → World → Prop} (hgd : o.guard = none) (t : TypeId) (x i : Operand)
    (ho : o.op = .index t x i) (vx vi : Value) (hx : a.eval x = vx) (hi : a.eval i = vi) (v' : Value) (hr : (Instr.index t vx vi).run P w = .ok v' w) (h : wpList P ops Q rest (a.put o.dst v') w) : wpList P ops Q (o :: rest) a w :=
  wpList_plain hgd fun _ hK => wp_index_run w t x i ho vx vi hx hi v' hr (hK _ _ h)

set_option maxHeartbeats 2000000 in
theorem len64_any (x : Nat) (hx : x < 1048576) (w : World) : Calls Try.prog 28 #[.int .u64 (x : Int)] w (NumB (len20 x : Int) w) := by
  by_cases h1 : 65536 ≤ x
  · have h2 : (x : Int) ≥ 65536 := by omega
    have h3 : ¬ (x : Int) ≥ 4294967296 := by omega
    obtain ⟨y, hy, hy1, hyx⟩ : ∃ y : Nat, (x : Int) / 65536 = (y : Int) ∧ y < 256 ∧ y = x / 65536 := ⟨x / 65536, by omega, by omega, rfl⟩
    obtain ⟨m, hm, hm8⟩ : ∃ m, lenB y = m ∧ m ≤ 8 := ⟨_, rfl, (lenB_fits y hy1).2.2.2⟩
    have R := Lib.hid (hm ▸ run_tab8 y hy1 w)
    have E := Lib.hid (show len20 x = 16 + m by unfold len20; rw [if_pos h1, ← hm, hyx])
    have hw : IntKind.u8.wrap (y : Int) = (y : Int) := by rw [IntKind.wrap_u8]; omega
    have h4 : ¬ (y : Int) ≥ 256 := by omega
    clear hm hyx
    go_enter Try.func28, Try.ntmps28
    rw [tab8_lit]
    go_wp2_with (refine wpList_index_run _ rfl _ _ _ rfl (.string tab8) _ rfl rfl _ R.out ?_)
    go_ret
    exact ⟨by rw [E.out]; rfl, Below.refl _ _⟩
  · by_cases h5 : 256 ≤ x
    · have h2 : ¬ (x : Int) ≥ 65536 := by omega
      have h3 : ¬ (x : Int) ≥ 4294967296 := by omega
      have h4 : (x : Int) ≥ 256 := by omega
      obtain ⟨y, hy, hy1, hyx⟩ : ∃ y : Nat, (x : Int) / 256 = (y : Int) ∧ y < 256 ∧ y = x / 256 := ⟨x / 256, by omega, by omega, rfl⟩
      obtain ⟨m, hm, hm8⟩ : ∃ m, lenB y = m ∧ m ≤ 8 := ⟨_, rfl, (lenB_fits y hy1).2.2.2⟩
      have R := Lib.hid (hm ▸ run_tab8 y hy1 w)
      have E := Lib.hid (show len20 x = 8 + m by unfold len20; rw [if_neg h1, if_pos h5, ← hm, hyx])
      have hw : IntKind.u8.wrap (y : Int) = (y : Int) := by rw [IntKind.wrap_u8]; omega
      clear hm hyx
      go_enter Try.func28, Try.ntmps28
      rw [tab8_lit]
      go_wp2_with (refine wpList_index_run _ rfl _ _ _ rfl (.string tab8) _ rfl rfl _ R.out ?_)
      go_ret
      exact ⟨by rw [E.out]; rfl, Below.refl _ _⟩
    · have h2 : ¬ (x : Int) ≥ 65536 := by omega
      have h3 : ¬ (x : Int) ≥ 4294967296 := by omega
      have h4 : ¬ (x : Int) ≥ 256 := by omega
      have hy1 : x < 256 := by omega
      obtain ⟨m, hm, hm8⟩ : ∃ m, lenB x = m ∧ m ≤ 8 := ⟨_, rfl, (lenB_fits x hy1).2.2.2⟩
      have R := Lib.hid (hm ▸ run_tab8 x hy1 w)
      have E := Lib.hid (show len20 x = m by unfold len20; rw [if_neg h1, if_neg h5, ← hm])
      have hw : IntKind.u8.wrap (x : Int) = (x : Int) := by rw [IntKind.wrap_u8]; omega
      clear hm
      go_enter Try.func28, Try.ntmps28
      rw [tab8_lit]
      go_wp2_with (refine wpList_index_run _ rfl _ _ _ rfl (.string tab8) _ rfl rfl _ R.out ?_)
      go_ret
      exact ⟨by rw [E.out]; simp, Below.refl _ _⟩

theorem len_any (x : Nat) (hx : x < 1048576) (w : World) : Calls Try.prog 26 #[.int .u64 (x : Int)] w (NumB (len20 x : Int) w) := by
  have C := Lib.hid (len64_any x hx w)
  go_enter Try.func26, Try.ntmps26
  go_wp2_with fail
  refine C.out.mono ?_
  rintro e w1 ⟨rfl, b1⟩
  go_wp2_with fail
  go_ret
  exact ⟨rfl, b1⟩

set_option maxHeartbeats 2000000 in
theorem bound_any (n b : Int) (hn : n ≤ 1000000) (w : World) : Calls Try.prog 15 #[.int .i64 n, .int .i64 b] w (NumB (boundV n b) w) := by
  by_cases h1 : n < 1
  · have E := Lib.hid (show boundV n b = 0 by unfold boundV; rw [if_pos (.inl h1)])
    go_enter Try.func15, Try.ntmps15
    go_wp2_with fail
    go_ret
    exact ⟨by rw [E.out]; rfl, Below.refl _ _⟩
  · by_cases h2 : b < 0
    · have E := Lib.hid (show boundV n b = 0 by unfold boundV; rw [if_pos (.inr (.inl h2))])
      go_enter Try.func15, Try.ntmps15
      go_wp2_with fail
      go_ret
      exact ⟨by rw [E.out]; rfl, Below.refl _ _⟩
    · by_cases h3 : b > n
      · have E := Lib.hid (show boundV n b = 0 by unfold boundV; rw [if_pos (.inr (.inr h3))])
        go_enter Try.func15, Try.ntmps15
        go_wp2_with fail
        go_ret
        exact ⟨by rw [E.out]; rfl, Below.refl _ _⟩
      · obtain ⟨m, rfl⟩ : ∃ m : Nat, n = (m : Int) + 1 := ⟨(n - 1).toNat, by omega⟩
        obtain ⟨c, rfl⟩ : ∃ c : Nat, b = (c : Int) := ⟨b.toNat, by omega⟩
        have hk := len20_deep (m + 1) (by omega) (by omega)
        rw [show m + 1 - 1 = m by omega] at hk
        have C := Lib.hid (len_any m (by omega) w)
        have hd := deepH_le (m + 1) 20 0 1
        have E := Lib.hid (show boundV ((m : Int) + 1) c = 2 * (c : Int) * ((len20 m : Nat) + 1) + 1 by
          unfold boundV
          rw [if_neg (by omega), hk, show ((m : Int) + 1).toNat = m + 1 by omega])
        rw [← hk] at hd
        clear hk
        generalize len20 m = k at *
        obtain ⟨t, ht, ht2⟩ : ∃ t : Nat, 2 * (c : Int) * ((k : Int) + 1) = (t : Int) ∧ t ≤ 42000000 := ⟨2 * c * (k + 1), by simp, by
          have : 2 * c * (k + 1) ≤ 2 * 1000000 * 21 := Nat.mul_le_mul (by omega) (by omega)
          omega⟩
        have hm : (m : Int) + 1 - 1 = (m : Int) := by omega
        go_enter Try.func15, Try.ntmps15
        go_wp2_with fail
        refine C.out.mono ?_
        rintro e w1 ⟨rfl, b1⟩
        go_wp2_with fail
        go_ret
        exact ⟨by rw [E.out, ht]; rfl, b1⟩

theorem deep_step {n k f : Nat} (h : 2 ^ k < n) : deepH n (f + 1) k (2 ^ k) = deepH n f (k + 1) (2 ^ (k + 1)) := by
  rw [deepH, if_pos h, Nat.pow_succ, Nat.mul_comm]
theorem deep_stop {n k : Nat} (h : ¬ 2 ^ k < n) : ∀ f, deepH n f k (2 ^ k) = k
  | 0 => rfl
  | f + 1 => by rw [deepH, if_neg h]

set_option maxHeartbeats 4000000 in
theorem refBound_any (n b : Int) (hn : n ≤ 1000000) (w : World) : Calls Try.prog 22 #[.int .i64 n, .int .i64 b] w (NumB (boundV n b) w) := by
  by_cases h1 : n < 1
  · have E := Lib.hid (show boundV n b = 0 by unfold boundV; rw [if_pos (.inl h1)])
    go_enter Try.func22, Try.ntmps22
    go_wp2_with fail
    go_ret
    exact ⟨by rw [E.out]; rfl, Below.refl _ _⟩
  · by_cases h2 : b < 0
    · have E := Lib.hid (show boundV n b = 0 by unfold boundV; rw [if_pos (.inr (.inl h2))])
      go_enter Try.func22, Try.ntmps22
      go_wp2_with fail
      go_ret
      exact ⟨by rw [E.out]; rfl, Below.refl _ _⟩
    · by_cases h3 : b > n
      · have E := Lib.hid (show boundV n b = 0 by unfold boundV; rw [if_pos (.inr (.inr h3))])
        go_enter Try.func22, Try.ntmps22
        go_wp2_with fail
        go_ret
        exact ⟨by rw [E.out]; rfl, Below.refl _ _⟩
      · obtain ⟨m, rfl⟩ : ∃ m : Nat, n = (m : Int) := ⟨n.toNat, by omega⟩
        obtain ⟨c, rfl⟩ : ∃ c : Nat, b = (c : Int) := ⟨b.toNat, by omega⟩
        have hm : m ≤ 1000000 := by omega
        have hd := (deepH_le m 20 0 1).2
        have E := Lib.hid (show boundV (m : Int) c = 2 * (c : Int) * ((deepH m 20 0 1 : Nat) + 1) + 1 by
          unfold boundV
          rw [if_neg (by omega), show (m : Int).toNat = m by omega])
        obtain ⟨t, ht, ht2⟩ : ∃ t : Nat, 2 * (c : Int) * (((deepH m 20 0 1 : Nat) : Int) + 1) = (t : Int) ∧ t ≤ 42000000 := ⟨2 * c * (deepH m 20 0 1 + 1), by simp, by
          have : 2 * c * (deepH m 20 0 1 + 1) ≤ 2 * 1000000 * 21 := Nat.mul_le_mul (by omega) (by omega)
          omega⟩
        have T := Lib.hid ht
        clear hd ht
        go_enter Try.func22, Try.ntmps22
        go_wp2_with fail
        go_loopw [5, 6] (fun d p wr => ∃ (k q : Nat), k ≤ 20 ∧ d = .int .i64 k ∧ p = .int .i64 q ∧ q ≤ 2000000 ∧ Hid (q = 2 ^ k) ∧ Hid (deepH m 20 0 1 = deepH m (20 - k) k (2 ^ k)) ∧ wr = w) (fun d _ _ => 20 - (intOf d).toNat)
        case atStart => exact ⟨0, 1, by omega, rfl, rfl, by omega, Lib.hid rfl, Lib.hid rfl, rfl⟩
        case round =>
          obtain ⟨k, q, hk, rfl, rfl, hq, HQ, HK, rfl⟩ := hrel
          by_cases hlt : q < m
          · have hk1 : k < 20 := by
              refine Nat.lt_of_not_le fun h => ?_
              have h1 : 2 ^ 20 ≤ 2 ^ k := Nat.pow_le_pow_right (by omega) h
              have h2 := HQ.out
              omega
            have HQ' := Lib.hid (show 2 * q = 2 ^ (k + 1) by rw [HQ.out, Nat.pow_succ, Nat.mul_comm])
            have HK' := Lib.hid (show deepH m 20 0 1 = deepH m (20 - (k + 1)) (k + 1) (2 ^ (k + 1)) by
              rw [HK.out, show 20 - k = 20 - (k + 1) + 1 by omega]
              exact deep_step (by rw [← HQ.out]; exact hlt))
            have hl : (q : Int) < (m : Int) := by omega
            go_wp2_with fail
            go_roundw
            case rel => exact ⟨k + 1, 2 * q, by omega, by go_num, by go_num, by omega, HQ', HK', trivial⟩
            case measure => simp [intOf]; omega
          · have HE := Lib.hid (show deepH m 20 0 1 = k by rw [HK.out]; exact deep_stop (by rw [← HQ.out]; exact hlt) _)
            have hl : ¬ (q : Int) < (m : Int) := by omega
            have ht := T.out
            rw [HE.out] at ht
            go_wp2_with fail
            go_ret
            exact ⟨by rw [E.out, T.out]; rfl, Below.refl _ _⟩
end Go.Proofs.Ytbhknaggbenfnaa
