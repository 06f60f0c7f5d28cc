/- What number of package packet, and the document's Take, answer. -/
import Derived.Test.YtciijkognhdddaaBkOwn
namespace Go.Proofs.Ytciijkognhdddaa
set_option maxRecDepth 100000
open Go.ChangeShapes Go.WideShapes Go.ChangeAt Go.RowKit

/-- A number, how many bytes it has and the error's number are answered; nothing has turned. -/
def NumPost (r : Nat × Nat × Nat) (w : World) (e : Ending) (w' : World) : Prop := e = .returned (.tuple #[.int .u64 (r.1 : Int), .int .i64 (r.2.1 : Int), .int .i64 (r.2.2 : Int)]) ∧ w = w'

theorem or_shl {n sh low : Nat} (h : n < 2 ^ sh) : n ||| low * 2 ^ sh = n + low * 2 ^ sh := by
  rw [Nat.or_comm, Nat.mul_comm, ← Nat.two_pow_add_eq_or_of_lt h, Nat.add_comm]

set_option maxRecDepth 100000 in
set_option maxHeartbeats 4000000 in
theorem numberAt_any (a : Option Addr) (cap : Nat) (l : List Nat) (most : Nat) (w : World) (h : BytesP w a cap l) (hm : most < 18446744073709551616) :
    Calls Try.prog 53 #[.slice a l.length cap, .int .u64 (most : Int)] w (NumPost (numAt most 0 0 l) w) := by
  have H := Lib.hid h
  have hl := h.len
  clear h
  go_enter Try.func53, Try.ntmps53
  go_wp2_with fail
  go_loop [7, 14] (fun s i => ∃ (k n : Nat), k ≤ l.length ∧ k ≤ 9 ∧ i = .int .i64 k ∧ s = .int .u64 n ∧ n ≤ most ∧ Hid (n < 2 ^ (7 * k)) ∧ Hid (numAt most 0 0 l = numAt most k n (l.drop k))) (fun _ i => l.length - (intOf i).toNat)
  case atStart => exact ⟨0, 0, Nat.zero_le _, by decide, rfl, rfl, Nat.zero_le _, Lib.hid (by simp), Lib.hid rfl⟩
  case round =>
    obtain ⟨k, n, hk, hk9, rfl, rfl, hn, HN, HS⟩ := hrel
    by_cases hlt : k < l.length
    · obtain ⟨b1, o1, rfl, q1, r1⟩ := H.out.cell (by intro e; subst e; simp at hlt)
      have g1 := r1 k _ (List.getElem?_eq_getElem hlt)
      have p1 := H.out.cap
      have hx : l[k] < 256 := H.out.byte _ (List.getElem_mem hlt)
      have HD := Lib.hid (show numAt most 0 0 l = numAt most k n (l[k] :: l.drop (k + 1)) by rw [HS.out, List.drop_eq_getElem_cons hlt])
      generalize l[k] = x at *
      obtain ⟨low, hlow, hlo, HLOW⟩ : ∃ low : Nat, (x : Int) % 128 = (low : Int) ∧ low < 128 ∧ Hid (low = x % 128) := ⟨x % 128, by omega, by omega, rfl⟩
      obtain ⟨sh, hsh, hsh63, HSH⟩ : ∃ sh : Nat, 7 * (k : Int) = (sh : Int) ∧ sh ≤ 63 ∧ Hid (sh = 7 * k) := ⟨7 * k, by omega, by omega, rfl⟩
      obtain ⟨d, hd, hdl, HDD⟩ : ∃ d : Nat, (most : Int) - (n : Int) = (d : Int) ∧ d < 18446744073709551616 ∧ Hid (d = most - n) := ⟨most - n, by omega, by omega, rfl⟩
      have hmin : min sh 64 = sh := by omega
      obtain ⟨q, hq, HQ⟩ : ∃ q : Nat, (d : Int) / 2 ^ sh = (q : Int) ∧ Hid (q = (most - n) / 2 ^ (7 * k)) := ⟨d / 2 ^ sh, by simp, by rw [HDD.out, HSH.out]; rfl⟩
      have hwl : IntKind.u64.wrap (low : Int) = (low : Int) := by rw [IntKind.wrap_u64]; omega
      clear r1
      by_cases t1 : q < low
      · have HE := Lib.hid (show numAt most 0 0 l = (0, 0, 62) by rw [HD.out, numAt_cons, ← HQ.out, ← HLOW.out, if_pos t1])
        go_wp2_with fail
        go_ret3
        exact ⟨by rw [HE.out]; rfl, rfl⟩
      · have HT1 := Lib.hid t1
        have HP := Lib.hid (pow7_pos k)
        have HB := Lib.hid (show low * 2 ^ (7 * k) ≤ most - n by
          have := HT1.out
          rw [HQ.out, Nat.not_lt, Nat.le_div_iff_mul_le HP.out] at this
          exact this)
        obtain ⟨t, ht, htl, HT⟩ : ∃ t : Nat, IntKind.u64.wrap ((low : Int) * 2 ^ sh) = (t : Int) ∧ t < 18446744073709551616 ∧ Hid (t = low * 2 ^ (7 * k)) := by
          have hb := HB.out
          refine ⟨low * 2 ^ (7 * k), ?_, by omega, rfl⟩
          rw [HSH.out, show (low : Int) * 2 ^ (7 * k) = ((low * 2 ^ (7 * k) : Nat) : Int) by simp, IntKind.wrap_u64]
          omega
        obtain ⟨n2, hor, hn2, HN2⟩ : ∃ n2 : Nat, bits .or .u64 (n : Int) (t : Int) = (n2 : Int) ∧ n2 ≤ most ∧ Hid (n2 = n + x % 128 * 2 ^ (7 * k)) := by
          have hb := HB.out
          refine ⟨n + low * 2 ^ (7 * k), ?_, by omega, by rw [HLOW.out]; rfl⟩
          rw [u64_or_nat n t (by omega) htl, HT.out, or_shl HN.out]
        have HD2 := Lib.hid (show numAt most 0 0 l = if x < 128 then (if x = 0 ∧ 0 < k then (0, 0, 62) else (n2, k + 1, 0)) else if (most - n2) / 2 ^ (7 * k + 7) = 0 then (0, 0, 62) else numAt most (k + 1) n2 (l.drop (k + 1)) by
          rw [HD.out, numAt_cons, ← HQ.out, ← HLOW.out, if_neg HT1.out, HLOW.out, ← HN2.out])
        clear HD
        cases t2 : decide ((x : Int) < 128) with
        | true =>
          have hx2 : x < 128 := by simp at t2; omega
          by_cases t3 : x = 0 ∧ 0 < k
          · have HE := Lib.hid (show numAt most 0 0 l = (0, 0, 62) by rw [HD2.out, if_pos hx2, if_pos t3])
            obtain ⟨t3, t4⟩ := t3
            have t3' : ((x : Int) == 0) = true := by simp; omega
            have t4' : decide (0 < (k : Int)) = true := by simp; omega
            clear t3
            go_wp2_with fail
            go_ret3
            exact ⟨by rw [HE.out]; rfl, rfl⟩
          · have HE := Lib.hid (show numAt most 0 0 l = (n2, k + 1, 0) by rw [HD2.out, if_pos hx2, if_neg t3])
            by_cases t4 : x = 0
            · have t5 : ¬ 0 < k := by omega
              have t4' : ((x : Int) == 0) = true := by simp; omega
              clear t3 t4
              go_wp2_with fail
              go_ret3
              exact ⟨by rw [HE.out]; rfl, rfl⟩
            · have t4' : ((x : Int) == 0) = false := by simp; omega
              clear t3
              go_wp2_with fail
              go_ret3
              exact ⟨by rw [HE.out]; rfl, rfl⟩
        | false =>
          have hx2 : ¬ x < 128 := by simp at t2; omega
          obtain ⟨d2, hd2, hdl2, HDD2⟩ : ∃ d2 : Nat, (most : Int) - (n2 : Int) = (d2 : Int) ∧ d2 < 18446744073709551616 ∧ Hid (d2 = most - n2) := ⟨most - n2, by omega, by omega, rfl⟩
          obtain ⟨s7, hs7, hs70, HS7⟩ : ∃ s7 : Nat, (sh : Int) + 7 = (s7 : Int) ∧ s7 ≤ 70 ∧ Hid (s7 = 7 * k + 7) := ⟨sh + 7, by omega, by omega, by rw [HSH.out]; rfl⟩
          obtain ⟨m7, hm7, HM7⟩ : ∃ m7 : Nat, min s7 64 = m7 ∧ Hid (m7 = min s7 64) := ⟨min s7 64, rfl, rfl⟩
          obtain ⟨q2, hq2, hq3, HQ2⟩ : ∃ q2 : Nat, (d2 : Int) / 2 ^ s7 = (q2 : Int) ∧ (d2 : Int) / 2 ^ m7 = (q2 : Int) ∧ Hid (q2 = (most - n2) / 2 ^ (7 * k + 7)) := by
            refine ⟨d2 / 2 ^ s7, by simp, ?_, by rw [HDD2.out, HS7.out]; rfl⟩
            rcases Nat.le_total s7 64 with h | h
            · rw [HM7.out, Nat.min_eq_left h]; simp
            · rw [HM7.out, Nat.min_eq_right h]
              have e1 : d2 / 2 ^ s7 = 0 := Nat.div_eq_of_lt (Nat.lt_of_lt_of_le hdl2 (Nat.pow_le_pow_right (n := 2) (by decide) h))
              rw [e1]
              omega
          have HZ := Lib.hid (show (most - n2) / 2 ^ (7 * k + 7) = 0 ↔ q2 = 0 by rw [HQ2.out])
          cases t6 : ((q2 : Int) == 0) with
          | true =>
            have HE := Lib.hid (show numAt most 0 0 l = (0, 0, 62) by rw [HD2.out, if_neg hx2, if_pos (HZ.out.2 (by simp at t6; omega))])
            go_wp2_with fail
            go_ret3
            exact ⟨by rw [HE.out]; rfl, rfl⟩
          | false =>
            have hq0 : ¬ (most - n2) / 2 ^ (7 * k + 7) = 0 := fun h => by have := HZ.out.1 h; simp at t6; omega
            have HE := Lib.hid (show numAt most 0 0 l = numAt most (k + 1) n2 (l.drop (k + 1)) by rw [HD2.out, if_neg hx2, if_neg hq0])
            have hk8 : k + 1 ≤ 9 := by
              by_cases h8 : k ≤ 8
              · omega
              · have hk : k = 9 := by omega
                subst hk
                exfalso
                apply hq0
                simp
                omega
            have HL := Lib.hid (show n2 < 2 ^ (7 * (k + 1)) by
              rw [HN2.out, pow7s]
              have h1 := HN.out
              have h2 : x % 128 * 2 ^ (7 * k) ≤ 127 * 2 ^ (7 * k) := Nat.mul_le_mul_right _ (by omega)
              omega)
            clear hq0
            go_wp2_with fail
            go_round
            case rel => exact ⟨k + 1, n2, by omega, hk8, by go_num, rfl, hn2, HL, HE⟩
            case measure => simp [intOf]; omega
    · have HE := Lib.hid (show numAt most 0 0 l = (0, 0, 61) by rw [HS.out, List.drop_eq_nil_of_le (by omega)]; rfl)
      go_wp2_with fail
      go_ret3
      exact ⟨by rw [HE.out]; rfl, rfl⟩


/-- How many bytes, as the document has it: 0, if the number has no end yet, -1, if none begins so. -/
def usedOf (r : Nat × Nat × Nat) : Int := if r.2.2 = 0 then (r.2.1 : Int) else if r.2.2 = 61 then 0 else -1

def TakePost (r : Nat × Nat × Nat) (w : World) (e : Ending) (w' : World) : Prop := e = .returned (.tuple #[.int .u64 (r.1 : Int), .int .i64 (usedOf r)]) ∧ w = w'

/-- What the document asks first of a byte. -/
theorem first_asked {k x : Nat} (hk : k ≤ 9) (hx : x < 256) :
    ((k = 9 ∧ 1 < x) ∨ (x = 0 ∧ 0 < k ∧ ¬ (k = 9 ∧ 1 < x))) ∨ ((k = 9 ∧ x = 1) ∨ (k ≠ 9 ∧ x ≠ 0) ∨ (k = 0 ∧ x = 0)) := by omega

set_option maxRecDepth 100000 in
set_option maxHeartbeats 4000000 in
theorem refTake_any (a : Option Addr) (cap : Nat) (l : List Nat) (most : Nat) (w : World) (h : BytesP w a cap l) (hm : most < 18446744073709551616) :
    Calls Try.prog 56 #[.slice a l.length cap, .int .u64 (most : Int)] w (TakePost (numAt most 0 0 l) w) := by
  have H := Lib.hid h
  have hl := h.len
  clear h
  go_enter Try.func56, Try.ntmps56
  go_wp2_with fail
  go_loop [6, 7, 8] (fun s t i => ∃ (k n wt : Nat), k ≤ l.length ∧ k ≤ 9 ∧ i = .int .i64 k ∧ s = .int .u64 n ∧ t = .int .u64 wt ∧ n ≤ most ∧ n < wt ∧ wt ≤ 9223372036854775808 ∧ (k ≤ 8 → wt ≤ 72057594037927936) ∧ Hid (wt = 2 ^ (7 * k)) ∧ Hid (numAt most 0 0 l = numAt most k n (l.drop k))) (fun _ _ i => l.length - (intOf i).toNat)
  case atStart => exact ⟨0, 0, 1, Nat.zero_le _, by decide, rfl, rfl, rfl, Nat.zero_le _, by decide, by decide, fun _ => by decide, Lib.hid rfl, Lib.hid rfl⟩
  case round =>
    obtain ⟨k, n, wt, hk, hk9, rfl, rfl, rfl, hn, hnw, hwt, hwt8, HW, HS⟩ := hrel
    by_cases hlt : k < l.length
    · obtain ⟨b1, o1, rfl, q1, r1⟩ := H.out.cell (by intro e; subst e; simp at hlt)
      have g1 := r1 k _ (List.getElem?_eq_getElem hlt)
      have p1 := H.out.cap
      have hx : l[k] < 256 := H.out.byte _ (List.getElem_mem hlt)
      have HD := Lib.hid (show numAt most 0 0 l = numAt most k n (l[k] :: l.drop (k + 1)) by rw [HS.out, List.drop_eq_getElem_cons hlt])
      generalize l[k] = x at *
      obtain ⟨low, hlow, hlo, HLOW⟩ : ∃ low : Nat, (x : Int) % 128 = (low : Int) ∧ low < 128 ∧ Hid (low = x % 128) := ⟨x % 128, by omega, by omega, rfl⟩
      have hwl : IntKind.u64.wrap (low : Int) = (low : Int) := by rw [IntKind.wrap_u64]; omega
      have HP := Lib.hid (pow7_pos k)
      have h9 : ¬ 9 < k := by omega
      clear r1
      rcases first_asked hk9 hx with hA | hB
      · have HE := Lib.hid (show numAt most 0 0 l = (0, 0, 62) by
          rw [HD.out, numAt_cons]
          split
          · rfl
          · rename_i hq
            rw [Nat.not_lt, Nat.le_div_iff_mul_le HP.out] at hq
            rcases hA with ⟨rfl, h1⟩ | ⟨h1, h2, _⟩
            · simp at hq
              by_cases hx8 : x < 128
              · omega
              · rw [if_neg hx8, if_pos]
                simp
                omega
            · rw [if_pos (by omega), if_pos ⟨h1, h2⟩])
        rcases hA with ⟨h1, h2⟩ | ⟨h1, h2, h3⟩
        · have e9 : ((k : Int) == 9) = true := by simp; omega
          have e1 : decide (1 < (x : Int)) = true := by simp; omega
          clear h1 h2
          go_wp2_with fail
          go_ret2
          exact ⟨by rw [HE.out]; rfl, rfl⟩
        · have e0 : ((x : Int) == 0) = true := by simp; omega
          have e1 : decide (1 < (x : Int)) = false := by simp; omega
          clear h1 h3
          cases e9 : ((k : Int) == 9) <;>
          · go_wp2_with fail
            go_ret2
            exact ⟨by rw [HE.out]; rfl, rfl⟩
      · have HLW := Lib.hid (show low * wt ≤ 9223372036854775808 by
          rcases hB with ⟨_, h2⟩ | ⟨h1, _⟩ | ⟨h1, _⟩
          · have : low = 1 := by rw [HLOW.out, h2]
            rw [this]; omega
          · have h8 := hwt8 (by omega)
            have : low * wt ≤ 127 * 72057594037927936 := Nat.mul_le_mul (by omega) h8
            omega
          · have h8 := hwt8 (by omega)
            have : low * wt ≤ 127 * 72057594037927936 := Nat.mul_le_mul (by omega) h8
            omega)
        obtain ⟨t, ht, htl, HT⟩ : ∃ t : Nat, (low : Int) * (wt : Int) = (t : Int) ∧ t ≤ 9223372036854775808 ∧ Hid (t = low * wt) := ⟨low * wt, by simp, HLW.out, rfl⟩
        obtain ⟨n2, hn2, hn2l, HN2⟩ : ∃ n2 : Nat, (n : Int) + (t : Int) = (n2 : Int) ∧ n2 < 18446744073709551616 ∧ Hid (n2 = n + t) := ⟨n + t, by omega, by omega, rfl⟩
        have HNE := Lib.hid (show n + x % 128 * 2 ^ (7 * k) = n2 by rw [HN2.out, HT.out, HW.out, HLOW.out])
        have HQ := Lib.hid (show (most - n) / 2 ^ (7 * k) < x % 128 ↔ most < n2 by
          rw [← HNE.out]
          have h1 : (x % 128 ≤ (most - n) / 2 ^ (7 * k)) ↔ x % 128 * 2 ^ (7 * k) ≤ most - n := Nat.le_div_iff_mul_le HP.out
          omega)
        have HZ : ¬ (x = 0 ∧ 0 < k) := by omega
        have HZ := Lib.hid HZ
        have HX9 := Lib.hid (show 128 ≤ x → k ≤ 8 by omega)
        have HB := Lib.hid (show ((((k : Int) == 9) = true ∧ decide (1 < (x : Int)) = false ∧ ((x : Int) == 0) = false) ∨ (((k : Int) == 9) = false ∧ ((x : Int) == 0) = false)) ∨ (((k : Int) == 9) = false ∧ ((x : Int) == 0) = true ∧ ¬ 0 < k) by
          simp
          omega)
        clear hB
        by_cases t1 : most < n2
        · have HE := Lib.hid (show numAt most 0 0 l = (0, 0, 62) by rw [HD.out, numAt_cons, if_pos (HQ.out.2 t1)])
          rcases HB.out with (⟨f1, f2, f3⟩ | ⟨f1, f2⟩) | ⟨f1, f2, f3⟩ <;>
          · go_wp2_with fail
            go_ret2
            exact ⟨by rw [HE.out]; rfl, rfl⟩
        · have HD2 := Lib.hid (show numAt most 0 0 l = if x < 128 then (n2, k + 1, 0) else if (most - n2) / 2 ^ (7 * k + 7) = 0 then (0, 0, 62) else numAt most (k + 1) n2 (l.drop (k + 1)) by
            rw [HD.out, numAt_cons, if_neg (fun h => t1 (HQ.out.1 h)), if_neg HZ.out, HNE.out])
          clear HD
          cases t2 : decide ((x : Int) < 128) with
          | true =>
            have HE := Lib.hid (show numAt most 0 0 l = (n2, k + 1, 0) by rw [HD2.out, if_pos (by simp at t2; omega)])
            rcases HB.out with (⟨f1, f2, f3⟩ | ⟨f1, f2⟩) | ⟨f1, f2, f3⟩ <;>
            · go_wp2_with fail
              go_ret2
              exact ⟨by rw [HE.out]; rfl, rfl⟩
          | false =>
            have hx2 : ¬ x < 128 := by simp at t2; omega
            have hk8 := HX9.out (by omega)
            have hw8 := hwt8 hk8
            obtain ⟨d2, hd2, hdl2, HDD2⟩ : ∃ d2 : Nat, (most : Int) - (n2 : Int) = (d2 : Int) ∧ d2 < 18446744073709551616 ∧ Hid (d2 = most - n2) := ⟨most - n2, by omega, by omega, rfl⟩
            obtain ⟨w2, hw2, hw2l, HW2⟩ : ∃ w2 : Nat, (wt : Int) * 128 = (w2 : Int) ∧ w2 ≤ 9223372036854775808 ∧ Hid (w2 = wt * 128) := ⟨wt * 128, by simp, by omega, rfl⟩
            have HWP := Lib.hid (show w2 = 2 ^ (7 * (k + 1)) by rw [HW2.out, HW.out, pow7s, Nat.mul_comm])
            have HZ2 := Lib.hid (show (most - n2) / 2 ^ (7 * k + 7) = 0 ↔ d2 < w2 by
              rw [HDD2.out, HWP.out, show 7 * (k + 1) = 7 * k + 7 by omega, Nat.div_eq_zero_iff_lt (Nat.pos_of_ne_zero (by simp))])
            by_cases t3 : d2 < w2
            · have HE := Lib.hid (show numAt most 0 0 l = (0, 0, 62) by rw [HD2.out, if_neg hx2, if_pos (HZ2.out.2 t3)])
              rcases HB.out with (⟨f1, f2, f3⟩ | ⟨f1, f2⟩) | ⟨f1, f2, f3⟩ <;>
              · go_wp2_with fail
                go_ret2
                exact ⟨by rw [HE.out]; rfl, rfl⟩
            · have HE := Lib.hid (show numAt most 0 0 l = numAt most (k + 1) n2 (l.drop (k + 1)) by rw [HD2.out, if_neg hx2, if_neg (fun h => t3 (HZ2.out.1 h))])
              have HLT := Lib.hid (show n2 < w2 by
                rw [HN2.out, HT.out, HW2.out]
                have : low * wt ≤ 127 * wt := Nat.mul_le_mul_right _ (by omega)
                omega)
              have HW8 := Lib.hid (show k + 1 ≤ 8 → w2 ≤ 72057594037927936 by
                intro h
                rw [HWP.out]
                exact Nat.le_trans (Nat.pow_le_pow_right (n := 2) (by decide) (show 7 * (k + 1) ≤ 56 by omega)) (by decide))
              rcases HB.out with (⟨f1, f2, f3⟩ | ⟨f1, f2⟩) | ⟨f1, f2, f3⟩ <;>
              · go_wp2_with fail
                go_round
                case rel => exact ⟨k + 1, n2, w2, by omega, by omega, by go_num, rfl, rfl, by omega, HLT.out, hw2l, HW8.out, HWP, HE⟩
                case measure => simp [intOf]; omega
    · have HE := Lib.hid (show numAt most 0 0 l = (0, 0, 61) by rw [HS.out, List.drop_eq_nil_of_le (by omega)]; rfl)
      go_wp2_with fail
      go_ret2
      exact ⟨by rw [HE.out]; rfl, rfl⟩

end Go.Proofs.Ytciijkognhdddaa
