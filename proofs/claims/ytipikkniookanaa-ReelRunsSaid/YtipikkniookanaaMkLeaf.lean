/- What isSide, isRound, Room, cellOf, markOf, number, bears of package marks answer. -/
import Derived.Test.YtipikkniookanaaCell
import Derived.Test.YtipikkniookanaaMkPlain
import Derived.Laws.ShiftsVarLaws
namespace Go.Proofs.Ytipikkniookanaa
set_option maxRecDepth 100000
open Go.RowKit

attribute [local go_sem ↓] ld26 ld66 st26 st66 bx26 al26 al66 bd26 bd66 bs61 bs48 mk48 eq26 ap61 ap48 ap49 cp46 cp48
attribute [local go_sem] bx_agg al_cell al_wr bd_zero bd_one bd_two bd_nine

set_option maxHeartbeats 1000000 in
theorem isSide_any (s : Int) (w : World) : Calls Try.prog 69 #[.int .i64 s] w (Same (.bool (isSideB s)) w) := by
  cases t1 : decide (0 ≤ s) with
  | false =>
    have E := Lib.hid (show isSideB s = false by simp [isSideB, t1])
    go_enter Try.func69, Try.ntmps69
    go_wp2_with fail
    go_ret
    exact ⟨by rw [E.out]; rfl, rfl⟩
  | true =>
    cases t2 : decide (s < 2) with
    | false =>
      have E := Lib.hid (show isSideB s = false by simp [isSideB, t2])
      go_enter Try.func69, Try.ntmps69
      go_wp2_with fail
      go_ret
      exact ⟨by rw [E.out]; rfl, rfl⟩
    | true =>
      have E := Lib.hid (show isSideB s = true by simp [isSideB, t1, t2])
      go_enter Try.func69, Try.ntmps69
      go_wp2_with fail
      go_ret
      exact ⟨by rw [E.out]; rfl, rfl⟩

set_option maxHeartbeats 1000000 in
theorem isRound_any (r : Nat) (w : World) : Calls Try.prog 71 #[.int .u64 (r : Int)] w (Same (.bool (isRoundB r)) w) := by
  cases t1 : decide (1 ≤ (r : Int)) with
  | false =>
    have E := Lib.hid (show isRoundB r = false by simp at t1; simp [isRoundB]; omega)
    go_enter Try.func71, Try.ntmps71
    go_wp2_with fail
    go_ret
    exact ⟨by rw [E.out]; rfl, rfl⟩
  | true =>
    cases t2 : decide ((r : Int) ≤ 1099511627776) with
    | false =>
      have E := Lib.hid (show isRoundB r = false by simp at t2; simp [isRoundB]; omega)
      go_enter Try.func71, Try.ntmps71
      go_wp2_with fail
      go_ret
      exact ⟨by rw [E.out]; rfl, rfl⟩
    | true =>
      have E := Lib.hid (show isRoundB r = true by simp at t1 t2; simp [isRoundB]; omega)
      go_enter Try.func71, Try.ntmps71
      go_wp2_with fail
      go_ret
      exact ⟨by rw [E.out]; rfl, rfl⟩

section
variable {w : World} {R : Nat → Prop} {g bs bl : Nat} {lv : Value} {P : Pl}

set_option maxHeartbeats 1000000 in
theorem room_any (h : PlM w R g bs bl lv P) : Calls Try.prog 39 #[ptr g] w (Same (.int .i64 ((P.sure.length / 2 : Nat) : Int)) w) := by
  have C := Lib.hid (len_any h)
  have hm := h.good.most
  generalize P.sure.length = n at *
  obtain ⟨q, hq, hq2, E⟩ : ∃ q : Nat, (n : Int) / 2 = (q : Int) ∧ q ≤ 2048 ∧ Hid (n / 2 = q) := ⟨n / 2, by omega, by omega, rfl⟩
  clear h
  go_enter Try.func39, Try.ntmps39
  go_wp2_with fail
  refine C.out.mono ?_
  rintro e w' ⟨rfl, rfl⟩
  go_wp2_with fail
  go_ret
  exact ⟨by rw [E.out]; rfl, rfl⟩

set_option maxHeartbeats 1000000 in
theorem cellOf_any (h : PlM w R g bs bl lv P) (side k : Nat) (hs : side ≤ 1) (hk : k ≤ 100000) : Calls Try.prog 70 #[ptr g, .int .i64 (side : Int), .int .i64 (k : Int)] w (Same (.int .i64 ((side * (P.sure.length / 2) + k : Nat) : Int)) w) := by
  have C := Lib.hid (room_any h)
  have hm := h.good.most
  generalize hn : P.sure.length / 2 = n at *
  have hn2 : n ≤ 2048 := by omega
  obtain ⟨q, hq, hq2, HQ⟩ : ∃ q : Nat, (side : Int) * (n : Int) = (q : Int) ∧ q ≤ 2048 ∧ Hid (q = side * n) := by
    refine ⟨side * n, by simp, ?_, rfl⟩
    rcases Nat.le_one_iff_eq_zero_or_eq_one.1 hs with rfl | rfl <;> omega
  obtain ⟨u, hu, hu2, HU⟩ : ∃ u : Nat, (q : Int) + (k : Int) = (u : Int) ∧ u ≤ 200000 ∧ Hid (side * n + k = u) := ⟨q + k, by omega, by omega, by rw [HQ.out]; rfl⟩
  clear h hn
  go_enter Try.func70, Try.ntmps70
  go_wp2_with fail
  refine C.out.mono ?_
  rintro e w' ⟨rfl, rfl⟩
  go_wp2_with fail
  go_ret
  exact ⟨by rw [HU.out]; rfl, rfl⟩
end

set_option maxHeartbeats 1000000 in
theorem markOf_any (r k : Nat) (hr : r ≤ 1099511627776) (hk : k ≤ 100000) (w : World) : Calls Try.prog 73 #[.int .u64 (r : Int), .int .i64 (k : Int)] w (Same (.int .u64 (markN r k : Int)) w) := by
  obtain ⟨q, hq, hq2, HQ⟩ : ∃ q : Nat, IntKind.u64.wrap ((r : Int) * 65536) = (q : Int) ∧ q ≤ 72057594037927936 ∧ Hid (q = r * 65536) := ⟨r * 65536, by rw [IntKind.wrap_u64]; omega, by omega, rfl⟩
  have hwk : IntKind.u64.wrap (k : Int) = (k : Int) := by rw [IntKind.wrap_u64]; omega
  obtain ⟨u, hu, hu2, HU⟩ : ∃ u : Nat, IntKind.u64.wrap ((q : Int) + (k : Int)) = (u : Int) ∧ u ≤ 72057594038027936 ∧ Hid (u = r * 65536 + k) := ⟨q + k, by rw [IntKind.wrap_u64]; omega, by omega, by rw [HQ.out]; rfl⟩
  obtain ⟨v, hv, HV⟩ : ∃ v : Nat, IntKind.u64.wrap ((u : Int) + 1) = (v : Int) ∧ Hid (markN r k = v) := ⟨u + 1, by rw [IntKind.wrap_u64]; omega, by rw [HU.out]; rfl⟩
  go_enter Try.func73, Try.ntmps73
  go_wp2_with fail
  go_ret
  exact ⟨by rw [HV.out]; rfl, rfl⟩

theorem or_shl {n sh low : Nat} (h : n < 2 ^ sh) : n ||| low * 2 ^ sh = n + low * 2 ^ sh := by
  rw [Nat.or_comm, Nat.mul_comm, ← Nat.two_pow_add_eq_or_of_lt h, Nat.add_comm]

/-- A number is answered; the cell that came in was boxed. -/
def NumBx (c : List Nat) (n : Nat) (w : World) (e : Ending) (w' : World) : Prop := e = .returned (.int .u64 (n : Int)) ∧ w.alloc (.cells (arr c) 90) = w'

theorem pow_256 (k : Nat) : 2 ^ (8 * k) = 256 ^ k := by rw [Nat.pow_mul]

set_option maxHeartbeats 2000000 in
theorem number_any {c : List Nat} (hc : IsCell c) (o : Nat) (ho : o ≤ 56) (w : World) : Calls Try.prog 58 #[.agg (arr c), .int .i64 (o : Int)] w (NumBx c (numC c o) w) := by
  have K := Lib.hid (cell_block w c)
  have HC := Lib.hid hc
  clear hc
  go_enter Try.func58, Try.ntmps58
  go_wp2_with fail
  go_loop [5, 7] (fun s i => ∃ (k n : Nat), k ≤ 8 ∧ i = .int .i64 k ∧ s = .int .u64 n ∧ Hid (n = numLE ((c.drop o).take k))) (fun _ i => 8 - (intOf i).toNat)
  case atStart => exact ⟨0, 0, Nat.zero_le _, rfl, rfl, Lib.hid (by simp [numLE])⟩
  case round =>
    obtain ⟨k, n, hk, rfl, rfl, HN⟩ := hrel
    by_cases hlt : k < 8
    · obtain ⟨q, hq, hq2, HQ⟩ : ∃ q : Nat, (o : Int) + (k : Int) = (q : Int) ∧ q < 64 ∧ Hid (q = o + k) := ⟨o + k, by omega, by omega, rfl⟩
      have hqc : q < c.length := by rw [HC.out.len]; exact hq2
      have g1 := K.out.cell (j := q) (v := bv c[q]) (by rw [List.getElem?_map, List.getElem?_eq_getElem hqc]; rfl)
      have hx : c[q] < 256 := HC.out.byte _ (List.getElem_mem hqc)
      have HX := Lib.hid (show (c.drop o).take (k + 1) = (c.drop o).take k ++ [c[q]] by
        rw [List.take_add_one, List.getElem?_drop, ← HQ.out, List.getElem?_eq_getElem hqc]
        rfl)
      have HL := Lib.hid (show ((c.drop o).take k).length = k by rw [List.length_take, List.length_drop, HC.out.len]; omega)
      generalize c[q] = x at *
      obtain ⟨sh, hsh, hsh63, HSH⟩ : ∃ sh : Nat, 8 * (k : Int) = (sh : Int) ∧ sh ≤ 56 ∧ Hid (sh = 8 * k) := ⟨8 * k, by omega, by omega, rfl⟩
      have hmin : min sh 64 = sh := by omega
      have hwl : IntKind.u64.wrap (x : Int) = (x : Int) := by rw [IntKind.wrap_u64]; omega
      have HP := Lib.hid (show 256 ^ k ≤ 256 ^ 7 from Nat.pow_le_pow_right (by decide) (by omega))
      have HB := Lib.hid (show n < 256 ^ k by
        have := numLE_lt (l := (c.drop o).take k) (fun b hb => HC.out.byte b (List.mem_of_mem_drop (List.mem_of_mem_take hb)))
        rw [HL.out] at this
        rw [HN.out]
        exact this)
      have HT0 := Lib.hid (show x * 256 ^ k < 18446744073709551616 by
        have h1 := HP.out
        have : x * 256 ^ k ≤ 255 * 256 ^ 7 := Nat.mul_le_mul (by omega) h1
        have e : (255 : Nat) * 256 ^ 7 < 18446744073709551616 := by decide
        omega)
      obtain ⟨t, ht, htl, HT⟩ : ∃ t : Nat, IntKind.u64.wrap ((x : Int) * 2 ^ sh) = (t : Int) ∧ t < 18446744073709551616 ∧ Hid (t = x * 256 ^ k) := by
        have hb := HT0.out
        refine ⟨x * 256 ^ k, ?_, hb, rfl⟩
        rw [HSH.out, show (x : Int) * 2 ^ (8 * k) = ((x * 2 ^ (8 * k) : Nat) : Int) by simp, pow_256, IntKind.wrap_u64]
        omega
      obtain ⟨n2, hor, HN2⟩ : ∃ n2 : Nat, bits .or .u64 (n : Int) (t : Int) = (n2 : Int) ∧ Hid (n2 = numLE ((c.drop o).take (k + 1))) := by
        have hb := HB.out
        have h1 := HP.out
        refine ⟨n + x * 256 ^ k, ?_, ?_⟩
        · rw [u64_or_nat n t (by omega) htl, HT.out, ← pow_256, or_shl (by rw [pow_256]; exact hb)]
        · rw [HX.out, numLE_snoc, HL.out, ← HN.out]; rfl
      clear HX HL HP HB HT0 HT
      go_wp2_with fail
      go_round
      case rel => exact ⟨k + 1, n2, by omega, by go_num, rfl, HN2⟩
      case measure => simp [intOf]; omega
    · have hk8 : k = 8 := by omega
      have HE := Lib.hid (show numC c o = n by rw [HN.out, hk8]; rfl)
      go_wp2_with fail
      go_ret
      exact ⟨by rw [HE.out]; rfl, rfl⟩

/-- A bool is answered; all that was there stays. -/
def BoolB (b : Bool) (w : World) (e : Ending) (w' : World) : Prop := e = .returned (.bool b) ∧ Below w.heap.size w w'

theorem ld_more {w : World} {c : List Nat} (hc : c.length = 64) (o : Obj) : LdR 90 (.pointer (some ⟨w.heap.size, 0, none⟩)) ((w.alloc (.cells (arr c) 90)).alloc o) = .ok (.value (.agg (arr c))) ((w.alloc (.cells (arr c) 90)).alloc o) :=
  ld_block hc ((cell_block w c).same (Below.heap_alloc _ _ _ (by simp)))

set_option maxHeartbeats 2000000 in
theorem bears_any {c : List Nat} (hc : IsCell c) (m : Nat) (w : World) : Calls Try.prog 72 #[.agg (arr c), .int .u64 (m : Int)] w (BoolB (bearsC c m) w) := by
  have N0 := Lib.hid (number_any hc 0 (by omega))
  have N1 := Lib.hid (number_any hc 56 (by omega))
  have L0 := ld_block hc.len (cell_block w c)
  have L1 := ld_more (w := w) hc.len (.cells (arr c) 90)
  have b1 := (Below.refl w.heap.size w).alloc (Nat.le_refl _) (.cells (arr c) 90)
  have b2 := b1.alloc b1.size (.cells (arr c) 90)
  have B2 := Lib.hid b2
  have B3 := Lib.hid (b2.alloc b2.size (.cells (arr c) 90))
  clear b1 b2
  have E := Lib.hid (show bearsC c m = (numC c 0 == m && numC c 56 == m) from rfl)
  generalize numC c 0 = x at *
  generalize numC c 56 = y at *
  cases t1 : ((x : Int) == (m : Int)) with
  | false =>
    have E2 := Lib.hid (show bearsC c m = false by rw [E.out]; simp at t1; simp; omega)
    go_enter Try.func72, Try.ntmps72
    go_wp2_with fail
    refine (N0.out _).mono ?_
    rintro e w' ⟨rfl, rfl⟩
    go_wp2_with fail
    go_ret
    exact ⟨by rw [E2.out]; rfl, B2.out⟩
  | true =>
    cases t2 : ((y : Int) == (m : Int)) with
    | false =>
      have E2 := Lib.hid (show bearsC c m = false by rw [E.out]; simp at t2; simp; omega)
      go_enter Try.func72, Try.ntmps72
      go_wp2_with fail
      refine (N0.out _).mono ?_
      rintro e w' ⟨rfl, rfl⟩
      go_wp2_with fail
      refine (N1.out _).mono ?_
      rintro e w' ⟨rfl, rfl⟩
      go_wp2_with fail
      go_ret
      exact ⟨by rw [E2.out]; rfl, B3.out⟩
    | true =>
      have E2 := Lib.hid (show bearsC c m = true by rw [E.out]; simp at t1 t2; simp; omega)
      go_enter Try.func72, Try.ntmps72
      go_wp2_with fail
      refine (N0.out _).mono ?_
      rintro e w' ⟨rfl, rfl⟩
      go_wp2_with fail
      refine (N1.out _).mono ?_
      rintro e w' ⟨rfl, rfl⟩
      go_wp2_with fail
      go_ret
      exact ⟨by rw [E2.out]; rfl, B3.out⟩

end Go.Proofs.Ytipikkniookanaa
