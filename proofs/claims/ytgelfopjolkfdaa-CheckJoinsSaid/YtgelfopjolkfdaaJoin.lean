/- What byteStrides, doubled, overBytes, Join and Noughts of package check answer. -/
import Derived.Test.YtgelfopjolkfdaaStride
namespace Go.Proofs.Ytgelfopjolkfdaa
open Go.RowKit

theorem below_setRow {B : Nat} {w w1 : World} (h : Below B w w1) {g : Nat} (hg : B ≤ g) (cs : Array Value) : Below B w (w1.setRow g cs) :=
  ⟨h.os, h.tape, h.output, by rw [size_setRow]; exact h.size, fun k hk => (setRow_other w1 g k cs (by omega)).trans (h.block k hk)⟩

theorem IsArr.row {w : World} {g : Nat} {S : List Nat} (h : IsArr w g S) (T : List Nat) : IsArr (w.setRow g (arr T)) g T := setRow_heap w g _ _ _ _ h

theorem shl_one (k : Nat) (h : k < 32) : IntKind.u32.wrap (2 ^ k) = (2 : Int) ^ k := by
  rw [IntKind.wrap_u32']
  have h1 : 2 ^ k < 4294967296 := (Nat.pow_lt_pow_right (by decide) h : 2 ^ k < 2 ^ 32)
  have e : (2 : Int) ^ k = ((2 ^ k : Nat) : Int) := by simp
  have key : ∀ x : Nat, x < 4294967296 → (x : Int) % 4294967296 = x := by omega
  rw [e]
  exact key _ h1

set_option maxHeartbeats 2000000 in
set_option maxRecDepth 100000 in
theorem byteStrides_any (w : World) : Calls Try.prog 18 #[] w (ArrB (strL 8) w) := by
  go_enter Try.func18, Try.ntmps18
  go_wp2_with (refine wpList_alloc_row rfl rfl ?_)
  go_loopw [3] (fun i wr => ∃ k : Nat, k ≤ 32 ∧ i = .int .i64 k ∧ IsArr wr w.heap.size (zeroS) ∧ IsArr wr (w.heap.size + 1) (partS (strL 8) k) ∧ Below w.heap.size w wr) (fun i _ => 32 - (intOf i).toNat)
  case atStart =>
    refine ⟨0, Nat.zero_le _, rfl, ?_, ?_, ?_⟩
    · exact heap_alloc2_old w _ _
    · rw [partS_zero]; exact heap_alloc2_new w _ _
    · exact ((Below.refl _ _).alloc (Nat.le_refl _) _).alloc (by simp) _
  case round =>
    obtain ⟨k, hk, rfl, h0, h1, hb⟩ := hrel
    have H0 := Lib.hid h0
    have H1 := Lib.hid h1
    clear h0 h1
    by_cases hlt : k < 32
    · have hc := H1.out.cell (partS_get (strL_len 8) hlt)
      have hf := H1.out.frozen k
      have hs := shl_one k hlt
      have hmin : min k 32 = k := by omega
      have C : ∀ W : World, Calls Try.prog 15 #[.int .u32 ((2 : Int) ^ k)] W (Num (halv 8 (2 ^ k)) W) := fun W => by
        have := overByte_any (2 ^ k) W (Nat.pow_lt_pow_right (by decide) hlt : 2 ^ k < 2 ^ 32)
        rw [show ((2 ^ k : Nat) : Int) = (2 : Int) ^ k by simp] at this
        exact this
      have HC := Lib.hid C
      have HT := Lib.hid (partS_set (strL_len 8) hlt (strL_get 8 hlt))
      clear C
      generalize halv 8 (2 ^ k) = x at *
      go_wp2_with fail
      refine (HC.out _).mono ?_
      rintro e w' ⟨rfl, rfl⟩
      go_wp2_with fail
      go_roundw
      case rel =>
        refine ⟨k + 1, by omega, by go_num, ?_, ?_, ?_⟩
        · exact (heap_setCell_other _ _ _ _ (by simp)).trans H0.out
        · rw [← HT.out]; exact H1.out.set k x
        · exact hb.setCell (by simp) _
      case measure => simp [intOf]; omega
    · have hk2 : k = 32 := by omega
      subst hk2
      rw [partS_all (strL_len 8)] at H1
      go_wp2_with (first | refine wpList_load_row rfl 40 _ rfl _ rfl 40 _ (0, 0) _ H1.out Try.underlying40 rfl (size40 (strL_len 8)) ?_ | refine wpList_store_row rfl 40 _ _ rfl _ (arr (strL 8)) rfl rfl 40 _ H0.out (size40 (strL_len 8)) (by rw [arr_size, arr_size, strL_len, zeroS_len]) (arr_one _) ?_)
      refine bodyPost_ret (v := .agg (arr (strL 8))) ?_ rfl ⟨rfl, below_setRow hb (Nat.le_refl _) _⟩
      exact results_cell_row rfl _ _ w.heap.size 40 _ (0, 0) _ rfl (H0.out.row _) Try.underlying40 rfl (size40 (strL_len 8))

set_option maxHeartbeats 2000000 in
set_option maxRecDepth 100000 in
theorem doubled_any (m : Nat) (w : World) : Calls Try.prog 20 #[.agg (arr (strL m))] w (ArrB (strL (m + m)) w) := by
  have HG := Lib.hid (show ∀ o1 o2, (((w.alloc (.cells (arr (strL m)) 40)).alloc o1).alloc o2).heap[w.heap.size]? = some (.cells (arr (strL m)) 40 (0, 0)) from fun o1 o2 => by
    rw [heap_alloc_old _ _ (by simp; omega), heap_alloc_old _ _ (by simp)]
    exact heap_alloc_new _ _)
  go_enter Try.func20, Try.ntmps20
  go_wp2_with (first | refine wpList_box_row rfl 40 _ rfl (arr (strL m)) rfl ?_ | refine wpList_alloc_row rfl rfl ?_ | refine wpList_load_row rfl 40 _ rfl _ rfl 40 _ (0, 0) _ (HG.out _ _) Try.underlying40 rfl (size40 (strL_len m)) ?_)
  go_loopw [7] (fun i wr => ∃ k : Nat, k ≤ 32 ∧ i = .int .i64 k ∧ IsArr wr w.heap.size (strL m) ∧ IsArr wr (w.heap.size + 1) zeroS ∧ IsArr wr (w.heap.size + 1 + 1) (partS (strL (m + m)) k) ∧ Below w.heap.size w wr) (fun i _ => 32 - (intOf i).toNat)
  case atStart =>
    refine ⟨0, Nat.zero_le _, rfl, HG.out _ _, ?_, ?_, ?_⟩
    · have := heap_alloc2_old (w.alloc (.cells (arr (strL m)) 40)) (.cells (arr zeroS) 40) (.cells (arr zeroS) 40)
      simpa [IsArr] using this
    · rw [partS_zero]
      have := heap_alloc2_new (w.alloc (.cells (arr (strL m)) 40)) (.cells (arr zeroS) 40) (.cells (arr zeroS) 40)
      simpa [IsArr] using this
    · exact (((Below.refl _ _).alloc (Nat.le_refl _) _).alloc (by simp) _).alloc (by simp; omega) _
  case round =>
    obtain ⟨k, hk, rfl, h0, h1, h2, hb⟩ := hrel
    have H0 := Lib.hid h0
    have H1 := Lib.hid h1
    have H2 := Lib.hid h2
    clear h0 h1 h2
    by_cases hlt : k < 32
    · have hpl : halv m (2 ^ k) < 4294967296 := halv_lt m (Nat.pow_lt_pow_right (by decide) hlt : 2 ^ k < 2 ^ 32)
      have hv := Lib.hid (arr_get (strL_get m hlt))
      have HC := Lib.hid (fun W => over_any m (halv m (2 ^ k)) W hpl)
      have HT := Lib.hid (partS_set (strL_len (m + m)) hlt (strL_get (m + m) hlt))
      rw [halv_add] at HT
      generalize halv m (2 ^ k) = x at *
      generalize halv m x = y at *
      go_wp2_with (first | refine wpList_index_row rfl 40 _ _ rfl (arr (strL m)) rfl k rfl 32 23 Try.underlying40 hlt (isAgg23 _) (sizeOf23 _) _ hv.out ?_ | refine wpList_load_row rfl 40 _ rfl _ rfl 40 _ (0, 0) _ H0.out Try.underlying40 rfl (size40 (strL_len m)) ?_)
      refine (HC.out _).mono ?_
      rintro e w1 ⟨rfl, b1⟩
      have J0 := Lib.hid (H0.out.below b1 H0.out.lt)
      have J1 := Lib.hid (H1.out.below b1 H1.out.lt)
      have J2 := Lib.hid (H2.out.below b1 H2.out.lt)
      have hc := J2.out.cell (partS_get (strL_len (m + m)) hlt)
      have hf := J2.out.frozen k
      have hbb := hb.trans (b1.mono hb.size)
      go_wp2_with fail
      go_roundw
      case rel =>
        refine ⟨k + 1, by omega, by go_num, ?_, ?_, ?_, ?_⟩
        · exact (heap_setCell_other _ _ _ _ (by simp; omega)).trans J0.out
        · exact (heap_setCell_other _ _ _ _ (by simp)).trans J1.out
        · rw [← HT.out]; exact J2.out.set k y
        · exact hbb.setCell (by simp; omega) _
      case measure => simp [intOf]; omega
    · have hk2 : k = 32 := by omega
      subst hk2
      rw [partS_all (strL_len (m + m))] at H2
      go_wp2_with (first | refine wpList_load_row rfl 40 _ rfl _ rfl 40 _ (0, 0) _ H2.out Try.underlying40 rfl (size40 (strL_len (m + m))) ?_ | refine wpList_store_row rfl 40 _ _ rfl _ (arr (strL (m + m))) rfl rfl 40 _ H1.out (size40 (strL_len (m + m))) (by rw [arr_size, arr_size, strL_len, zeroS_len]) (arr_one _) ?_)
      refine bodyPost_ret (v := .agg (arr (strL (m + m)))) ?_ rfl ⟨rfl, below_setRow hb (by omega) _⟩
      exact results_cell_row rfl _ _ (w.heap.size + 1) 40 _ (0, 0) _ rfl (H1.out.row _) Try.underlying40 rfl (size40 (strL_len (m + m)))

set_option maxHeartbeats 4000000 in
set_option maxRecDepth 100000 in
theorem overBytes_any (n : Nat) (b : Int) (w : World) (hn : n < 4294967296) (hb0 : -9223372036854775808 ≤ b) (hb1 : b ≤ 9223372036854775807) :
    Calls Try.prog 16 #[.int .u32 (n : Int), .int .i64 b] w (NumB (halv (8 * b.toNat) n) w) := by
  have HZ := Lib.hid (show ∀ W : World, (W.alloc (.cells (arr zeroS) 40)).heap[W.heap.size]? = some (.cells (arr zeroS) 40 (0, 0)) from fun W => heap_alloc_new W _)
  go_enter Try.func16, Try.ntmps16
  go_wp2_with fail
  refine (byteStrides_any _).mono ?_
  rintro e w1 ⟨rfl, b1⟩
  go_wp2_with (first | refine wpList_alloc_row rfl rfl ?_ | refine wpList_store_row rfl 40 _ _ rfl _ (arr (strL 8)) rfl rfl 40 _ (HZ.out _) (size40 (strL_len 8)) (by rw [arr_size, arr_size, strL_len, zeroS_len]) (arr_one _) ?_)
  simp only [Act.put, List.setIfInBounds_toArray, List.set_cons_succ, List.set_cons_zero]
  go_loopw [0, 1, 5] (fun s0 s1 s5 wr => ∃ (g m t : Nat) (c : Int), s0 = .int .u32 t ∧ s1 = .int .i64 c ∧ s5 = .pointer (some ⟨g, 0, none⟩) ∧ t < 4294967296 ∧ -9223372036854775808 ≤ c ∧ c ≤ 9223372036854775807 ∧ IsArr wr g (strL m) ∧ w.heap.size ≤ g ∧ Below w.heap.size w wr ∧ Hid (halv (8 * b.toNat) n = halv (m * c.toNat) t)) (fun _ i _ _ => (intOf i).toNat)
  case atStart =>
    exact ⟨w1.heap.size, 8, n, b, rfl, rfl, rfl, hn, hb0, hb1, IsArr.row (IsArr.new w1 zeroS) _, b1.size, below_setRow (b1.alloc b1.size _) b1.size _, Lib.hid rfl⟩
  case round =>
    obtain ⟨g, m, t, c, rfl, rfl, rfl, ht, hc0, hc1, h0, hg, hbw, HS⟩ := hrel
    have H0 := Lib.hid h0
    clear h0
    by_cases hpos : 0 < c
    · obtain ⟨d, rfl⟩ := Int.eq_ofNat_of_zero_le (Int.le_of_lt hpos)
      have hd : decide (0 < (d : Int)) = true := by simp; omega
      have HD := Lib.hid (fun W => doubled_any m W)
      cases ho : ((d : Int) % 2 == 1) with
      | true =>
        have HC := Lib.hid (fun W => over_any m t W ht)
        have hlt := halv_lt m ht
        have HN := Lib.hid (show halv (8 * b.toNat) n = halv ((m + m) * (d / 2)) (halv m t) by
          rw [HS.out, ← halv_add]
          congr 1
          have hd1 : d = 2 * (d / 2) + 1 := by simp at ho; omega
          rw [Int.toNat_natCast]
          conv => lhs; rw [hd1]
          rw [Nat.mul_add, Nat.mul_one, ← Nat.mul_assoc, Nat.mul_two])
        generalize halv m t = t2 at *
        go_wp2_with (first | refine wpList_load_row rfl 40 _ rfl _ rfl 40 _ (0, 0) _ H0.out Try.underlying40 rfl (size40 (strL_len m)) ?_)
        refine (HC.out _).mono ?_
        rintro e w2 ⟨rfl, b2⟩
        have J2 := Lib.hid (H0.out.below b2 H0.out.lt)
        have b12 := hbw.trans (b2.mono hbw.size)
        go_wp2_with (first | refine wpList_load_row rfl 40 _ rfl _ rfl 40 _ (0, 0) _ J2.out Try.underlying40 rfl (size40 (strL_len m)) ?_)
        refine (HD.out _).mono ?_
        rintro e w3 ⟨rfl, b3⟩
        have J3 := Lib.hid (J2.out.below b3 J2.out.lt)
        have J4 := Lib.hid (J3.out.row (strL (m + m)))
        have hsz : ∀ cs, (w3.setRow g cs).heap.size = w3.heap.size := fun cs => size_setRow w3 g cs
        have HZ3 := Lib.hid (show ∀ cs, ((w3.setRow g cs).alloc (.cells (arr zeroS) 40)).heap[w3.heap.size]? = some (.cells (arr zeroS) 40 (0, 0)) from fun cs => by
          have := heap_alloc_new (w3.setRow g cs) (.cells (arr zeroS) 40)
          rwa [size_setRow] at this)
        have b13 := b12.trans (b3.mono b12.size)
        have hgw := J3.out.lt
        go_wp2_with (first | refine wpList_load_row rfl 40 _ rfl _ rfl 40 _ (0, 0) _ J4.out Try.underlying40 rfl (size40 (strL_len (m + m))) ?_ | refine wpList_alloc_row rfl rfl ?_ | refine wpList_store_row rfl 40 _ _ rfl _ (arr (strL (m + m))) rfl rfl 40 _ (HZ.out _) (size40 (strL_len (m + m))) (by rw [arr_size, arr_size, strL_len, zeroS_len]) (arr_one _) ?_ | refine wpList_store_row rfl 40 _ _ rfl _ (arr (strL (m + m))) rfl rfl 40 _ J3.out (size40 (strL_len (m + m))) (by rw [arr_size, arr_size, strL_len, strL_len]) (arr_one _) ?_)
        go_roundw
        case rel =>
          exact ⟨w3.heap.size, m + m, t2, (d : Int) / 2, rfl, rfl, rfl, hlt, by omega, by omega, IsArr.row (HZ3.out _) _, b13.size, below_setRow ((below_setRow b13 hg _).alloc (by rw [size_setRow]; exact b13.size) _) b13.size _, Lib.hid (by rw [HN.out, show ((d : Int) / 2).toNat = d / 2 by omega])⟩
        case measure => simp [intOf]; omega
      | false =>
        have HN := Lib.hid (show halv (8 * b.toNat) n = halv ((m + m) * (d / 2)) t by
          rw [HS.out]
          congr 1
          have hd1 : d = 2 * (d / 2) := by simp at ho; omega
          rw [Int.toNat_natCast]
          conv => lhs; rw [hd1]
          rw [← Nat.mul_assoc, Nat.mul_two])
        go_wp2_with (first | refine wpList_load_row rfl 40 _ rfl _ rfl 40 _ (0, 0) _ H0.out Try.underlying40 rfl (size40 (strL_len m)) ?_)
        refine (HD.out _).mono ?_
        rintro e w3 ⟨rfl, b3⟩
        have J3 := Lib.hid (H0.out.below b3 H0.out.lt)
        have J4 := Lib.hid (J3.out.row (strL (m + m)))
        have hsz : ∀ cs, (w3.setRow g cs).heap.size = w3.heap.size := fun cs => size_setRow w3 g cs
        have HZ3 := Lib.hid (show ∀ cs, ((w3.setRow g cs).alloc (.cells (arr zeroS) 40)).heap[w3.heap.size]? = some (.cells (arr zeroS) 40 (0, 0)) from fun cs => by
          have := heap_alloc_new (w3.setRow g cs) (.cells (arr zeroS) 40)
          rwa [size_setRow] at this)
        have b13 := hbw.trans (b3.mono hbw.size)
        have hgw := J3.out.lt
        go_wp2_with (first | refine wpList_load_row rfl 40 _ rfl _ rfl 40 _ (0, 0) _ J4.out Try.underlying40 rfl (size40 (strL_len (m + m))) ?_ | refine wpList_alloc_row rfl rfl ?_ | refine wpList_store_row rfl 40 _ _ rfl _ (arr (strL (m + m))) rfl rfl 40 _ (HZ.out _) (size40 (strL_len (m + m))) (by rw [arr_size, arr_size, strL_len, zeroS_len]) (arr_one _) ?_ | refine wpList_store_row rfl 40 _ _ rfl _ (arr (strL (m + m))) rfl rfl 40 _ J3.out (size40 (strL_len (m + m))) (by rw [arr_size, arr_size, strL_len, strL_len]) (arr_one _) ?_)
        go_roundw
        case rel =>
          exact ⟨w3.heap.size, m + m, t, (d : Int) / 2, rfl, rfl, rfl, ht, by omega, by omega, IsArr.row (HZ3.out _) _, b13.size, below_setRow ((below_setRow b13 hg _).alloc (by rw [size_setRow]; exact b13.size) _) b13.size _, Lib.hid (by rw [HN.out, show ((d : Int) / 2).toNat = d / 2 by omega])⟩
        case measure => simp [intOf]; omega
    · have hd : decide (0 < c) = false := by simp; omega
      have HE := Lib.hid (show halv (8 * b.toNat) n = t by rw [HS.out, show c.toNat = 0 by omega]; rfl)
      go_wp2_with fail
      go_ret
      exact ⟨by rw [HE.out]; rfl, hbw⟩

theorem xor_any (a b : Nat) (ha : a < 4294967296) (hb : b < 4294967296) : bits .xor .u32 (a : Int) (b : Int) = ((a ^^^ b : Nat) : Int) := u32_xor_nat a b ha hb

set_option maxHeartbeats 1000000 in
theorem join_any (a b : Nat) (n : Int) (w : World) (ha : a < 4294967296) (hb : b < 4294967296) (hn0 : -9223372036854775808 ≤ n) (hn1 : n ≤ 9223372036854775807) :
    Calls Try.prog 12 #[.int .u32 (a : Int), .int .u32 (b : Int), .int .i64 n] w (NumB (join a b n.toNat) w) := by
  have HC := Lib.hid (fun W => overBytes_any a n W ha hn0 hn1)
  have hx := xor_any b _ hb (halv_lt (8 * n.toNat) ha)
  unfold join
  generalize halv (8 * n.toNat) a = t at *
  go_enter Try.func12, Try.ntmps12
  go_wp2_with fail
  refine (HC.out _).mono ?_
  rintro e w1 ⟨rfl, b1⟩
  go_wp2_with fail
  go_ret
  exact ⟨rfl, b1⟩

set_option maxHeartbeats 1000000 in
theorem noughts_any (n : Int) (w : World) (hn0 : -9223372036854775808 ≤ n) (hn1 : n ≤ 9223372036854775807) : Calls Try.prog 11 #[.int .i64 n] w (NumB (noughts n.toNat) w) := by
  have HC := Lib.hid (fun W => overBytes_any 4294967295 n W (by decide) hn0 hn1)
  have hx := turned _ (halv_lt (8 * n.toNat) (show 4294967295 < 4294967296 by decide))
  have hsg : IntKind.u32.signed = false := rfl
  unfold noughts
  generalize halv (8 * n.toNat) 4294967295 = t at *
  go_enter Try.func11, Try.ntmps11
  go_wp2_with fail
  refine (HC.out _).mono ?_
  rintro e w1 ⟨rfl, b1⟩
  go_wp2_with fail
  go_ret
  exact ⟨rfl, b1⟩

end Go.Proofs.Ytgelfopjolkfdaa
