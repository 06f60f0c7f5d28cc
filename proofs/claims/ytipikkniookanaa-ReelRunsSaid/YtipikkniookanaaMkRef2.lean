/- What the document's Cell of layer 8 answers. -/
import Derived.Test.YtipikkniookanaaMkRef
namespace Go.Proofs.Ytipikkniookanaa
set_option maxRecDepth 100000
open Go.RowKit

attribute [local go_sem ↓] ld26 ld66 st26 st66 bx26 al26 al66 bd26 bd66 bs61 bs48 mk48 eq26 ap61 ap48 ap49 cp46 cp48
attribute [local go_sem] bx_agg al_cell al_wr bd_zero bd_one bd_two bd_nine

/-- A cell with j of the bytes between and k bytes of the mark at both ends. -/
def gC (l : List Nat) (m j k i : Nat) : Nat := if i < k then m / 256 ^ i % 256 else if 8 ≤ i ∧ i < 8 + j then l.getD (i - 8) 0 else if 56 ≤ i ∧ i < 56 + k then m / 256 ^ (i - 56) % 256 else 0
def partG (l : List Nat) (m j k : Nat) : List Nat := (List.range 64).map (gC l m j k)

theorem partG_len (l : List Nat) (m j k : Nat) : (partG l m j k).length = 64 := by simp [partG]
theorem partG_get (l : List Nat) (m j k i : Nat) : (partG l m j k)[i]? = if i < 64 then some (gC l m j k i) else none := by
  unfold partG
  rw [List.getElem?_map]
  split
  · rename_i h
    rw [List.getElem?_range h]
    rfl
  · rename_i h
    rw [List.getElem?_eq_none (by simp; omega)]
    rfl
theorem partG_zero (l : List Nat) (m : Nat) : partG l m 0 0 = zeroC := by
  apply List.ext_getElem?
  intro i
  rw [partG_get]
  unfold zeroC
  by_cases h : i < 64
  · rw [if_pos h, List.getElem?_replicate, if_pos h]
    unfold gC
    rw [if_neg (by omega), if_neg (by omega), if_neg (by omega)]
  · rw [if_neg h, List.getElem?_replicate, if_neg h]
theorem partG_byte (l : List Nat) (m : Nat) {j : Nat} (hj : j < l.length) (hl : l.length ≤ 48) : (partG l m j 0).set (8 + j) l[j] = partG l m (j + 1) 0 := by
  apply List.ext_getElem?
  intro i
  rw [List.getElem?_set, partG_len, partG_get, partG_get]
  by_cases h1 : 8 + j = i
  · subst h1
    rw [if_pos rfl, if_pos (by omega), if_pos (by omega)]
    unfold gC
    rw [if_neg (by omega), if_pos (by omega), show 8 + j - 8 = j by omega]
    simp [List.getElem?_eq_getElem hj]
  · rw [if_neg h1]
    have e : gC l m j 0 i = gC l m (j + 1) 0 i := by
      unfold gC
      simp only [show (8 ≤ i ∧ i < 8 + (j + 1)) ↔ (8 ≤ i ∧ i < 8 + j) by omega]
    rw [e]
theorem partG_mark (l : List Nat) (m : Nat) {k : Nat} (hk : k < 8) (hl : l.length ≤ 48) : ((partG l m l.length k).set k (m / 256 ^ k % 256)).set (56 + k) (m / 256 ^ k % 256) = partG l m l.length (k + 1) := by
  apply List.ext_getElem?
  intro i
  rw [List.getElem?_set, List.getElem?_set, List.length_set, partG_len, partG_get, partG_get]
  by_cases h1 : 56 + k = i
  · subst h1
    rw [if_pos rfl, if_pos (by omega), if_pos (by omega)]
    unfold gC
    rw [if_neg (by omega), if_neg (by omega), if_pos (by omega), show 56 + k - 56 = k by omega]
  · rw [if_neg h1]
    by_cases h2 : k = i
    · subst h2
      rw [if_pos rfl, if_pos (by omega), if_pos (by omega)]
      unfold gC
      rw [if_pos (by omega)]
    · rw [if_neg h2]
      have e : gC l m l.length k i = gC l m l.length (k + 1) i := by
        unfold gC
        simp only [show (i < k + 1) ↔ (i < k) by omega, show (i < 56 + (k + 1)) ↔ (i < 56 + k) by omega]
      rw [e]
theorem partG_all (l : List Nat) (m : Nat) (hl : l.length ≤ 48) : partG l m l.length 8 = markedC m l := by
  have h8 := leL_len 8 m
  apply List.ext_getElem?
  intro i
  rw [partG_get]
  unfold markedC
  by_cases h1 : i < 8
  · rw [if_pos (by omega), List.append_assoc, List.getElem?_append_left (by omega), leL_get 8 m i h1]
    unfold gC
    rw [if_pos h1]
  · rw [List.append_assoc, List.getElem?_append_right (by omega), h8]
    by_cases h2 : i < 56
    · rw [if_pos (by omega), List.getElem?_append_left (by simp; omega)]
      unfold gC
      rw [if_neg h1]
      by_cases h3 : i < 8 + l.length
      · rw [if_pos (by omega), List.getElem?_append_left (by omega), List.getElem?_eq_getElem (by omega)]
        simp [List.getElem?_eq_getElem (show i - 8 < l.length by omega)]
      · rw [if_neg (by omega), if_neg (by omega), List.getElem?_append_right (by omega), List.getElem?_replicate, if_pos (by omega)]
    · have hlen : (l ++ List.replicate (48 - l.length) 0).length = 48 := by simp; omega
      rw [List.getElem?_append_right (by omega), hlen]
      by_cases h3 : i < 64
      · rw [if_pos h3, leL_get 8 m _ (by omega)]
        unfold gC
        rw [if_neg h1, if_neg (by omega), if_pos (by omega), show i - 8 - 48 = i - 56 by omega]
      · rw [if_neg h3, List.getElem?_eq_none (by omega)]

set_option maxHeartbeats 4000000 in
set_option maxRecDepth 100000 in
theorem refCell_any (r at_ : Nat) (hr : r ≤ 1099511627776) (ha : at_ ≤ 100000) (a : Option Addr) (cap : Nat) (l : List Nat) (w : World) (h : BytesP w a cap l) (hl : l.length ≤ 48) :
    Calls Try.prog 84 #[.int .u64 (r : Int), .int .i64 (at_ : Int), .slice a l.length cap] w (CellPost (markedC (markN r at_) l) w) := by
  have k0 := cell_block w zeroC
  have hs1 : (w.alloc (.cells (arr zeroC) 90)).heap.size = w.heap.size + 1 := by simp
  obtain ⟨w2, s2, r2, b2, z2⟩ := local_cell (w := w.alloc (.cells (arr zeroC) 90)) zeroC_is
  rw [hs1] at s2 r2 b2
  have b1 := (Below.refl w.heap.size w).alloc (Nat.le_refl _) (.cells (arr zeroC) 90)
  have K0 := Lib.hid (k0.same (b2.block w.heap.size (by omega)))
  have K1 := Lib.hid r2
  have B2 := Lib.hid (b1.trans (b2.mono (by omega)))
  have HB := Lib.hid h
  have hcap := h.cap
  clear k0 r2 b1 b2 h z2 hs1
  obtain ⟨q, hq, hq2, HQ⟩ : ∃ q : Nat, IntKind.u64.wrap (65536 * (r : Int)) = (q : Int) ∧ q ≤ 72057594037927936 ∧ Hid (q = r * 65536) := ⟨r * 65536, by rw [IntKind.wrap_u64]; omega, by omega, rfl⟩
  have hwk : IntKind.u64.wrap (at_ : Int) = (at_ : Int) := by rw [IntKind.wrap_u64]; omega
  obtain ⟨u, hu, hu2, HU⟩ : ∃ u : Nat, IntKind.u64.wrap ((q : Int) + (at_ : Int)) = (u : Int) ∧ u ≤ 72057594038027936 ∧ Hid (u = r * 65536 + at_) := ⟨q + at_, by rw [IntKind.wrap_u64]; omega, by omega, by rw [HQ.out]; rfl⟩
  obtain ⟨m, hv, hml, HV⟩ : ∃ v : Nat, IntKind.u64.wrap ((u : Int) + 1) = (v : Int) ∧ v < 18446744073709551616 ∧ Hid (markN r at_ = v) := ⟨u + 1, by rw [IntKind.wrap_u64]; omega, by omega, by rw [HU.out]; rfl⟩
  go_enter Try.func84, Try.ntmps84
  go_wp2_with fail
  go_loopw [15] (fun i wr => ∃ (k : Nat), k ≤ l.length ∧ i = .int .i64 k ∧ Hid (RowAt wr (w.heap.size + 1) 90 ((partG l m k 0).map bv)) ∧ Hid (RowAt wr w.heap.size 90 (zeroC.map bv)) ∧ Hid (Below w.heap.size w wr)) (fun i _ => l.length - (intOf i).toNat)
  case atStart => exact ⟨0, Nat.zero_le _, rfl, by rw [partG_zero]; exact K1, K0, B2⟩
  case round =>
    clear K0 K1 B2 s2
    obtain ⟨k, hk, rfl, HR, HZ, HW⟩ := hrel
    by_cases hlt : k < l.length
    · have hpl := partG_len l m k 0
      obtain ⟨b0, o0, rfl, hb0, hc0⟩ := HB.out.cell (by intro e; subst e; simp at hlt)
      have g1 := (HW.out.cell (p := ⟨b0, o0 + k, none⟩) hb0).trans (hc0 k _ (List.getElem?_eq_getElem hlt))
      have HSET := Lib.hid (partG_byte l m hlt hl)
      generalize l[k] = x at *
      obtain ⟨u8, hu8, hu82, HU8⟩ : ∃ u : Nat, 8 + (k : Int) = (u : Int) ∧ u < 64 ∧ Hid (8 + k = u) := ⟨8 + k, by omega, by omega, rfl⟩
      have c1 := HR.out.cell (List.getElem?_eq_getElem (show u8 < ((partG l m k 0).map bv).length by rw [List.length_map, hpl]; exact hu82))
      have f1 := HR.out.frozen u8
      have HR2 := Lib.hid (HR.out.setCell (o := u8) (bv x) (by rw [List.length_map, hpl]; exact hu82))
      rw [← List.map_set, ← HU8.out, HSET.out, HU8.out] at HR2
      have HZ2 := Lib.hid (HZ.out.same (heap_setCell_other wr ⟨w.heap.size + 1, u8, none⟩ w.heap.size (bv x) (by simp)))
      have HW2 := Lib.hid (HW.out.setCell (p := ⟨w.heap.size + 1, u8, none⟩) (by simp) (bv x))
      generalize ((partG l m k 0).map bv)[u8]'(by rw [List.length_map, hpl]; exact hu82) = old1 at c1
      clear hpl hc0 HSET
      go_wp2_with fail
      go_roundw
      case rel => exact ⟨k + 1, by omega, by go_num, HR2, HZ2, HW2⟩
      case measure => simp [intOf]; omega
    · have hkl : k = l.length := by omega
      have HR1 := HR
      rw [hkl] at HR1
      clear hkl HR
      go_wp2_with fail
      generalize wr = wo at *
      generalize k = kk at *
      go_loopw [10, 11] (fun n i wr => ∃ (k n0 : Nat), k ≤ 8 ∧ i = .int .i64 k ∧ n = .int .u64 n0 ∧ n0 < 18446744073709551616 ∧ Hid (n0 = m / 256 ^ k) ∧ Hid (RowAt wr (w.heap.size + 1) 90 ((partG l m l.length k).map bv)) ∧ Hid (RowAt wr w.heap.size 90 (zeroC.map bv)) ∧ Hid (Below w.heap.size w wr)) (fun _ i _ => 8 - (intOf i).toNat)
      case atStart => exact ⟨0, m, Nat.zero_le _, rfl, rfl, hml, Lib.hid (by simp), HR1, HZ, HW⟩
      case round =>
        clear HR1 HZ HW
        obtain ⟨k, n0, hk, rfl, rfl, hn0, HN0, HR, HZ, HW⟩ := hrel
        by_cases hlt : k < 8
        · have hpl := partG_len l m l.length k
          have HSET := Lib.hid (partG_mark l m hlt hl)
          obtain ⟨y, hy, hyl, HY⟩ : ∃ y : Nat, (n0 : Int) % 256 = (y : Int) ∧ y < 256 ∧ Hid (m / 256 ^ k % 256 = y) := ⟨n0 % 256, by omega, by omega, by rw [HN0.out]; rfl⟩
          have hwy : IntKind.u8.wrap (y : Int) = (y : Int) := by rw [IntKind.wrap_u8]; omega
          obtain ⟨n1, hn1, hn1l, HN1⟩ : ∃ n1 : Nat, (n0 : Int) / 256 = (n1 : Int) ∧ n1 < 18446744073709551616 ∧ Hid (n1 = m / 256 ^ (k + 1)) := ⟨n0 / 256, by omega, by omega, by rw [HN0.out, Nat.div_div_eq_div_mul, Nat.pow_succ]; rfl⟩
          obtain ⟨v, hv56, hv2, HV5⟩ : ∃ v : Nat, 56 + (k : Int) = (v : Int) ∧ v < 64 ∧ Hid (56 + k = v) := ⟨56 + k, by omega, by omega, rfl⟩
          have c0 := HR.out.cell (List.getElem?_eq_getElem (show k < ((partG l m l.length k).map bv).length by rw [List.length_map, hpl]; omega))
          have f0 := HR.out.frozen k
          have hr1 := HR.out.setCell (o := k) (bv y) (by rw [List.length_map, hpl]; omega)
          have c1 := hr1.cell (List.getElem?_eq_getElem (show v < (((partG l m l.length k).map bv).set k (bv y)).length by rw [List.length_set, List.length_map, hpl]; exact hv2))
          have f1 := hr1.frozen v
          have HR2 := Lib.hid (hr1.setCell (o := v) (bv y) (by rw [List.length_set, List.length_map, hpl]; exact hv2))
          rw [← List.map_set, ← List.map_set, ← HY.out, ← HV5.out, HSET.out, HY.out, HV5.out] at HR2
          have HZ2 := Lib.hid ((HZ.out.same (heap_setCell_other wr ⟨w.heap.size + 1, k, none⟩ w.heap.size (bv y) (by simp))).same (heap_setCell_other _ ⟨w.heap.size + 1, v, none⟩ w.heap.size (bv y) (by simp)))
          have HW2 := Lib.hid ((HW.out.setCell (p := ⟨w.heap.size + 1, k, none⟩) (by simp) (bv y)).setCell (p := ⟨w.heap.size + 1, v, none⟩) (by simp) (bv y))
          generalize ((partG l m l.length k).map bv)[k]'(by rw [List.length_map, hpl]; omega) = old at c0
          generalize (((partG l m l.length k).map bv).set k (bv y))[v]'(by rw [List.length_set, List.length_map, hpl]; exact hv2) = old1 at c1
          clear hpl hr1 HSET
          go_wp2_with fail
          go_roundw
          case rel => exact ⟨k + 1, n1, by omega, by go_num, rfl, hn1l, HN1, HR2, HZ2, HW2⟩
          case measure => simp [intOf]; omega
        · have hk8 : k = 8 := by omega
          have hr8 := HR.out
          rw [hk8, partG_all l m hl, ← HV.out] at hr8
          have hcl := markedC_is (markN r at_) hl HB.out.byte
          have L3 := ld_block hcl.len hr8
          obtain ⟨w4, s4, r4, u4⟩ := st_block zeroC_len hcl.len HZ.out
          have R4 := Lib.hid r4
          have B4 := Lib.hid (HW.out.trans (u4.below (Nat.le_refl _)))
          have HL := Lib.hid hcl.len
          generalize markedC (markN r at_) l = mc at *
          clear hr8 r4 u4 HR HZ HW hcl hk8
          go_wp2_with fail
          refine bodyPost_ret (results_cell_alone rfl _ _ w.heap.size _ rfl (ld_block ?_ R4.out)) rfl ?_
          · exact HL.out
          · exact ⟨rfl, B4.out⟩

end Go.Proofs.Ytipikkniookanaa
