/- What marked of package marks answers. -/
import Derived.Test.YtipikkniookanaaMkLeaf
import Derived.Test.YtipikkniookanaaOwn
namespace Go.Proofs.Ytipikkniookanaa
set_option maxRecDepth 100000
open Go.RowKit

attribute [local go_sem ↓] ld26 ld66 st26 st66 bx26 al26 al66 bd26 bd66 bs61 bs48 mk48 eq26 ap61 ap48 ap49 cp46 cp48
attribute [local go_sem] bx_agg al_cell al_wr bd_zero bd_one bd_two bd_nine

/-- A cell with the first k bytes of a mark at both ends. -/
def fM (m k i : Nat) : Nat := if i < k then m / 256 ^ i % 256 else if 56 ≤ i ∧ i < 56 + k then m / 256 ^ (i - 56) % 256 else 0
def partM (m k : Nat) : List Nat := (List.range 64).map (fM m k)

theorem partM_len (m k : Nat) : (partM m k).length = 64 := by simp [partM]
theorem partM_get (m k i : Nat) : (partM m k)[i]? = if i < 64 then some (fM m k i) else none := by
  unfold partM
  rw [List.getElem?_map]
  split
  · rename_i h
    rw [List.getElem?_range h]
    rfl
  · rename_i h
    rw [List.getElem?_eq_none (by simp; omega)]
    rfl
theorem partM_zero (m : Nat) : partM m 0 = zeroC := by
  apply List.ext_getElem?
  intro i
  rw [partM_get]
  unfold zeroC
  by_cases h : i < 64
  · rw [if_pos h, List.getElem?_replicate, if_pos h]
    simp [fM]
    omega
  · rw [if_neg h, List.getElem?_replicate, if_neg h]
theorem partM_set (m : Nat) {k : Nat} (hk : k < 8) : ((partM m k).set k (m / 256 ^ k % 256)).set (56 + k) (m / 256 ^ k % 256) = partM m (k + 1) := by
  apply List.ext_getElem?
  intro i
  rw [List.getElem?_set, List.getElem?_set, List.length_set, partM_len, partM_get, partM_get]
  by_cases h1 : 56 + k = i
  · subst h1
    rw [if_pos rfl, if_pos (by omega), if_pos (by omega)]
    unfold fM
    rw [if_neg (by omega), if_pos (by omega), show 56 + k - 56 = k by omega]
  · rw [if_neg h1]
    by_cases h2 : k = i
    · subst h2
      rw [if_pos rfl, if_pos (by omega), if_pos (by omega)]
      unfold fM
      rw [if_pos (by omega)]
    · rw [if_neg h2]
      have e : fM m k i = fM m (k + 1) i := by
        unfold fM
        simp only [show (i < k + 1) ↔ (i < k) by omega, show (i < 56 + (k + 1)) ↔ (i < 56 + k) by omega]
      rw [e]
theorem partM_all (m : Nat) : partM m 8 = leL 8 m ++ List.replicate 48 0 ++ leL 8 m := by
  have h8 := leL_len 8 m
  apply List.ext_getElem?
  intro i
  rw [partM_get]
  by_cases h1 : i < 8
  · rw [if_pos (by omega), List.append_assoc, List.getElem?_append_left (by omega), leL_get 8 m i h1]
    unfold fM
    rw [if_pos h1]
  · rw [List.append_assoc, List.getElem?_append_right (by omega), h8]
    by_cases h2 : i < 56
    · rw [if_pos (by omega), List.getElem?_append_left (by simp; omega), List.getElem?_replicate, if_pos (by omega)]
      unfold fM
      rw [if_neg h1, if_neg (by omega)]
    · rw [List.getElem?_append_right (by simp; omega), List.length_replicate]
      by_cases h3 : i < 64
      · rw [if_pos h3, leL_get 8 m _ (by omega)]
        unfold fM
        rw [if_neg h1, if_pos (by omega), show i - 8 - 48 = i - 56 by omega]
      · rw [if_neg h3, List.getElem?_eq_none (by omega)]
theorem partM_put (m : Nat) {l : List Nat} (hl : l.length ≤ 48) : putL ((partM m 8).map bv) 8 (l.map bv) = (markedC m l).map bv := by
  have h8 := leL_len 8 m
  rw [partM_all]
  unfold putL markedC
  rw [← List.map_take, ← List.map_drop, ← List.map_append, ← List.map_append, List.length_map]
  congr 1
  rw [List.append_assoc (leL 8 m) (List.replicate 48 0), List.take_append_of_le_length (by omega), List.take_of_length_le (by omega)]
  rw [show 8 + l.length = (leL 8 m).length + l.length by omega, List.drop_length_add_append, List.drop_append_of_le_length (by simp; omega), List.drop_replicate]
  simp

/-- Bytes are copied into a block. -/
theorem cp_bytes {w : World} {b : Nat} {T : TypeId} {xs : List Value} (h1 : RowAt w b T xs) (o m cd : Nat) {a : Option Addr} {cap : Nat} {l : List Nat} (h : BytesP w a cap l) (hl : l.length ≤ m) (hx : o + l.length ≤ xs.length) (ty : TypeId) :
    ∃ w', CpR 24 ty (.slice (some ⟨b, o, none⟩) m cd) (.slice a l.length cap) w = .ok (.value (.int .i64 (l.length : Int))) w' ∧ RowAt w' b T (putL xs o (l.map bv)) ∧ Upd b w w' := by
  cases a with
  | none =>
    have hl0 : l = [] := by
      cases l with
      | nil => rfl
      | cons y r =>
        obtain ⟨b, o, e, _⟩ := h.cell (by simp)
        cases e
    subst hl0
    refine ⟨w, ?_, by simpa [putL] using h1, ⟨rfl, rfl, rfl, rfl, fun _ _ => rfl⟩⟩
    obtain ⟨i0, hi0, hz0, hzs, hzb⟩ := info_parts Try.info5
    simp [CpR, Builtin.copy_, run_underlying Try.underlying24, Builtin.lenOf, Builtin.firstCells, sizeOf, typeInfo, hi0, storeCells, goInt]
  | some ad =>
    obtain ⟨h3, h4⟩ := h1.put (o := o) (vs := l.map bv) (by rw [List.length_map]; exact hx)
    refine ⟨_, ?_, h3, h4⟩
    have hmin : Nat.min l.length m = l.length := Nat.min_eq_left hl
    have hr := run_copy_wide (P := Try.prog) w 24 24 ty 5 1 b o m cd ad l.length cap (l.map bv) Try.underlying24 size5 (by rw [List.length_map, hmin, Nat.mul_one]) (fun j u hj => by
        have hne : l ≠ [] := by intro e; subst e; simp at hj
        obtain ⟨b, o, e, _, hc⟩ := h.cell hne
        injection e with e
        subst e
        rw [add_at]
        rw [List.getElem?_map] at hj
        obtain ⟨x, hx, rfl⟩ := Option.map_eq_some_iff.1 hj
        exact hc j x hx) (fun j hj => by rw [List.length_map] at hj; rw [h1.cell (List.getElem?_eq_getElem (show o + j < xs.length by omega))]; rfl) (fun j _ => h1.frozen _) (bv_one _)
    rw [hmin] at hr
    simp only [CpR, Sem.run_bind, hr, Sem.run_pure, Result.andThen_ok, goInt]

set_option maxHeartbeats 4000000 in
theorem marked_any (m : Nat) (_hm : m < 18446744073709551616) (a : Option Addr) (cap : Nat) (l : List Nat) (w : World) (h : BytesP w a cap l) (hl : l.length ≤ 48) : Calls Try.prog 81 #[.int .u64 (m : Int), .slice a l.length cap] w (CellPost (markedC m l) w) := by
  have k0 := cell_block w zeroC
  have k1 := cell_block (w.alloc (.cells (arr zeroC) 90)) zeroC
  have hs1 : (w.alloc (.cells (arr zeroC) 90)).heap.size = w.heap.size + 1 := by simp
  rw [hs1] at k1
  have b1 := (Below.refl w.heap.size w).alloc (Nat.le_refl _) (.cells (arr zeroC) 90)
  have b2 := b1.alloc b1.size (.cells (arr zeroC) 90)
  have K0 := Lib.hid (k0.same (Below.heap_alloc (w.alloc (.cells (arr zeroC) 90)) (.cells (arr zeroC) 90) w.heap.size (by simp)))
  have K1 := Lib.hid k1
  have B2 := Lib.hid b2
  have HB := Lib.hid h
  have hcap := h.cap
  clear k0 k1 b1 b2 hs1 h
  go_enter Try.func81, Try.ntmps81
  go_wp2_with fail
  go_loopw [8] (fun i wr => ∃ (k : Nat), k ≤ 8 ∧ i = .int .i64 k ∧ Hid (RowAt wr (w.heap.size + 1) 90 ((partM m k).map bv)) ∧ Hid (RowAt wr w.heap.size 90 (zeroC.map bv)) ∧ Hid (Below w.heap.size w wr)) (fun i _ => 8 - (intOf i).toNat)
  case atStart => exact ⟨0, Nat.zero_le _, rfl, by rw [partM_zero]; exact K1, K0, B2⟩
  case round =>
    clear K0 K1 B2
    obtain ⟨k, hk, rfl, HR, HZ, HW⟩ := hrel
    by_cases hlt : k < 8
    · have hpl := partM_len m k
      obtain ⟨sh, hsh, hsh63, HSH⟩ : ∃ sh : Nat, 8 * (k : Int) = (sh : Int) ∧ sh ≤ 56 ∧ Hid (sh = 8 * k) := ⟨8 * k, by omega, by omega, rfl⟩
      have hmin : min sh 64 = sh := by omega
      obtain ⟨q, hq, HQ⟩ : ∃ q : Nat, (m : Int) / 2 ^ sh = (q : Int) ∧ Hid (q = m / 256 ^ k) := ⟨m / 2 ^ sh, by simp, by rw [HSH.out, pow_256]; rfl⟩
      obtain ⟨x, hx, HX⟩ : ∃ x : Nat, IntKind.u8.wrap (q : Int) = (x : Int) ∧ Hid (m / 256 ^ k % 256 = x) := ⟨q % 256, by rw [IntKind.wrap_u8]; omega, by rw [HQ.out]; rfl⟩
      obtain ⟨u, hu, hu2, HU⟩ : ∃ u : Nat, 56 + (k : Int) = (u : Int) ∧ u < 64 ∧ Hid (56 + k = u) := ⟨56 + k, by omega, by omega, rfl⟩
      have c0 := HR.out.cell (List.getElem?_eq_getElem (show k < ((partM m k).map bv).length by rw [List.length_map, hpl]; omega))
      have f0 := HR.out.frozen k
      have hr1 := HR.out.setCell (o := k) (bv x) (by rw [List.length_map, hpl]; omega)
      have c1 := hr1.cell (List.getElem?_eq_getElem (show u < (((partM m k).map bv).set k (bv x)).length by rw [List.length_set, List.length_map, hpl]; exact hu2))
      have f1 := hr1.frozen u
      have HR2 := Lib.hid (hr1.setCell (o := u) (bv x) (by rw [List.length_set, List.length_map, hpl]; exact hu2))
      rw [← List.map_set, ← List.map_set, ← HX.out, ← HU.out, partM_set m hlt, HX.out, HU.out] at HR2
      have HZ2 := Lib.hid ((HZ.out.same (heap_setCell_other wr ⟨w.heap.size + 1, k, none⟩ w.heap.size (bv x) (by simp))).same (heap_setCell_other _ ⟨w.heap.size + 1, u, none⟩ w.heap.size (bv x) (by simp)))
      have HW2 := Lib.hid ((HW.out.setCell (p := ⟨w.heap.size + 1, k, none⟩) (by simp) (bv x)).setCell (p := ⟨w.heap.size + 1, u, none⟩) (by simp) (bv x))
      generalize ((partM m k).map bv)[k]'(by rw [List.length_map, hpl]; omega) = old at c0
      generalize (((partM m k).map bv).set k (bv x))[u]'(by rw [List.length_set, List.length_map, hpl]; exact hu2) = old1 at c1
      clear hpl hr1
      go_wp2_with fail
      go_roundw
      case rel => exact ⟨k + 1, by omega, by go_num, HR2, HZ2, HW2⟩
      case measure => simp [intOf]; omega
    · have hk8 : k = 8 := by omega
      subst hk8
      have hpl := partM_len m 8
      obtain ⟨w3, s3, r3, u3⟩ := cp_bytes HR.out 8 48 56 (HB.out.below HW.out) hl (by rw [List.length_map, hpl]; omega) 3
      rw [partM_put m hl] at r3
      have hcl := markedC_is m hl HB.out.byte
      have hz3 := HZ.out.same (u3.block w.heap.size (by omega))
      have L3 := ld_block hcl.len r3
      obtain ⟨w4, s4, r4, u4⟩ := st_block zeroC_len hcl.len hz3
      have R4 := Lib.hid r4
      have B4 := Lib.hid ((HW.out.trans (u3.below (by omega))).trans (u4.below (Nat.le_refl _)))
      have HL := Lib.hid hcl.len
      generalize markedC m l = mc at *
      clear hpl hz3 r3 r4 u3 u4 HR HZ HW hcl
      go_wp2_with fail
      refine bodyPost_ret (results_cell_alone rfl _ _ w.heap.size _ rfl (ld_block ?_ R4.out)) rfl ?_
      · exact HL.out
      · exact ⟨rfl, B4.out⟩

end Go.Proofs.Ytipikkniookanaa
