/- What the laws' own cell answers. -/
import Derived.Test.YtnnikgchffkalaaGet
namespace Go.Proofs.Ytnnikgchffkalaa
open Go.RowKit

attribute [local go_sem ↓] ld26 ld66 st26 st66 bx26 al26 al66 bd26 bd66 bs61 bs48 mk48 eq26 ap61 ap48 ap49 cp46 cp48
attribute [local go_sem] bx_agg al_cell al_wr bd_zero bd_one bd_two bd_nine

theorem putL_one {cur : List Value} {o : Nat} (v : Value) (ho : o < cur.length) : putL cur o [v] = cur.set o v := by
  rw [← putL_step v [] ho]
  simp [putL]

theorem RowAt.setCell {w : World} {b : Nat} {T : TypeId} {xs : List Value} (h : RowAt w b T xs) {o : Nat} (v : Value) (ho : o < xs.length) : RowAt (w.setCell ⟨b, o, none⟩ v) b T (xs.set o v) := by
  have := (h.put (o := o) (vs := [v]) (by simp; omega)).1
  rwa [putL_one v ho] at this

/-- The first k bytes are v. -/
def partC (v k : Nat) : List Nat := List.replicate k v ++ List.replicate (64 - k) 0

theorem partC_len (v : Nat) {k : Nat} (hk : k ≤ 64) : (partC v k).length = 64 := by simp [partC]; omega
theorem partC_zero (v : Nat) : partC v 0 = zeroC := by simp [partC, zeroC]
theorem partC_set (v : Nat) {k : Nat} (hk : k < 64) : (partC v k).set k v = partC v (k + 1) := by
  unfold partC
  rw [List.set_append_right _ _ (by simp), List.length_replicate, Nat.sub_self, show 64 - k = (64 - (k + 1)) + 1 by omega, List.replicate_succ, List.set_cons_zero, List.replicate_succ']
  simp
theorem partC_all (v : Nat) : (partC v 64).set 0 ((v + 1) % 256) = cellV v := by
  simp [partC, cellV, List.replicate_succ]

/-- A cell is answered; all that was there stays. -/
def CellPost (c : List Nat) (w : World) (e : Ending) (w' : World) : Prop := e = .returned (.agg (arr c)) ∧ Below w.heap.size w w'

theorem results_cell_alone {fn : Func} {p : Tmp} {ty : TypeId} (h : fn.results = #[.cell p ty]) (tmps : Array Value) (w : World) (g : Nat) (v : Value)
    (hp : tmps.getD p undef = .pointer (some ⟨g, 0, none⟩)) (hl : LdR ty (.pointer (some ⟨g, 0, none⟩)) w = .ok (.value v) w) :
    (results fn tmps).run Try.prog w = .ok v w := by
  have hp' : tmps[p]?.getD undef = .pointer (some ⟨g, 0, none⟩) := by simpa using hp
  simp [results, h, hp', asAddr, loadVar_of hl]

set_option maxHeartbeats 4000000 in
theorem cell_any (v : Nat) (hv : v < 256) (w : World) : Calls Try.prog 17 #[.int .u8 (v : Int)] w (CellPost (cellV v) w) := by
  have k0 := cell_block w zeroC
  have k1 := cell_block (w.alloc (.cells (arr zeroC) 26)) zeroC
  have hs1 : (w.alloc (.cells (arr zeroC) 26)).heap.size = w.heap.size + 1 := by simp
  rw [hs1] at k1
  have b1 := (Below.refl w.heap.size w).alloc (Nat.le_refl _) (.cells (arr zeroC) 26)
  have b2 := b1.alloc b1.size (.cells (arr zeroC) 26)
  obtain ⟨w3, s3, r3, u3⟩ := st_block zeroC_len zeroC_len k1
  have K0 := Lib.hid ((k0.same (Below.heap_alloc (w.alloc (.cells (arr zeroC) 26)) (.cells (arr zeroC) 26) w.heap.size (by simp))).same (u3.block w.heap.size (by omega)))
  have R3 := Lib.hid r3
  have B3 := Lib.hid (b2.trans (u3.below (by omega)))
  obtain ⟨y, hwz, HY⟩ : ∃ y : Nat, IntKind.u8.wrap ((v : Int) + 1) = (y : Int) ∧ Hid ((v + 1) % 256 = y) := ⟨(v + 1) % 256, by rw [IntKind.wrap_u8']; omega, rfl⟩
  clear k0 k1 b1 b2 r3 u3 hs1
  go_enter Try.func17, Try.ntmps17
  go_wp2_with fail
  go_loopw [6] (fun i wr => ∃ (k : Nat), k ≤ 64 ∧ i = .int .i64 k ∧ Hid (RowAt wr (w.heap.size + 1) 26 ((partC v k).map bv)) ∧ Hid (RowAt wr w.heap.size 26 (zeroC.map bv)) ∧ Hid (Below w.heap.size w wr)) (fun i _ => 64 - (intOf i).toNat)
  case atStart => exact ⟨0, Nat.zero_le _, rfl, by rw [partC_zero]; exact R3, K0, B3⟩
  case round =>
    clear K0 R3 B3
    obtain ⟨k, hk, rfl, HR, HZ, HB⟩ := hrel
    by_cases hlt : k < 64
    · have hl := partC_len v hk
      have c0 := HR.out.cell (List.getElem?_eq_getElem (show k < ((partC v k).map bv).length by rw [List.length_map, hl]; exact hlt))
      have f0 := HR.out.frozen k
      have HR2 := Lib.hid (HR.out.setCell (o := k) (bv v) (by rw [List.length_map, hl]; exact hlt))
      rw [← List.map_set, partC_set v hlt] at HR2
      have HZ2 := Lib.hid (HZ.out.same (heap_setCell_other wr ⟨w.heap.size + 1, k, none⟩ w.heap.size (bv v) (by simp)))
      have HB2 := Lib.hid (HB.out.setCell (p := ⟨w.heap.size + 1, k, none⟩) (by simp) (bv v))
      generalize ((partC v k).map bv)[k]'(by rw [List.length_map, hl]; exact hlt) = old at c0
      clear hl
      go_wp2_with fail
      go_roundw
      case rel => exact ⟨k + 1, by omega, by go_num, HR2, HZ2, HB2⟩
      case measure => simp [intOf]; omega
    · have hk64 : k = 64 := by omega
      subst hk64
      have hl := partC_len v (Nat.le_refl 64)
      have c0 := HR.out.cell (List.getElem?_eq_getElem (show 0 < ((partC v 64).map bv).length by rw [List.length_map, hl]; omega))
      have f0 := HR.out.frozen 0
      have hr2 := HR.out.setCell (o := 0) (bv y) (by rw [List.length_map, hl]; omega)
      rw [← List.map_set, ← HY.out, partC_all, HY.out] at hr2
      have hz2 := HZ.out.same (heap_setCell_other wr ⟨w.heap.size + 1, 0, none⟩ w.heap.size (bv y) (by simp))
      have hb2 := HB.out.setCell (p := ⟨w.heap.size + 1, 0, none⟩) (by simp) (bv y)
      have L2 := ld_block (cellV_is hv).len hr2
      obtain ⟨w4, s4, r4, u4⟩ := st_block zeroC_len (cellV_is hv).len hz2
      have R4 := Lib.hid r4
      have B4 := Lib.hid (hb2.trans (u4.below (Nat.le_refl _)))
      generalize ((partC v 64).map bv)[0]'(by rw [List.length_map, hl]; omega) = old at c0
      clear hl hr2 hz2 hb2 r4 u4 HR HZ HB
      have HL := Lib.hid (cellV_is hv).len
      generalize cellV v = cv at *
      go_wp2_with fail
      refine bodyPost_ret (results_cell_alone rfl _ _ w.heap.size _ rfl (ld_block ?_ R4.out)) rfl ?_
      · exact HL.out
      · exact ⟨rfl, B4.out⟩

end Go.Proofs.Ytnnikgchffkalaa
