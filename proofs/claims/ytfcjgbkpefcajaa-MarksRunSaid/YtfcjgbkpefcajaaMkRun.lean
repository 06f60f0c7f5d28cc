/- What the laws' raw and same answer; the document's marks beside the program's. -/
import Derived.Test.YtfcjgbkpefcajaaMkMine
import Derived.Test.YtfcjgbkpefcajaaMkRef5
import Derived.Deep.QuietTactic
import Derived.BigQuiet
namespace Go.Proofs.Ytfcjgbkpefcajaa
open Go.RowKit

attribute [local go_sem ↓] ld26 ld66 st26 st66 bx26 al26 al66 bd26 bd66 bs61 bs48 mk48 eq26 ap61 ap48 ap49 cp46 cp48
attribute [local go_sem] bx_agg al_cell al_wr bd_zero bd_one bd_two bd_nine

/-- A cell of any bytes, again and again. -/
def rawN (l : List Nat) (i : Nat) : Nat := if l.length = 0 then 0 else l.getD (i % l.length) 0
def rawP (l : List Nat) (k : Nat) : List Nat := (List.range 64).map fun i => if i < k then rawN l i else 0
def rawC (l : List Nat) : List Nat := rawP l 64

theorem rawP_len (l : List Nat) (k : Nat) : (rawP l k).length = 64 := by simp [rawP]
theorem rawP_get (l : List Nat) (k i : Nat) : (rawP l k)[i]? = if i < 64 then some (if i < k then rawN l i else 0) else none := by
  unfold rawP
  rw [List.getElem?_map]
  split
  · rename_i h
    rw [List.getElem?_range h]
    rfl
  · rename_i h
    rw [List.getElem?_eq_none (by simp; omega)]
    rfl
theorem rawP_zero (l : List Nat) : rawP l 0 = zeroC := by
  apply List.ext_getElem?
  intro i
  rw [rawP_get]
  unfold zeroC
  rw [List.getElem?_replicate]
  rfl
theorem rawP_set (l : List Nat) {k : Nat} (hk : k < 64) : (rawP l k).set k (rawN l k) = rawP l (k + 1) := by
  apply List.ext_getElem?
  intro i
  rw [List.getElem?_set, rawP_len, rawP_get, rawP_get]
  by_cases h1 : k = i
  · subst h1
    rw [if_pos rfl, if_pos hk, if_pos hk, if_pos (by omega)]
  · rw [if_neg h1]
    simp only [show (i < k + 1) ↔ (i < k) by omega]
theorem rawN_none {l : List Nat} (h : l.length = 0) (i : Nat) : rawN l i = 0 := by unfold rawN; rw [if_pos h]
theorem rawP_none {l : List Nat} (h : l.length = 0) (k : Nat) : rawP l k = zeroC := by
  apply List.ext_getElem?
  intro i
  rw [rawP_get]
  unfold zeroC
  rw [List.getElem?_replicate, rawN_none h]
  simp
theorem rawC_is {l : List Nat} (h : Bytes l) : IsCell (rawC l) := by
  refine ⟨rawP_len _ _, fun b hb => ?_⟩
  unfold rawC rawP at hb
  obtain ⟨i, hi, rfl⟩ := List.mem_map.1 hb
  rw [if_pos (List.mem_range.1 hi)]
  unfold rawN
  split
  · decide
  · rename_i h0
    have : i % l.length < l.length := Nat.mod_lt _ (by omega)
    rw [List.getD_eq_getElem?_getD, List.getElem?_eq_getElem this]
    exact h _ (List.getElem_mem this)

set_option maxHeartbeats 4000000 in
theorem raw_any (a : Option Addr) (cap : Nat) (l : List Nat) (w : World) (h : BytesP w a cap l) (hl : l.length ≤ 100000) : Calls Try.prog 20 #[.slice a l.length cap] w (CellPost (rawC l) w) := by
  have k0 := cell_block w zeroC
  have hs1 : (w.alloc (.cells (arr zeroC) 47)).heap.size = w.heap.size + 1 := by simp
  obtain ⟨w2, s2, r2, b2, z2⟩ := local_cell (w := w.alloc (.cells (arr zeroC) 47)) zeroC_is
  rw [hs1] at s2 r2 b2
  have b1 := (Below.refl w.heap.size w).alloc (Nat.le_refl _) (.cells (arr zeroC) 47)
  have K0 := Lib.hid (k0.same (b2.block w.heap.size (by omega)))
  have K1 := Lib.hid r2
  have B2 := Lib.hid (b1.trans (b2.mono (by omega)))
  have HB := Lib.hid h
  have hcap := h.cap
  have HCI := Lib.hid (rawC_is h.byte)
  clear k0 r2 b1 b2 h z2 hs1
  go_enter Try.func20, Try.ntmps20
  go_wp2_with fail
  go_loopw [6] (fun i wr => ∃ (k : Nat), k ≤ 64 ∧ i = .int .i64 k ∧ Hid (RowAt wr (w.heap.size + 1) 47 ((rawP l k).map bv)) ∧ Hid (RowAt wr w.heap.size 47 (zeroC.map bv)) ∧ Hid (Below w.heap.size w wr)) (fun i _ => 64 - (intOf i).toNat)
  case atStart => exact ⟨0, Nat.zero_le _, rfl, by rw [rawP_zero]; exact K1, K0, B2⟩
  case round =>
    clear K0 K1 B2 s2
    obtain ⟨k, hk, rfl, HR, HZ, HW⟩ := hrel
    by_cases hlt : k < 64
    · by_cases hl0 : 0 < l.length
      case neg =>
        have h0 : l.length = 0 := by omega
        have HR2 := Lib.hid HR.out
        rw [rawP_none h0, ← rawP_none h0 (k + 1)] at HR2
        generalize l.length = ln at *
        subst h0
        clear hl0
        go_wp2_with fail
        go_roundw
        case rel => exact ⟨k + 1, by omega, by go_num, HR2, HZ, HW⟩
        case measure => simp [intOf]; omega
      case pos =>
        have hpl := rawP_len l k
        obtain ⟨q, hq, hql, HQ⟩ : ∃ q : Nat, (k : Int) % (l.length : Int) = (q : Int) ∧ q < l.length ∧ Hid (q = k % l.length) := ⟨k % l.length, by simp, Nat.mod_lt _ hl0, rfl⟩
        obtain ⟨b0, o0, rfl, hb0, hc0⟩ := HB.out.cell (by intro e; subst e; simp at hl0)
        have g1 := (HW.out.cell (p := ⟨b0, o0 + q, none⟩) hb0).trans (hc0 q _ (List.getElem?_eq_getElem hql))
        have HX := Lib.hid (show rawN l k = l[q] by
          unfold rawN
          rw [if_neg (by omega), ← HQ.out, List.getD_eq_getElem?_getD, List.getElem?_eq_getElem hql]
          rfl)
        generalize l[q] = x at *
        have c1 := HR.out.cell (List.getElem?_eq_getElem (show k < ((rawP l k).map bv).length by rw [List.length_map, hpl]; exact hlt))
        have f1 := HR.out.frozen k
        have HR2 := Lib.hid (HR.out.setCell (o := k) (bv x) (by rw [List.length_map, hpl]; exact hlt))
        rw [← List.map_set, ← HX.out, rawP_set l hlt, HX.out] at HR2
        have HZ2 := Lib.hid (HZ.out.same (heap_setCell_other wr ⟨w.heap.size + 1, k, none⟩ w.heap.size (bv x) (by simp)))
        have HW2 := Lib.hid (HW.out.setCell (p := ⟨w.heap.size + 1, k, none⟩) (by simp) (bv x))
        generalize ((rawP l k).map bv)[k]'(by rw [List.length_map, hpl]; exact hlt) = old1 at c1
        have hl0' : ((l.length : Int) == 0) = false := by rw [beq_eq_false_iff_ne]; omega
        clear hpl hc0
        go_wp2_with fail
        go_roundw
        case rel => exact ⟨k + 1, by omega, by go_num, HR2, HZ2, HW2⟩
        case measure => simp [intOf]; omega
    · have hk64 : k = 64 := by omega
      subst hk64
      have hr8 : RowAt wr (w.heap.size + 1) 47 ((rawC l).map bv) := HR.out
      have hcl := HCI.out
      have L3 := ld_block hcl.len hr8
      obtain ⟨w4, s4, r4, u4⟩ := st_block zeroC_len hcl.len HZ.out
      have R4 := Lib.hid r4
      have B4 := Lib.hid (HW.out.trans (u4.below (Nat.le_refl _)))
      have HL := Lib.hid hcl.len
      generalize rawC l = mc at *
      clear hr8 r4 u4 HR HZ HW hcl HCI
      go_wp2_with fail
      refine bodyPost_ret (results_cell_alone rfl _ _ w.heap.size _ rfl (ld_block ?_ R4.out)) rfl ?_
      · exact HL.out
      · exact ⟨rfl, B4.out⟩

set_option maxHeartbeats 4000000 in
theorem same_any (a b : Option Addr) (ca cb : Nat) (ls : List (List Nat)) (w : World) (h1 : LLP w a ca ls) (h2 : SSP w b cb ls) : Calls Try.prog 26 #[.slice a ls.length ca, .slice b ls.length cb] w (BoolB true w) := by
  have H1 := Lib.hid h1
  have H2 := Lib.hid h2
  have hn := h1.len
  have hc1 := h1.cap
  have hc2 := h2.cap
  clear h1 h2
  go_enter Try.func26, Try.ntmps26
  go_wp2_with fail
  go_loopw [13] (fun i wr => ∃ (k : Nat), k ≤ ls.length ∧ i = .int .i64 k ∧ Hid (Below w.heap.size w wr)) (fun i _ => ls.length - (intOf i).toNat)
  case atStart => exact ⟨0, Nat.zero_le _, rfl, Lib.hid (Below.refl _ _)⟩
  case round =>
    obtain ⟨k, hk, rfl, HW⟩ := hrel
    by_cases hlt : k < ls.length
    · have hne : ls ≠ [] := by intro e; subst e; simp at hlt
      obtain ⟨b1, o1, rfl, q1, r1⟩ := (H1.out.below HW.out).cell hne
      obtain ⟨b2, o2, rfl, q2, r2⟩ := (H2.out.below HW.out).cell hne
      obtain ⟨a', c', g1, gB⟩ := r1 k _ (List.getElem?_eq_getElem hlt)
      have g2 := r2 k _ (List.getElem?_eq_getElem hlt)
      have RT := fun n => run_text (w := wr.drewN n) (gB.below ⟨rfl, rfl, rfl, Nat.le_refl _, fun _ _ => rfl⟩)
      have PN := Lib.hid (fun n => show Below w.heap.size w (wr.drewN n) from ⟨HW.out.os, HW.out.tape, HW.out.output, HW.out.size, HW.out.block⟩)
      generalize strB ls[k] = tx at *
      generalize ls[k].length = nx at *
      clear r1 r2 gB hne HW
      go_wp2_with fail
      go_quiet (fail)
      go_wp2_with fail
      go_roundw
      case rel => exact ⟨k + 1, by omega, by go_num, Lib.hid (PN.out _)⟩
      case measure => simp [intOf]; omega
    · go_wp2_with fail
      go_ret
      exact ⟨rfl, HW.out⟩

section
variable {w0 w : World} {A : World → (Nat → Prop) → Prop} {L : Nat → Prop} {g : Nat} {r : Rf}

theorem Pair.refMput (sA : Stays A) (h : Pair w0 w A (atRf g r) L) (side : Int) (round : Nat) (at_ : Int) (a : Option Addr) (cap : Nat) (l : List Nat) (hB : BytesP w a cap l) (hla : r.ats.length < 100000) (hlw : r.what.length < 100000) :
    Calls Try.prog 12 #[ptr g, .int .i64 side, .int .u64 (round : Int), .int .i64 at_, .slice a l.length cap] w (fun e w' => e = .returned (.int .i64 (r.mput side round at_ l).1) ∧ Pair w0 w' A (atRf g (r.mput side round at_ l).2) L ∧ ∀ k, L k → w'.heap[k]? = w.heap[k]?) :=
  h.second sA fun _ ⟨_, _, _, _, h1⟩ => refMput_any h1 side round at_ a cap l hB hla hlw
theorem Pair.refMread (h : Pair w0 w A (atRf g r) L) (side : Int) : Calls Try.prog 25 #[ptr g, .int .i64 side] w (RReadPost (readL r.seen side) w) := h.swap.read fun _ ⟨_, _, _, _, h1⟩ => refRead_any h1 side
theorem Pair.refMtop (h : Pair w0 w A (atRf g r) L) : Calls Try.prog 24 #[ptr g] w (NumB (topL r.seen) w) := h.swap.read fun _ ⟨_, _, _, _, h1⟩ => refTop_any h1
theorem Pair.refMroom (h : Pair w0 w A (atRf g r) L) : Calls Try.prog 23 #[ptr g] w (Same (.int .i64 ((r.seen.length / 2 : Nat) : Int)) w) := h.swap.read fun _ ⟨_, _, _, _, h1⟩ => refRoom_any h1
end

theorem Rel.mput {r : Rf} {P : Pl} (h : Rel r P) (hg : P.Good) (side : Int) (round : Nat) (at_ : Int) (l : List Nat) : (r.mput side round at_ l).1 = (P.mput side round at_ l).1 ∧ Rel (r.mput side round at_ l).2 (P.mput side round at_ l).2 := by
  have e : r.seen.length = P.sure.length := by rw [h.seen, hg.size]
  unfold Rf.mput Pl.mput
  rw [e]
  split
  · exact h.put hg _ _
  · exact ⟨rfl, h⟩

theorem put_few (P : Pl) (i : Int) (c : List Nat) : (P.put i c).2.loose.length ≤ P.loose.length + 1 := by
  unfold Pl.put
  rcases P.spend_cases with ⟨e1, _, _, e⟩ | ⟨e1, e⟩
  · rw [e1]
    cases P.has i <;> simp
  · rw [e1, e]
    cases P.has i <;> simp
theorem flush_few (P : Pl) : P.flush.2.loose.length ≤ P.loose.length := by
  unfold Pl.flush
  rcases P.spend_cases with ⟨e1, _, _, e⟩ | ⟨e1, e⟩
  · rw [e1]; simp
  · rw [e1, e]; simp
theorem mput_few (P : Pl) (side : Int) (round : Nat) (at_ : Int) (l : List Nat) : (P.mput side round at_ l).2.loose.length ≤ P.loose.length + 1 := by
  unfold Pl.mput
  split
  · exact put_few P _ _
  · simp

end Go.Proofs.Ytfcjgbkpefcajaa
