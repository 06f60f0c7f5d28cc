/- What Open of package reel answers; a reel beside another thing; the chapter's example; a tale and its words in memory of the law's own. -/
import Derived.Test.YtipikkniookanaaRlObj
import Derived.Test.YtipikkniookanaaMgHold
import Derived.Test.YtipikkniookanaaTexts
import Derived.Deep.QuietTactic
import Derived.BigQuiet
namespace Go.Proofs.Ytipikkniookanaa

/- RlOpen: What Open of package reel answers. -/
section
set_option maxRecDepth 100000
open Go.RowKit

/-- What is told behind so many sides. -/
def toldK (s : List (List Nat)) (k : Nat) : Nat × Nat × List (List Nat) := if k = 0 then (1, 0, []) else if k = 1 then told0 s else toldL s
theorem toldK_zero (s : List (List Nat)) : toldK s 0 = (1, 0, []) := rfl
theorem toldK_two (s : List (List Nat)) : toldK s 2 = toldL s := rfl
theorem toldK_step (s : List (List Nat)) (k : Nat) (hk : k < 2) : toldK s (k + 1) = if 0 < (rowOf s (k : Int)).2.1.length ∧ (toldK s k).2.1 < (rowOf s (k : Int)).1 then (k, (rowOf s (k : Int)).1, (rowOf s (k : Int)).2.1) else toldK s k := by
  have h : ∀ l : List (List Nat), l ≠ [] ↔ 0 < l.length := fun l => by cases l <;> simp
  match k, hk with
  | 0, _ => show told0 s = _; unfold told0; simp only [h]; rfl
  | 1, _ => show toldL s = _; unfold toldL; simp only [h]; rfl

theorem told_le {s : List (List Nat)} (h : Cells s) : (toldL s).2.2.length ≤ s.length ∧ ∀ x ∈ (toldL s).2.2, Word x := by
  obtain ⟨_, h1, h2⟩ := rowOf_le h 0
  obtain ⟨_, h3, h4⟩ := rowOf_le h 1
  unfold toldL
  split
  · exact ⟨by simp only; omega, h4⟩
  · unfold told0
    split
    · exact ⟨by simp only; omega, h2⟩
    · exact ⟨by simp, fun x hx => by simp at hx⟩

theorem LLP.head {w : World} {a : Option Addr} {c : Nat} {l : List Nat} {ls : List (List Nat)} (h : LLP w a c (l :: ls)) : ∃ b o a' c', a = some ⟨b, o, none⟩ ∧ w.cell? ⟨b, o, none⟩ = some (.slice a' l.length c') ∧ BytesP w a' c' l := by
  obtain ⟨b, o, rfl, h1, h2⟩ := h.cell (by simp)
  obtain ⟨a', c', h3, h4⟩ := h2 0 l rfl
  exact ⟨b, o, a', c', rfl, h3, h4⟩
theorem slice_ll {a : Option Addr} {n c : Nat} (_hc : n ≤ c) (k : Nat) (hk : k ≤ n) (W : World) : (Instr.slice 25 (.slice a n c) (some (.int .i64 (k : Int))) none none).run Try.prog W = .ok (.slice (if c = k then a else a.map (·.add k)) (n - k) (c - k)) W := by
  obtain ⟨i0, hi0, hz0, hzs, hzb⟩ := info_parts infoB
  have hz : (Go.sizeOf 24).run Try.prog W = .ok 1 W := by simp [Go.sizeOf, typeInfo, hi0, hzs]
  have h0 : ¬ ((k : Int) < 0) := by omega
  simp [Instr.slice, run_underlying Try.underlying25, Instr.sliceBounds, run_sliceBound, hk]
theorem LLP.tail {w : World} {b o c : Nat} {l : List Nat} {ls : List (List Nat)} (h : LLP w (some ⟨b, o, none⟩) c (l :: ls)) :
    ∃ a' c', (∀ W, (Instr.slice 25 (.slice (some ⟨b, o, none⟩) (ls.length + 1) c) (some (.int .i64 1)) none none).run Try.prog W = .ok (.slice a' ls.length c') W) ∧ ∀ W, LLP W (some ⟨b, o, none⟩) c (l :: ls) → LLP W a' c' ls := by
  have hc := h.cap
  have hl := h.len
  simp only [List.length_cons] at hc hl
  obtain ⟨i0, hi0, hz0, hzs, hzb⟩ := info_parts infoB
  refine ⟨if c = 1 then some ⟨b, o, none⟩ else some ⟨b, o + 1, none⟩, c - 1, fun W => ?_, fun W hW => ⟨by omega, by omega, fun hne => ?_⟩⟩
  · have h3 := slice_ll (a := some ⟨b, o, none⟩) (n := ls.length + 1) (c := c) hc 1 (by omega) W
    have e : (if c = 1 then (some ⟨b, o, none⟩ : Option Addr) else (some ⟨b, o, none⟩ : Option Addr).map (·.add 1)) = if c = 1 then some ⟨b, o, none⟩ else some ⟨b, o + 1, none⟩ := by rw [Option.map_some, Addr.add_lit]
    rw [e] at h3
    exact h3
  · have h2 : c ≠ 1 := by
      have := List.length_pos_iff.2 hne
      omega
    obtain ⟨b', o', e, h3, h4⟩ := hW.cell (by simp)
    injection e with e
    injection e with e1 e2
    subst e1 e2
    rw [if_neg h2]
    refine ⟨_, _, rfl, h3, fun j m hj => ?_⟩
    obtain ⟨a', c', h5, h6⟩ := h4 (j + 1) m (by simpa using hj)
    exact ⟨a', c', by rw [show o + 1 + j = o + (j + 1) by omega]; exact h5, h6⟩

/-- A reel that isn't ready, a tale and words; all that was there stays. -/
def OpenRPost (g : Nat) (t : Nat × Nat × List (List Nat)) (w : World) (e : Ending) (w' : World) : Prop :=
  ∃ b ta tc wa wc, e = .returned (.tuple #[ptr b, .slice ta (t.2.2.headD []).length tc, .slice wa t.2.2.tail.length wc]) ∧ w.heap.size ≤ b ∧ RlV w' b g t.1 false ∧ BytesP w' ta tc (t.2.2.headD []) ∧ LLP w' wa wc t.2.2.tail ∧ Below w.heap.size w w'

/-- The same, in memory that is the caller's own. -/
def OpenRMore (g : Nat) (t : Nat × Nat × List (List Nat)) (w : World) (e : Ending) (w' : World) : Prop :=
  ∃ b ta tc wa wc, e = .returned (.tuple #[ptr b, .slice ta (t.2.2.headD []).length tc, .slice wa t.2.2.tail.length wc]) ∧ w.heap.size ≤ b ∧ RlV w' b g t.1 false ∧ BytesP w' ta tc (t.2.2.headD []) ∧ LLP w' wa wc t.2.2.tail ∧ Below w.heap.size w w' ∧ ∀ W, w'.heap.size ≤ W.heap.size → (∀ k, w.heap.size ≤ k → k < w'.heap.size → W.heap[k]? = w'.heap[k]?) → BytesP W ta tc (t.2.2.headD []) ∧ LLP W wa wc t.2.2.tail

set_option maxHeartbeats 4000000 in
theorem ropen_more {w : World} {R : Nat → Prop} {g bs bl : Nat} {lv : Value} {P : Pl} (h : PlM w R g bs bl lv P) : Calls Try.prog 10 #[ptr g] w (OpenRMore g (toldL P.last) w) := by
  have HP := Lib.hid h
  have HCL := Lib.hid h.good.cl
  have hmm := h.good.most
  have hsz := h.good.size
  have hll : P.last.length ≤ 4096 := by omega
  clear h hmm hsz
  obtain ⟨W0, hW0⟩ : ∃ W0, (w.alloc (.cells #[ptr g, .int .i64 1, .bool false] 62)).alloc (.cells #[.int .u64 0, .int .i64 0, .slice none 0 0] 64) = W0 := ⟨_, rfl⟩
  have hz0 : W0.heap.size = w.heap.size + 2 := by rw [← hW0]; simp
  have b0 : Below w.heap.size w W0 := by rw [← hW0]; exact ((Below.refl w.heap.size w).alloc (Nat.le_refl _) _).alloc (by simp) _
  have v0 : RlV W0 w.heap.size g 1 false := by rw [← hW0]; unfold RlV; rw [Below.heap_alloc _ _ _ (by simp)]; exact heap_alloc_new w _
  have r0 : RowV W0 (w.heap.size + 1) (.int .u64 0) (.int .i64 0) (.slice none 0 0) := by rw [← hW0]; exact alloc_at (by simp)
  have HW0 := Lib.hid hW0
  have B0 := Lib.hid b0
  have V0 := Lib.hid v0
  have R0 := Lib.hid r0
  clear hW0 b0 v0 r0
  go_enter Try.func10, Try.ntmps10
  go_wp2_with fail
  rw [HW0.out]
  go_loopw [13] (fun i wr => ∃ (k : Nat) (y : Value) (a : Option Addr) (c : Nat), i = .int .i64 (k : Int) ∧ k ≤ 2 ∧ Hid (RlV wr w.heap.size g (toldK P.last k).1 false) ∧ Hid (RowV wr (w.heap.size + 1) (.int .u64 ((toldK P.last k).2.1 : Int)) y (.slice a (toldK P.last k).2.2.length c)) ∧ Hid (y.oneCell' = true) ∧ Hid (OwnG wr (w.heap.size + 2) (.slice a (toldK P.last k).2.2.length c) (toldK P.last k).2.2) ∧ Hid (Below w.heap.size w wr) ∧ w.heap.size + 2 ≤ wr.heap.size) (fun i _ => 2 - (intOf i).toNat)
  case atStart => exact ⟨0, .int .i64 0, none, 0, rfl, by omega, V0, R0, Lib.hid rfl, Lib.hid (ownG_nil _ _), B0, by omega⟩
  case round =>
    obtain ⟨k, y, a, c, rfl, hk, HV, HR, HY, HO, HB, hsz⟩ := hrel
    by_cases hlt : k < 2
    · have CR := Lib.hid (rowOn_any (HP.out.below HB.out) (k : Int))
      have HS := Lib.hid (toldK_step P.last k hlt)
      have HRL := Lib.hid (rowOf_le HCL.out (k : Int))
      obtain ⟨rd, ls, q, hrw⟩ : ∃ rd ls q, rowOf P.last (k : Int) = (rd, ls, q) := ⟨_, _, _, rfl⟩
      rw [hrw] at CR HS HRL
      dsimp only at HS HRL
      clear hrw
      obtain ⟨sd, pr, bo, htk⟩ : ∃ sd pr bo, toldK P.last k = (sd, pr, bo) := ⟨_, _, _, rfl⟩
      rw [htk] at HV HR HO HS
      dsimp only at HV HR HO HS
      clear htk
      go_wp2_with fail
      refine CR.out.mono ?_
      rintro e w1 ⟨a1, c1, rfl, o1, b1⟩
      have bx := (Below.refl w1.heap.size w1).alloc (Nat.le_refl _) (.cells #[.int .u64 (rd : Int), .int .i64 (q : Int), .slice a1 ls.length c1] 64)
      have vx := RowV.new w1 (.int .u64 (rd : Int)) (.int .i64 (q : Int)) (.slice a1 ls.length c1)
      have bb := b1.trans (bx.mono b1.size)
      have CW := Lib.hid (whole_any (.int .u64 (rd : Int)) (.int .i64 (q : Int)) a1 ls.length c1 (w1.alloc (.cells #[.int .u64 (rd : Int), .int .i64 (q : Int), .slice a1 ls.length c1] 64)))
      have VX := Lib.hid vx
      have BX := Lib.hid bb
      have OX := Lib.hid ((o1.base (base' := w.heap.size + 2) hsz).below bx)
      have HW1 := Lib.hid b1.size
      clear bx vx bb b1 o1
      go_wp2_with fail
      refine CW.out.mono ?_
      rintro e w2 ⟨rfl, b2⟩
      have hb2 := BX.out.trans (b2.mono BX.out.size)
      have V2 := VX.out.same (b2.block _ VX.out.lt)
      have VL := HR.out.same (hb2.block _ HR.out.lt)
      have VR := HV.out.same (hb2.block _ HV.out.lt)
      obtain ⟨x0, x1, x2, _⟩ := V2.cells
      obtain ⟨l0, l1, l2, y0, y1, y2⟩ := VL.cells
      obtain ⟨_, s1, _, t1, _⟩ := VR.cells
      have O2 := Lib.hid (OX.out.below b2)
      have OL := Lib.hid (HO.out.below hb2)
      have HBW := Lib.hid (HB.out.trans (hb2.mono HB.out.size))
      have hsz2 : w.heap.size + 2 ≤ w2.heap.size := Nat.le_trans hsz hb2.size
      have V2H := Lib.hid V2
      have hw1 := Lib.hid (show w.heap.size + 2 ≤ w1.heap.size from Nat.le_trans hsz HW1.out)
      have HVL := Lib.hid VL
      have HVR := Lib.hid VR
      clear V2 VX OX BX b2 VL VR HO HR HV hb2 CR CW
      by_cases h0 : 0 < ls.length
      · by_cases h1 : pr < rd
        · have E := Lib.hid (show toldK P.last (k + 1) = (k, rd, ls) by rw [HS.out, if_pos ⟨h0, h1⟩])
          have hV5 := (HVR.out.set1 k)
          have hL5 := (((HVL.out.same (heap_setCell_other w2 ⟨w.heap.size, 1, none⟩ (w.heap.size + 1) (.int .i64 (k : Int)) (by simp))).set0 (.int .u64 (rd : Int))).set1 (.int .i64 (q : Int))).set2 (.slice a1 ls.length c1)
          have hV6 := hV5.same (w' := (((w2.setCell ⟨w.heap.size, 1, none⟩ (.int .i64 (k : Int))).setCell ⟨w.heap.size + 1, 0, none⟩ (.int .u64 (rd : Int))).setCell ⟨w.heap.size + 1, 1, none⟩ (.int .i64 (q : Int))).setCell ⟨w.heap.size + 1, 2, none⟩ (.slice a1 ls.length c1)) (by
            rw [heap_setCell_other _ _ _ _ (by simp), heap_setCell_other _ _ _ _ (by simp), heap_setCell_other _ _ _ _ (by simp)])
          have hO5 := O2.out.keep (w' := (((w2.setCell ⟨w.heap.size, 1, none⟩ (.int .i64 (k : Int))).setCell ⟨w.heap.size + 1, 0, none⟩ (.int .u64 (rd : Int))).setCell ⟨w.heap.size + 1, 1, none⟩ (.int .i64 (q : Int))).setCell ⟨w.heap.size + 1, 2, none⟩ (.slice a1 ls.length c1)) (by simp [World.setCell]) (fun j hj _ => by
            rw [heap_setCell_other _ _ _ _ (by simp; omega), heap_setCell_other _ _ _ _ (by simp; omega), heap_setCell_other _ _ _ _ (by simp; omega), heap_setCell_other _ _ _ _ (by simp; omega)])
          have hB5 := (((HBW.out.setCell (p := ⟨w.heap.size, 1, none⟩) (Nat.le_refl _) (.int .i64 (k : Int))).setCell (p := ⟨w.heap.size + 1, 0, none⟩) (by simp) (.int .u64 (rd : Int))).setCell (p := ⟨w.heap.size + 1, 1, none⟩) (by simp) (.int .i64 (q : Int))).setCell (p := ⟨w.heap.size + 1, 2, none⟩) (by simp) (.slice a1 ls.length c1)
          have HV6 := Lib.hid hV6
          have HL5 := Lib.hid hL5
          have HO5 := Lib.hid hO5
          have HB5 := Lib.hid hB5
          have t0 : decide (0 < ls.length) = true := by simpa using h0
          rw [t0]
          have hS5 := Lib.hid (show (((w2.setCell ⟨w.heap.size, 1, none⟩ (.int .i64 (k : Int))).setCell ⟨w.heap.size + 1, 0, none⟩ (.int .u64 (rd : Int))).setCell ⟨w.heap.size + 1, 1, none⟩ (.int .i64 (q : Int))).heap.size = w2.heap.size by simp [World.setCell])
          obtain ⟨d0, d1, d2, _⟩ := (V2H.out.same (heap_setCell_other w2 ⟨w.heap.size, 1, none⟩ w1.heap.size (.int .i64 (k : Int)) (by simp; have := hw1.out; omega))).cells
          clear hV5 hL5 hV6 hO5 hB5
          go_wp2_with fail
          go_region
          all_goals
            go_wp2_with fail
            go_roundw
            case rel => exact ⟨k + 1, .int .i64 (q : Int), a1, c1, by go_num, by omega, by rw [E.out]; exact HV6, by rw [E.out]; exact HL5, Lib.hid rfl, by rw [E.out]; exact Lib.hid (HO5.out.below (Below.refl _ _).drew), Lib.hid HB5.out.drew, by simpa [World.setCell, World.drew] using hsz2⟩
            case measure => simp [intOf]; omega
        · have E := Lib.hid (show toldK P.last (k + 1) = (sd, pr, bo) by rw [HS.out, if_neg (fun h => h1 h.2)])
          have t0 : decide (0 < ls.length) = true := by simpa using h0
          rw [t0]
          go_wp2_with fail
          go_roundw
          case rel => exact ⟨k + 1, y, a, c, by go_num, by omega, by rw [E.out]; exact HVR, by rw [E.out]; exact HVL, HY, by rw [E.out]; exact OL, HBW, hsz2⟩
          case measure => simp [intOf]; omega
      · have E := Lib.hid (show toldK P.last (k + 1) = (sd, pr, bo) by rw [HS.out, if_neg (fun h => h0 h.1)])
        have t0 : decide (0 < ls.length) = false := by simpa using h0
        rw [t0]
        go_wp2_with fail
        go_roundw
        case rel => exact ⟨k + 1, y, a, c, by go_num, by omega, by rw [E.out]; exact HVR, by rw [E.out]; exact HVL, HY, by rw [E.out]; exact OL, HBW, hsz2⟩
        case measure => simp [intOf]; omega
    · have hk2 : k = 2 := by omega
      have HE := Lib.hid (show toldK P.last k = toldL P.last by rw [hk2]; rfl)
      rw [HE.out] at HV HR HO
      obtain ⟨sd, pr, bo, htk⟩ : ∃ sd pr bo, toldL P.last = (sd, pr, bo) := ⟨_, _, _, rfl⟩
      rw [htk] at HV HR HO
      dsimp only at HV HR HO
      have HTK := Lib.hid htk
      have hbl : bo.length ≤ 1000000 := by
        have := (told_le HCL.out).1
        rw [htk] at this
        dsimp only at this
        omega
      clear htk
      obtain ⟨l0, l1, l2, _⟩ := HR.out.cells
      have CW := Lib.hid (whole_any (.int .u64 (pr : Int)) y a bo.length c wr)
      obtain ⟨la, lc, hla, hL⟩ := HO.out.lists hbl
      injection hla with e1 _ e3
      subst e1 e3
      have HL := Lib.hid hL
      have HK2 := Lib.hid (show ∀ W, wr.heap.size ≤ W.heap.size → (∀ k, w.heap.size ≤ k → k < wr.heap.size → W.heap[k]? = wr.heap[k]?) → LLP W a c bo from fun W hs hk => by
        obtain ⟨la2, lc2, e, hL2⟩ := (HO.out.keep hs (fun k h1 h2 => hk k (by omega) h2)).lists hbl
        injection e with e1 _ e3
        subst e1 e3
        exact hL2)
      clear hL hbl
      cases bo with
      | nil =>
        go_wp2_with fail
        refine CW.out.mono ?_
        rintro e w1 ⟨rfl, b1⟩
        have VR := HV.out.same (b1.block _ HV.out.lt)
        rw [show decide (0 < ([] : List (List Nat)).length) = false from rfl]
        have HVR := Lib.hid VR
        clear VR
        go_wp2_with fail
        go_ret3
        rw [HTK.out]
        exact ⟨w.heap.size, none, 0, none, 0, rfl, Nat.le_refl _, HVR.out, BytesP.nil _ _ _, ⟨by simp, by simp, fun h => absurd rfl h⟩, HB.out.trans (b1.mono HB.out.size), fun _ _ _ => ⟨BytesP.nil _ _ _, ⟨by simp, by simp, fun h => absurd rfl h⟩⟩⟩
      | cons t ws =>
        obtain ⟨bb, oo, at', ct', rfl, hc0, hB0⟩ := HL.out.head
        obtain ⟨aw, cw, hsl, htl⟩ := HL.out.tail
        have hbl2 := HL.out.len
        have hcp := HL.out.cap
        have hbb : bb < wr.heap.size := by
          obtain ⟨b', o', e, h1, _⟩ := HL.out.cell (by simp)
          injection e with e
          injection e with e1 _
          subst e1
          exact h1
        have HB0 := Lib.hid hB0
        have HTL := Lib.hid (htl _ HL.out)
        have hfr : w.heap.size ≤ bb := by
          obtain ⟨vs, _, ho, _⟩ := HO.out
          have := (ho.lt bb rfl).1
          omega
        have HK3 := Lib.hid (show ∀ W, wr.heap.size ≤ W.heap.size → (∀ k, w.heap.size ≤ k → k < wr.heap.size → W.heap[k]? = wr.heap[k]?) → BytesP W at' ct' t ∧ LLP W aw cw ws from fun W hs hk => by
          have hL2 := HK2.out W hs hk
          refine ⟨?_, htl _ hL2⟩
          obtain ⟨b', o', a2, c2, e, h3, h4⟩ := hL2.head
          injection e with e
          injection e with e1 e2
          subst e1 e2
          have hcell := (World.cell?_of_block (a := ⟨bb, oo, none⟩) (hk bb hfr hbb)).trans hc0
          rw [h3] at hcell
          injection hcell with hcell
          injection hcell with q1 q2 q3
          subst q1 q3
          exact h4)
        clear hfr
        rw [List.length_cons] at CW l2 hcp hbl2
        clear hB0 htl
        go_wp2_with fail
        refine CW.out.mono ?_
        rintro e w1 ⟨rfl, b1⟩
        have VR := HV.out.same (b1.block _ HV.out.lt)
        have VL := HR.out.same (b1.block _ HR.out.lt)
        rw [List.length_cons] at VL
        obtain ⟨m0, m1, m2, _⟩ := VL.cells
        have hc1 := (b1.cell (p := ⟨bb, oo, none⟩) hbb).trans hc0
        rw [show decide (0 < ws.length + 1) = true by simp]
        have HVR := Lib.hid VR
        have HB1 := Lib.hid (HB0.out.below b1)
        have HT1 := Lib.hid (HTL.out.below b1)
        have HK4 := Lib.hid (show ∀ W, w1.heap.size ≤ W.heap.size → (∀ k, w.heap.size ≤ k → k < w1.heap.size → W.heap[k]? = w1.heap[k]?) → BytesP W at' ct' t ∧ LLP W aw cw ws from fun W hs hk => HK3.out W (Nat.le_trans b1.size hs) (fun k h1 h2 => (hk k h1 (Nat.lt_of_lt_of_le h2 b1.size)).trans (b1.block k h2)))
        clear HK2 HK3 VR VL HL HO HR HV
        go_wp2_with fail
        go_region
        go_wp2_with fail
        go_ret3
        rw [HTK.out]
        exact ⟨w.heap.size, at', ct', aw, cw, rfl, Nat.le_refl _, HVR.out, HB1.out.below (Below.refl _ _).drew, HT1.out.below (Below.refl _ _).drew, (HB.out.trans (b1.mono HB.out.size)).drew, HK4.out⟩

theorem ropen_any {w : World} {R : Nat → Prop} {g bs bl : Nat} {lv : Value} {P : Pl} (h : PlM w R g bs bl lv P) : Calls Try.prog 10 #[ptr g] w (OpenRPost g (toldL P.last) w) :=
  (ropen_more h).mono fun _ _ ⟨b, ta, tc, wa, wc, h1, h2, h3, h4, h5, h6, _⟩ => ⟨b, ta, tc, wa, wc, h1, h2, h3, h4, h5, h6⟩
end

/- RlPair: A reel beside another thing with which it shares nothing. -/
section
set_option maxRecDepth 100000
open Go.RowKit

/-- Nothing beside it. -/
def noB (_ : World) (R : Nat → Prop) : Prop := ∀ k, ¬ R k
theorem stays_no : Stays noB := ⟨fun _ _ h k hk => absurd hk (h k), fun _ _ _ h _ _ => h⟩

section
variable {w0 w w' : World} {B : World → (Nat → Prop) → Prop} {L : Nat → Prop} {g b : Nat} {P : Pl} {r : Rl}

theorem Pair.newNo (n : Int) (hb : Below w0.heap.size w0 w) (hL : ∀ k, L k → k < w.heap.size) : Calls Try.prog 11 #[.int .i64 n] w (fun e w' => ∃ g, e = .returned (ptr g) ∧ Pair w0 w' (atPl g (Pl.new (clampN n 4096))) noB L ∧ ∀ k, L k → w'.heap[k]? = w.heap[k]?) := by
  refine (new_any n w).mono ?_
  rintro e w' ⟨g, rfl, hp, hb'⟩
  exact ⟨g, rfl, ⟨_, fun _ => False, hp, fun _ h => h, fun _ _ h => h, fun k hk => hk.elim (fun hk => ⟨Nat.le_trans hb.size hk.1, fun hl => by have := hL k hl; have := hk.1; omega⟩) False.elim, fun k hk => Nat.lt_of_lt_of_le (hL k hk) hb'.size, hb.trans (hb'.mono hb.size)⟩, fun k hk => hb'.block k (hL k hk)⟩

theorem Pair.openP (h : Pair w0 w (atPl g P) B L) : Calls Try.prog 10 #[ptr g] w (OpenRPost g (toldL P.last) w) := h.read fun _ ⟨_, _, _, h1⟩ => ropen_any h1
theorem Pair.openR (h : Pair w0 w (atRl b g r) B L) : Calls Try.prog 10 #[ptr g] w (OpenRPost g (toldL r.P.last) w) := h.read fun _ ⟨_, _, _, h1, _⟩ => ropen_any h1
theorem Pair.openM (h : Pair w0 w (atRl b g r) B L) : Calls Try.prog 10 #[ptr g] w (OpenRMore g (toldL r.P.last) w) := h.read fun _ ⟨_, _, _, h1, _⟩ => ropen_more h1

/-- A reel that was opened on a plate. -/
theorem Pair.toReel (sB : Stays B) (h : Pair w0 w (atPl g P) B L) (hb : Below w.heap.size w w') {s : Nat} (hn : w.heap.size ≤ b) (hv : RlV w' b g s false) : Pair w0 w' (atRl b g ⟨P, s, false⟩) B L := by
  obtain ⟨R1, R2, ⟨bs, bl, lv, h1⟩, h2, h3, h4, h5, h6⟩ := h
  have h1' := h1.below hb
  refine ⟨fun k => R1 k ∨ k = b, R2, ⟨bs, bl, lv, h1'.mono (fun k hk => hk.elim (h1'.dom k) (fun e => by subst e; exact hv.lt)) (fun _ e => .inl e), .inr rfl, fun e => ?_, hv⟩, sB.same _ _ _ h2 hb.size (fun k hk => hb.block k (sB.dom _ _ h2 k hk)), fun k a c => ?_, fun k a => ?_, fun k hk => Nat.lt_of_lt_of_le (h5 k hk) hb.size, h6.trans (hb.mono h6.size)⟩
  · have := h1.dom b (h1.within b e)
    omega
  · rcases a with a | rfl
    · exact h3 k a c
    · have := sB.dom _ _ h2 _ c
      omega
  · rcases a with (a | rfl) | a
    · exact h4 k (.inl a)
    · exact ⟨Nat.le_trans h6.size hn, fun hl => by have := h5 _ hl; omega⟩
    · exact h4 k (.inr a)
/-- Another reel that was opened on its plate, in its place. -/
theorem Pair.turn (sB : Stays B) (h : Pair w0 w (atRl b g r) B L) (hb : Below w.heap.size w w') {b2 s : Nat} (hn : w.heap.size ≤ b2) (hv : RlV w' b2 g s false) : Pair w0 w' (atRl b2 g ⟨r.P, s, false⟩) B L := by
  obtain ⟨R1, R2, ⟨bs, bl, lv, h1, _⟩, h2⟩ := h
  exact Pair.toReel sB (P := r.P) ⟨R1, R2, ⟨bs, bl, lv, h1⟩, h2⟩ hb hn hv

theorem Pair.rgood (h : Pair w0 w (atRl b g r) B L) : r.P.Good := by
  obtain ⟨R1, R2, ⟨bs, bl, lv, h1, _⟩, _⟩ := h
  exact h1.good
theorem rl_first {A' : Int × Rl} {R : Nat → Prop} {f : FuncId} {args : Array Value} (C : Calls Try.prog f args w (RlPost A' b g R w)) : Calls Try.prog f args w (fun e w' => e = .returned (.int .i64 A'.1) ∧ atRl b g A'.2 w' (ext R w w') ∧ Keep R w w') :=
  C.mono fun _ _ ⟨e, h⟩ => ⟨e, h.fin⟩

theorem Pair.rbegin (sB : Stays B) (h : Pair w0 w (atRl b g r) B L) (a : Option Addr) (cap : Nat) (t : List Nat) (hB : BytesP w a cap t) (hs : r.side ≤ 1) (hlo : r.P.loose.length + 1366 ≤ 100000) :
    Calls Try.prog 14 #[ptr b, .slice a t.length cap] w (fun e w' => e = .returned (.int .i64 (r.begin t).1) ∧ Pair w0 w' (atRl b g (r.begin t).2) B L ∧ ∀ k, L k → w'.heap[k]? = w.heap[k]?) :=
  h.first sB fun _ h1 => rl_first (begin_any h1.start a cap t hB hs hlo)
theorem Pair.radd (sB : Stays B) (h : Pair w0 w (atRl b g r) B L) (a : Option Addr) (cap : Nat) (t : List Nat) (hB : BytesP w a cap t) (hlo : r.P.loose.length + 1366 ≤ 100000) :
    Calls Try.prog 12 #[ptr b, .slice a t.length cap] w (fun e w' => e = .returned (.int .i64 (r.add t).1) ∧ Pair w0 w' (atRl b g (r.add t).2) B L ∧ ∀ k, L k → w'.heap[k]? = w.heap[k]?) :=
  h.first sB fun _ h1 => rl_first (add_any h1.start a cap t hB hlo)
theorem Pair.rflush (sB : Stays B) (h : Pair w0 w (atRl b g r) B L) :
    Calls Try.prog 13 #[ptr b] w (fun e w' => e = .returned (.int .i64 r.flush.1) ∧ Pair w0 w' (atRl b g r.flush.2) B L ∧ ∀ k, L k → w'.heap[k]? = w.heap[k]?) :=
  h.first sB fun _ h1 => rl_first (rflush_any h1.start)
theorem Pair.rready (h : Pair w0 w (atRl b g r) B L) : Calls Try.prog 26 #[ptr b] w (fun e w' => e = .returned (.bool r.ready) ∧ w = w') := h.read fun _ h1 => ready_any h1.start
theorem Pair.rleft (h : Pair w0 w (atRl b g r) B L) : Calls Try.prog 27 #[ptr b] w (IntB (r.left : Int) w) := h.read fun _ h1 => rleft_any h1.start
end
end

/- RlAlive: What the laws' reelAlive, the chapter's example, answers. -/
section
set_option maxRecDepth 100000
open Go.RowKit

theorem numC_zero (o : Nat) : numC zeroC o = 0 := by
  unfold numC zeroC
  have : ∀ l : List Nat, (∀ x ∈ l, x = 0) → numLE l = 0 := fun l => by
    induction l with
    | nil => intro _; rfl
    | cons x r ih => intro h; simp only [numLE]; rw [ih (fun y hy => h y (by simp [hy])), h x (by simp)]
  exact this _ (fun x hx => (List.mem_replicate.1 (List.mem_of_mem_drop (List.mem_of_mem_take hx))).2)
theorem top_zero (n : Nat) : topL (List.replicate n zeroC) = 0 := by
  have : topM (List.replicate n zeroC) = 0 := by
    induction n with
    | zero => rfl
    | succ n ih => simp only [List.replicate_succ, topM, ih, numC_zero]; rfl
  unfold topL
  rw [this]
theorem read_zero (n : Nat) (side : Int) : readL (List.replicate n zeroC) side = (0, []) := by
  have h := readL_top (List.replicate n zeroC) side
  rw [top_zero] at h
  unfold readL at h ⊢
  split
  · rename_i hs
    rw [if_pos hs] at h
    unfold readS at h ⊢
    split
    · rfl
    · rename_i h0
      rw [if_neg h0] at h
      exact absurd (Nat.le_zero.1 h) h0
  · rfl
theorem told_zero (n : Nat) : toldL (List.replicate n zeroC) = (1, 0, []) := by
  have h : ∀ side, rowOf (List.replicate n zeroC) side = (0, [], 0) := fun side => by
    unfold rowOf
    rw [read_zero]
    simp only [List.flatten_nil]
    rw [parse_zero (by rw [frameAt_nil])]
  unfold toldL told0
  rw [h 0, h 1]
  rfl
theorem cellsN_small {n : Nat} (h : n < 128) : cellsN n = (8 + n + 47) / 48 := by
  unfold cellsN
  rw [if_pos (by omega), numL_small h]
  rfl

/-- There is no room for a word. -/
theorem Rdy.addNo {r : Rl} {rd : Nat} {t x : List Nat} {ws : List (List Nat)} (h : Rdy r rd t ws) (hf : r.room - (piecesT t ws).length < cellsN x.length) : r.add x = (92, r) := by
  unfold Rl.add
  rw [h.ready, if_pos rfl, h.row]
  simp only
  rw [if_neg (by simp only [fitsB, Bool.and_eq_true, decide_eq_true_eq]; omega)]
theorem begin_no {r : Rl} {t : List Nat} (hf : r.room < cellsN t.length) : r.begin t = (92, r) := by
  unfold Rl.begin
  rw [if_neg (by simp only [fitsB, Bool.and_eq_true, decide_eq_true_eq]; omega)]
theorem piecesT_len {t : List Nat} {ws : List (List Nat)} (ht : t.length ≤ 65536) (hw : ∀ x ∈ ws, x.length ≤ 65536) : (piecesT t ws).length = cellsN t.length + (ws.map fun x => cellsN x.length).sum := by
  have h2 : (piecesW ws).length = (ws.map fun x => cellsN x.length).sum := by
    induction ws with
    | nil => rfl
    | cons x r ih =>
      have e : piecesW (x :: r) = chunksL (frameL 2 x) ++ piecesW r := by simp [piecesW]
      rw [e, List.length_append, frame_cells 2 (hw x (by simp)), ih (fun y hy => hw y (by simp [hy])), List.map_cons, List.sum_cons]
  rw [piecesT, List.length_append, frame_cells 1 ht, h2]

/-- A reel that was opened on a new plate. -/
def newRl (n : Nat) : Rl := ⟨Pl.new n, 1, false⟩
theorem new_begin {n : Nat} (hn : n ≤ 4096) {t : List Nat} (ht : Word t) (hf : cellsN t.length ≤ n / 2) :
    ∃ r', (newRl n).begin t = (0, r') ∧ Rdy r' 1 t [] ∧ r'.P.sure.length = n ∧ r'.side = 0 ∧ r'.P.loose.length = 0 := by
  have hc := cellsN_le t.length
  have htop : topL (newRl n).P.last = 0 := top_zero n
  have := begin_rdy (r := newRl n) (t := t) (Pl.Good.new hn) rfl rfl (Nat.le_refl _) ht (by simpa [Rl.room, newRl, Pl.new] using hf) (by rw [htop]; decide) (by simp [newRl, Pl.new]; omega)
  rw [htop] at this
  simpa [newRl, Pl.new] using this

theorem word_of {l : List Nat} (h : ∀ b ∈ l, b < 256) (hl : l.length ≤ 65536) : Word l := ⟨hl, h⟩
theorem word_one {x : Nat} (h : x < 256) : Word [x] := ⟨by simp, fun b hb => by simp at hb; omega⟩

theorem txt_a : strB [97] = ⟨#[97]⟩ := by decide +kernel
theorem txt_b : strB [98] = ⟨#[98]⟩ := by decide +kernel

set_option maxHeartbeats 4000000 in
theorem ralive_any (w : World) : Calls Try.prog 9 #[] w (TrueB w) := by
  have N := Lib.hid (Pair.newNo (w0 := w) (w := w) (L := fun _ => False) 8 (Below.refl _ _) (fun _ h => h.elim))
  have e8 : clampN 8 4096 = 8 := rfl
  rw [e8] at N
  clear e8
  have kc := fun (w : World) (C : Array Value) (n c : Nat) => Lib.run_convert_bytes_const (P := Try.prog) w 24 5 C n c Try.underlying24 Try.underlying5
  obtain ⟨r1, hb1, y1, n1, s1, l1⟩ := new_begin (n := 8) (by omega) (word_one (show 97 < 256 by decide)) (by rw [show ([97] : List Nat).length = 1 from rfl, cellsN_small (by omega)]; decide)
  have p1 : (piecesT [97] []).length = 1 := by
    show (chunksL (frameL 1 [97]) ++ piecesW []).length = 1
    rw [List.length_append, frame_cells 1 (by simp), show ([97] : List Nat).length = 1 from rfl, cellsN_small (by omega)]
    rfl
  obtain ⟨r2, ha2, y2, n2, s2, l2⟩ := y1.add (word_one (show 98 < 256 by decide)) (by rw [p1, show ([98] : List Nat).length = 1 from rfl, cellsN_small (by omega)]; unfold Rl.room; rw [n1]; decide) (by rw [l1, show ([98] : List Nat).length = 1 from rfl, cellsN_small (by omega)]; decide)
  obtain ⟨r3, hf3, y3, n3, s3, l3⟩ := y2.flush
  have p3 : (piecesT [97] [[98]]).length = 2 := by
    rw [show ([[98]] : List (List Nat)) = [] ++ [[98]] from rfl, piecesT_snoc, List.length_append, p1, frame_cells 2 (by simp), show ([98] : List Nat).length = 1 from rfl, cellsN_small (by omega)]
  have HT := Lib.hid y3.told
  have HLF := Lib.hid (show r3.left = 2 by rw [y3.leftN, List.nil_append, p3]; unfold Rl.room; rw [n3, n2, n1])
  have HRD := Lib.hid y3.ready
  have ll1 : r1.P.loose.length + 1366 ≤ 100000 := by omega
  rw [s3, s2, s1] at HT
  have HB1 := Lib.hid hb1
  have HA2 := Lib.hid ha2
  have HF3 := Lib.hid hf3
  have LL1 := Lib.hid ll1
  have s1' := Lib.hid s1
  clear hb1 ha2 hf3 y1 y2 y3 p1 p3 n1 n2 n3 s2 s3 l1 l2 l3 s1 ll1
  go_enter Try.func9, Try.ntmps9
  go_wp2_with fail
  refine N.out.mono ?_
  rintro e w1 ⟨g, rfl, h1, _⟩
  have CO := Lib.hid h1.openP
  have H1 := Lib.hid h1
  rw [show (Pl.new 8).last = List.replicate 8 zeroC from rfl, told_zero] at CO
  clear h1 N
  go_wp2_with fail
  refine CO.out.mono ?_
  rintro e w2 ⟨b, ta, tc, wa, wc, rfl, hn2, hv2, _, _, b2⟩
  have h2 := H1.out.toReel stays_no b2 hn2 hv2
  have H2 := Lib.hid (show Pair w w2 (atRl b g (newRl 8)) noB (fun _ => False) from h2)
  have CR := Lib.hid H2.out.rready
  clear h2 hv2 b2 H1 CO hn2
  rw [show (newRl 8).ready = false from rfl] at CR
  have bA := (Below.refl w2.heap.size w2).alloc (Nat.le_refl _) (.cells #[.int .u8 97] 5 (1, 2))
  have C2 := Lib.hid (show Calls Try.prog 14 #[ptr b, .slice (some ⟨w2.heap.size, 0, none⟩) 1 1] (w2.alloc (.cells #[.int .u8 97] 5 (1, 2))) (fun e w' => e = .returned (.int .i64 0) ∧ Pair w w' (atRl b g r1) noB (fun _ => False)) by
    have := (H2.out.more (stays_rl _ _ _) stays_no bA).rbegin stays_no (some ⟨w2.heap.size, 0, none⟩) 1 [97] (bytes_block [97] (fun b hb => by simp at hb; omega) (by simp) w2 5 (1, 2)) (Nat.le_refl _) (by simp [newRl, Pl.new])
    rw [HB1.out] at this
    exact this.mono fun _ _ ⟨e, h, _⟩ => ⟨e, h⟩)
  clear bA
  go_wp2_with fail
  refine CR.out.mono ?_
  rintro e w' ⟨rfl, rfl⟩
  go_wp2_with fail
  refine C2.out.mono ?_
  rintro e w3 ⟨rfl, h3⟩
  have bB := (Below.refl w3.heap.size w3).alloc (Nat.le_refl _) (.cells #[.int .u8 98] 5 (1, 2))
  have C3 := Lib.hid (show Calls Try.prog 12 #[ptr b, .slice (some ⟨w3.heap.size, 0, none⟩) 1 1] (w3.alloc (.cells #[.int .u8 98] 5 (1, 2))) (fun e w' => e = .returned (.int .i64 0) ∧ Pair w w' (atRl b g r2) noB (fun _ => False)) by
    have := (h3.more (stays_rl _ _ _) stays_no bB).radd stays_no (some ⟨w3.heap.size, 0, none⟩) 1 [98] (bytes_block [98] (fun b hb => by simp at hb; omega) (by simp) w3 5 (1, 2)) LL1.out
    rw [HA2.out] at this
    exact this.mono fun _ _ ⟨e, h, _⟩ => ⟨e, h⟩)
  clear bB h3 C2 CR H2
  go_wp2_with fail
  refine C3.out.mono ?_
  rintro e w4 ⟨rfl, h4⟩
  have C4 := Lib.hid (show Calls Try.prog 13 #[ptr b] w4 (fun e w' => e = .returned (.int .i64 0) ∧ Pair w w' (atRl b g r3) noB (fun _ => False)) by
    have := h4.rflush stays_no
    rw [HF3.out] at this
    exact this.mono fun _ _ ⟨e, h, _⟩ => ⟨e, h⟩)
  clear h4 C3
  go_wp2_with fail
  refine C4.out.mono ?_
  rintro e w5 ⟨rfl, h5⟩
  have C5 := Lib.hid h5.openR
  rw [HT.out] at C5
  have H5 := Lib.hid h5
  clear h5 C4
  go_wp2_with fail
  refine C5.out.mono ?_
  rintro e w6 ⟨b6, a6, c6, wa6, wc6, rfl, _, _, hB6, hL6, b6'⟩
  have h6 := H5.out.more (stays_rl _ _ _) stays_no b6'
  have C6 := Lib.hid h6.rready
  have C7 := Lib.hid h6.rleft
  rw [HRD.out] at C6
  rw [HLF.out] at C7
  have HLOW := Lib.hid h6.low
  have RT := run_text hB6
  obtain ⟨bb, oo, rfl, hbb, hcc⟩ := hL6.cell (by simp)
  obtain ⟨a', c', g1, gB⟩ := hcc 0 [98] rfl
  have RT2 := run_text gB
  have hcap := hL6.cap
  simp only [List.headD_cons, List.length_cons, List.length_nil, Nat.zero_add, Nat.add_zero, List.tail_cons] at RT RT2 g1 hcap
  rw [txt_a] at RT
  rw [txt_b] at RT2
  clear hB6 hL6 b6' h6 gB hcc H5 C5
  go_wp2_with fail
  refine C6.out.mono ?_
  rintro e w7 ⟨rfl, rfl⟩
  go_wp2_with fail
  refine C7.out.mono ?_
  rintro e w8 ⟨rfl, b8⟩
  go_wp2_with fail
  go_ret
  exact ⟨rfl, HLOW.out.trans (b8.mono HLOW.out.size)⟩
end

/- RlTale: A tale and its words in memory of the law's own; what the law's begins answers. -/
section
set_option maxRecDepth 100000
open Go.RowKit

/-- Are these one tale, and so many at least of another one's words? -/
def begB (t : List Nat) (ls : List (List Nat)) (f : List Nat) (ws : List (List Nat)) (least : Nat) : Bool := (t == f) && decide (least ≤ ls.length) && decide (ls.length ≤ ws.length) && (ls == ws.take ls.length)

theorem begB_true {t f : List Nat} {ls ws : List (List Nat)} {least : Nat} (h1 : t = f) (h2 : least ≤ ls.length) (h3 : ls <+: ws) : begB t ls f ws least = true := by
  obtain ⟨r, rfl⟩ := h3
  unfold begB
  rw [List.length_append, List.take_left]
  simp [h1, h2]

set_option maxHeartbeats 4000000 in
theorem begins_any (a : Option Addr) (cap : Nat) (t : List Nat) (wa : Option Addr) (wc : Nat) (ls : List (List Nat)) (f : List Nat) (va : Option Addr) (vc : Nat) (ws : List (List Nat)) (least : Nat) (w : World) (ht : BytesP w a cap t) (hl : LLP w wa wc ls) (hf : Bytes f) (hv : SSP w va vc ws) (hwb : ∀ x ∈ ws, Bytes x) :
    Calls Try.prog 29 #[.slice a t.length cap, .slice wa ls.length wc, .agg #[.string (strB f), .slice va ws.length vc], .int .i64 (least : Int)] w (BoolB (begB t ls f ws least) w) := by
  have bB := (Below.refl w.heap.size w).alloc (Nat.le_refl _) (.cells #[.string (strB f), .slice va ws.length vc] 56)
  have hll := hl.len
  have hvl := hv.len
  have hlc := hl.cap
  have hvc := hv.cap
  have RT := run_text (ht.below bB)
  have f0 : (w.alloc (.cells #[.string (strB f), .slice va ws.length vc] 56)).cell? ⟨w.heap.size, 0, none⟩ = some (.string (strB f)) := by simp only [World.cell?, heap_alloc_new]; rfl
  have f1 : (w.alloc (.cells #[.string (strB f), .slice va ws.length vc] 56)).cell? ⟨w.heap.size, 1, none⟩ = some (.slice va ws.length vc) := by simp only [World.cell?, heap_alloc_new]; rfl
  have HL := Lib.hid hl
  have HV := Lib.hid hv
  have HB := Lib.hid bB
  have hst := str_test ht.byte hf
  have hlB : ∀ x ∈ ls, Bytes x := fun x hx => by
    obtain ⟨j, hj, rfl⟩ := List.mem_iff_getElem.1 hx
    obtain ⟨b, o, _, _, hc⟩ := hl.cell (by intro e; subst e; simp at hj)
    obtain ⟨a', c', _, hB⟩ := hc j _ (List.getElem?_eq_getElem hj)
    exact hB.byte
  have HLB := Lib.hid hlB
  have HWB := Lib.hid hwb
  clear hlB hwb
  go_enter Try.func29, Try.ntmps29
  cases t1 : (t == f) with
  | false =>
    have E := Lib.hid (show begB t ls f ws least = false by unfold begB; rw [t1]; rfl)
    rw [t1] at hst
    clear ht hl hf hv bB
    generalize strB t = st at *
    generalize strB f = sf at *
    go_wp2_with fail
    go_ret
    rw [E.out]
    exact ⟨rfl, HB.out⟩
  | true =>
  rw [t1] at hst
  by_cases t2 : ls.length < least
  · have E := Lib.hid (show begB t ls f ws least = false by unfold begB; rw [t1, decide_eq_false (show ¬ least ≤ ls.length by omega)]; rfl)
    clear ht hl hf hv bB
    generalize strB t = st at *
    generalize strB f = sf at *
    go_wp2_with fail
    go_ret
    rw [E.out]
    exact ⟨rfl, HB.out⟩
  by_cases t3 : ws.length < ls.length
  · have E := Lib.hid (show begB t ls f ws least = false by unfold begB; rw [t1, decide_eq_false (show ¬ ls.length ≤ ws.length by omega)]; simp)
    clear ht hl hf hv bB
    generalize strB t = st at *
    generalize strB f = sf at *
    go_wp2_with fail
    go_ret
    rw [E.out]
    exact ⟨rfl, HB.out⟩
  have h2 : least ≤ ls.length := by omega
  have h3 : ls.length ≤ ws.length := by omega
  have E := Lib.hid (show begB t ls f ws least = (ls == ws.take ls.length) by unfold begB; rw [t1, decide_eq_true h2, decide_eq_true h3]; rfl)
  have F1 := Lib.hid f1
  clear ht hl hf hv
  generalize strB t = st at *
  generalize strB f = sf at *
  generalize hWB : w.alloc (.cells #[.string sf, .slice va ws.length vc] 56) = WB at *
  go_wp2_with fail
  clear hWB
  go_loopw [31] (fun i wr => ∃ (k : Nat), k ≤ ls.length ∧ i = .int .i64 k ∧ Hid (ls.take k = ws.take k) ∧ Hid (Below WB.heap.size WB wr)) (fun i _ => ls.length - (intOf i).toNat)
  case atStart => exact ⟨0, Nat.zero_le _, rfl, Lib.hid rfl, Lib.hid (Below.refl _ _)⟩
  case round =>
    obtain ⟨k, hk, rfl, HT, HW⟩ := hrel
    by_cases hlt : k < ls.length
    · have hne : ls ≠ [] := by intro e; subst e; simp at hlt
      have hkw : k < ws.length := by omega
      have hne2 : ws ≠ [] := by intro e; subst e; simp at hkw
      have hsz : w.heap.size < WB.heap.size := (World.block_lt_of_cell? WB _ F1.out)
      have g0 := (HW.out.cell (p := ⟨w.heap.size, 1, none⟩) hsz).trans F1.out
      have hbw := HB.out.trans (HW.out.mono HB.out.size)
      obtain ⟨b1, o1, rfl, q1, r1⟩ := (HL.out.below hbw).cell hne
      obtain ⟨b2, o2, rfl, q2, r2⟩ := (HV.out.below hbw).cell hne2
      obtain ⟨a', c', g1, gB⟩ := r1 k _ (List.getElem?_eq_getElem hlt)
      have g2 := r2 k _ (List.getElem?_eq_getElem hkw)
      have RT := fun n => run_text (w := wr.drewN n) (gB.below ⟨rfl, rfl, rfl, Nat.le_refl _, fun _ _ => rfl⟩)
      have PN := Lib.hid (fun n => show Below w.heap.size w (wr.drewN n) from ⟨hbw.os, hbw.tape, hbw.output, hbw.size, hbw.block⟩)
      have PW := Lib.hid (fun n => show Below WB.heap.size WB (wr.drewN n) from ⟨HW.out.os, HW.out.tape, HW.out.output, HW.out.size, HW.out.block⟩)
      have hst := str_test gB.byte (HWB.out _ (List.getElem_mem hkw))
      have e1 := List.take_add_one (l := ls) (i := k)
      have e2 := List.take_add_one (l := ws) (i := k)
      rw [List.getElem?_eq_getElem hlt] at e1
      rw [List.getElem?_eq_getElem hkw] at e2
      have E1 := Lib.hid e1
      have E2 := Lib.hid e2
      clear r1 r2 gB hne hne2 HW hbw e1 e2
      cases tt : (ls[k] == ws[k]) with
      | false =>
        have EE := Lib.hid (show (ls == ws.take ls.length) = false by
          rw [beq_eq_false_iff_ne]
          intro e
          have h := congrArg (fun x => x[k]?) e
          simp only [List.getElem?_take, if_pos hlt, List.getElem?_eq_getElem hlt, List.getElem?_eq_getElem hkw, Option.some.injEq] at h
          rw [h] at tt
          simp at tt)
        rw [tt] at hst
        clear E1 E2
        generalize strB ls[k] = tx at *
        generalize strB ws[k] = ty at *
        generalize ls[k].length = nx at *
        go_wp2_with fail
        go_quiet (fail)
        go_wp2_with fail
        go_ret
        rw [E.out, EE.out]
        exact ⟨rfl, PN.out _⟩
      | true =>
        have HT2 := Lib.hid (show ls.take (k + 1) = ws.take (k + 1) by
          rw [E1.out, E2.out, HT.out]
          have := eq_of_beq tt
          rw [this])
        rw [tt] at hst
        clear E1 E2
        generalize strB ls[k] = tx at *
        generalize strB ws[k] = ty at *
        generalize ls[k].length = nx at *
        go_wp2_with fail
        go_quiet (fail)
        go_wp2_with fail
        go_roundw
        case rel => exact ⟨k + 1, by omega, by go_num, HT2, Lib.hid (PW.out _)⟩
        case measure => simp [intOf]; omega
    · have hkl : k = ls.length := by omega
      have EE := Lib.hid (show (ls == ws.take ls.length) = true by
        rw [beq_iff_eq, ← hkl, ← HT.out, hkl, List.take_length])
      go_wp2_with fail
      go_ret
      rw [E.out, EE.out]
      exact ⟨rfl, HB.out.trans (HW.out.mono HB.out.size)⟩
end

/- RlTale2: What becomes of a tale and its words in memory; Limit and Fail under a reel. -/
section
set_option maxRecDepth 100000
open Go.RowKit

section
variable {w0 w : World} {B : World → (Nat → Prop) → Prop} {L : Nat → Prop} {g b : Nat} {r : Rl}

theorem Pair.rlimit (sB : Stays B) (h : Pair w0 w (atRl b g r) B L) (n : Int) (hn : n ≤ 9223372036854775807) :
    Calls Try.prog 21 #[ptr g, .int .i64 n] w (fun e w' => e = .returned (.tuple #[]) ∧ Pair w0 w' (atRl b g ⟨r.P.limit n, r.side, r.ready⟩) B L ∧ ∀ k, L k → w'.heap[k]? = w.heap[k]?) :=
  h.first sB fun R h1 => by
    obtain ⟨bs, bl, lv, h2, hc⟩ := h1.start.plate
    refine (limit_any h2 n hn).mono ?_
    rintro e w' ⟨rfl, hp, hu⟩
    exact ⟨rfl, (hc _ _ ⟨bs, bl, lv, hp.ext⟩ ((Keep.refl _ w).upd hu (fun _ => h2.rg))).fin⟩
theorem Pair.rfail (sB : Stays B) (h : Pair w0 w (atRl b g r) B L) (ka : Option Addr) (kc : Nat) (keep : List Nat) (hk : BytesP w ka kc keep) (hka : keep ≠ [] → ∀ b o, ka = some ⟨b, o, none⟩ → b < w0.heap.size ∨ L b) (torn at_ : Int) :
    Calls Try.prog 23 #[ptr g, .slice ka keep.length kc, .int .i64 torn, .int .i64 at_] w (fun e w' => e = .returned (.tuple #[]) ∧ Pair w0 w' (atRl b g ⟨r.P.fail keep torn at_, r.side, r.ready⟩) B L ∧ ∀ k, L k → w'.heap[k]? = w.heap[k]?) := by
  obtain ⟨R1, R2, h1, h2, h3, h4, h5, h6⟩ := h
  have hoff : keep ≠ [] → ∀ b o, ka = some ⟨b, o, none⟩ → ¬ R1 b := fun hne b o e hr => by
    have := h4 b (.inl hr)
    rcases hka hne b o e with h | h
    · omega
    · exact this.2 h
  have h' : Pair w0 w (fun w' R => atRl b g r w' R ∧ (w' = w → R = R1)) B L := ⟨R1, R2, ⟨h1, fun _ => rfl⟩, h2, h3, h4, h5, h6⟩
  refine h'.first sB fun R ⟨hp, hR⟩ => ?_
  have := hR rfl
  subst this
  obtain ⟨bs, bl, lv, q1, q2, q3, q4⟩ := hp
  obtain ⟨bs', bl', lv', q5, hc⟩ := (atRl.start ⟨bs, bl, lv, q1, q2, q3, q4⟩).plate
  obtain ⟨e1, e2, e3⟩ : bs' = bs ∧ bl' = bl ∧ lv' = lv := by
    have := q5.head.symm.trans q1.head
    simp at this
    exact this
  subst e1 e2 e3
  refine (fail_any q5 ka kc keep hk (fun hne b o e hr => hoff hne b o e (q1.within _ hr)) torn at_).mono ?_
  rintro e w' ⟨rfl, hp, hk⟩
  exact ⟨rfl, (hc _ _ hp hk).fin⟩
end

/-- A tale at block t, its words' row v. -/
def TlV (w : World) (t : Nat) (f : List Nat) (v : Value) : Prop := w.heap[t]? = some (.cells #[.string (strB f), v] 56 (0, 0))
theorem TlV.cells {w : World} {t : Nat} {f : List Nat} {v : Value} (h : TlV w t f v) : w.cell? ⟨t, 0, none⟩ = some (.string (strB f)) ∧ w.cell? ⟨t, 1, none⟩ = some v ∧ w.frozen? ⟨t, 0, none⟩ = false ∧ w.frozen? ⟨t, 1, none⟩ = false := by
  unfold TlV at h
  simp [World.cell?, World.frozen?, h]
theorem TlV.set {w : World} {t : Nat} {f : List Nat} {v : Value} (h : TlV w t f v) (u : Value) : TlV (w.setCell ⟨t, 1, none⟩ u) t f u := by
  unfold TlV at *
  rw [heap_setCell_same w t 1 _ _ _ h]
  rfl

/-- A tale and its words, of blocks R; the words' row came since base. -/
def atTl (base t : Nat) (f : List Nat) (ws : List (List Nat)) (w : World) (R : Nat → Prop) : Prop :=
  ∃ v, TlV w t f v ∧ OwnSS w base v ws ∧ R t ∧ (∀ k, v.ownBlock = some k → R k ∧ k ≠ t) ∧ ∀ k, R k → k < w.heap.size

theorem stays_tl (base t : Nat) (f : List Nat) (ws : List (List Nat)) : Stays (atTl base t f ws) :=
  ⟨fun _w _R ⟨_, _, _, _, _, h⟩ => h, fun _w _w' _R ⟨v, h1, h2, h3, h4, h5⟩ hs hb => ⟨v, (hb t h3).trans h1, ownsRow_same h2 (fun k hk => hb k (h4 k hk).1), h3, h4, fun k hk => Nat.lt_of_lt_of_le (h5 k hk) hs⟩⟩

theorem ownSS_nil (w : World) (base : Nat) : OwnSS w base (.slice none 0 0) [] := World.ownsRow_nil w base 9 1

section
variable {w0 w w' : World} {A : World → (Nat → Prop) → Prop} {L : Nat → Prop} {base t : Nat} {f : List Nat} {ws : List (List Nat)}

/-- The second one is turned otherwise. -/
theorem Pair.step (sA : Stays A) {B B' : World → (Nat → Prop) → Prop} (h : Pair w0 w A B L) (C : ∀ R, B w R → B' w' (ext R w w') ∧ Keep R w w') : Pair w0 w' A B' L ∧ ∀ k, L k → w'.heap[k]? = w.heap[k]? := by
  obtain ⟨R1, R2, h1, h2, h3, h4, h5, h6⟩ := h
  obtain ⟨hb, hk⟩ := C R2 h2
  refine ⟨⟨R1, _, sA.same _ _ _ h1 hk.size (fun k hr => hk.block k (sA.dom _ _ h1 k hr) (fun e => h3 k hr e)), hb, ?_, ?_, fun k hl => Nat.lt_of_lt_of_le (h5 k hl) hk.size, h6.trans (hk.below h6.size (fun k hr => (h4 k (.inr hr)).1))⟩, fun k hl => hk.block k (h5 k hl) (fun e => (h4 k (.inr e)).2 hl)⟩
  · intro k hr hr2
    rcases hr2 with hr2 | hr2
    · exact h3 k hr hr2
    · have := sA.dom _ _ h1 k hr
      omega
  · intro k hr
    rcases hr with hr | hr | hr
    · exact h4 k (.inl hr)
    · exact h4 k (.inr hr)
    · exact ⟨Nat.le_trans h6.size hr.1, fun hl => by have := h5 k hl; omega⟩

/-- Its variables, and the row of its words. -/
theorem Pair.tale (h : Pair w0 w A (atTl base t f ws) L) (hn : ws.length ≤ 1000000) : ∃ a cap, TlV w t f (.slice a ws.length cap) ∧ SSP w a cap ws ∧ OwnSS w base (.slice a ws.length cap) ws ∧ t < w.heap.size ∧ ¬ L t := by
  obtain ⟨R1, R2, h1, ⟨v, q1, q2, q3, q4, q5⟩, h3, h4, h5, h6⟩ := h
  obtain ⟨a, cap, rfl, hs⟩ := q2.lists hn
  exact ⟨a, cap, q1, hs, q2, q5 t q3, (h4 t (.inr q3)).2⟩

/-- Its row came since an older world, too. -/
theorem Pair.lower (h : Pair w0 w A (atTl base t f ws) L) {base' : Nat} (hb : base' ≤ base) : Pair w0 w A (atTl base' t f ws) L := by
  obtain ⟨R1, R2, h1, ⟨v, q1, q2, q3, q4, q5⟩, h3⟩ := h
  exact ⟨R1, R2, h1, ⟨v, q1, ownsRow_base q2 (fun k hk => Nat.le_trans hb (q2.lt k hk).1), q3, q4, q5⟩, h3⟩
/-- A tale that is laid now. -/
theorem Pair.addTl (h : Pair w0 w A noB L) (sA : Stays A) {o : Obj} (hv : TlV (w.alloc o) w.heap.size f (.slice none 0 0)) : Pair w0 (w.alloc o) A (atTl base w.heap.size f []) L := by
  obtain ⟨R1, R2, h1, h2, h3, h4, h5, h6⟩ := h
  have hb := (Below.refl w.heap.size w).alloc (Nat.le_refl _) o
  refine ⟨R1, fun k => k = w.heap.size, sA.same _ _ _ h1 hb.size (fun k hk => hb.block k (sA.dom _ _ h1 k hk)), ⟨_, hv, ownSS_nil _ _, rfl, (fun k hk => by cases hk), fun k hk => by rw [hk]; simp⟩, fun k a e => ?_, fun k a => ?_, fun k hk => Nat.lt_of_lt_of_le (h5 k hk) hb.size, h6.trans (hb.mono h6.size)⟩
  · have := sA.dom _ _ h1 k a
    omega
  · rcases a with a | a
    · exact h4 k (.inl a)
    · rw [a]
      exact ⟨h6.size, fun hl => by have := h5 _ hl; omega⟩

/-- The whole tale is written anew. -/
theorem Pair.anew (sA : Stays A) (h : Pair w0 w A (atTl base t f ws) L) {base' : Nat} {f' : List Nat} (u : Upd t w w') (hv : TlV w' t f' (.slice none 0 0)) : Pair w0 w' A (atTl base' t f' []) L ∧ ∀ k, L k → w'.heap[k]? = w.heap[k]? :=
  h.step sA fun R ⟨v, q1, q2, q3, q4, q5⟩ => ⟨⟨_, hv, ownSS_nil _ _, .inl q3, (fun k hk => by cases hk), fun k hk => hk.elim (fun h => by rw [u.size]; exact q5 k h) (fun h => h.2)⟩, (Keep.refl R w).upd u (fun _ => q3)⟩

/-- One word more, onto the row itself. -/
theorem Pair.pushed (sA : Stays A) (h : Pair w0 w A (atTl base t f ws) L) (hbase : base ≤ w.heap.size) (x : List Nat) (hn : ws.length < 100000) {a : Option Addr} {cap : Nat} (hv : TlV w t f (.slice a ws.length cap)) (ty : TypeId) :
    ∃ a' c' w', ApR 38 ty (.slice a ws.length cap) (.slice (some ⟨w.heap.size, 0, none⟩) 1 1) (w.alloc (.cells #[.string (strB x)] 9)) = .ok (.value (.slice a' (ws.length + 1) c')) w' ∧ TlV w' t f (.slice a ws.length cap) ∧ Pair w0 (w'.setCell ⟨t, 1, none⟩ (.slice a' (ws.length + 1) c')) A (atTl base t f (ws ++ [x])) L ∧ (∀ k, L k → (w'.setCell ⟨t, 1, none⟩ (.slice a' (ws.length + 1) c')).heap[k]? = w.heap[k]?) ∧ Keep (fun k => k = t ∨ base ≤ k) w (w'.setCell ⟨t, 1, none⟩ (.slice a' (ws.length + 1) c')) := by
  have hown : ∃ hr : OwnSS w base (.slice a ws.length cap) ws, t < w.heap.size ∧ ∀ k, (Value.slice a ws.length cap).ownBlock = some k → k ≠ t := by
    obtain ⟨R1, R2, h1, ⟨v, q1, q2, q3, q4, q5⟩, h3, h4, h5, h6⟩ := h
    have e := q1.symm.trans hv
    simp at e
    subst e
    exact ⟨q2, q5 t q3, fun k hk => (q4 k hk).2⟩
  obtain ⟨ho, htl, hne⟩ := hown
  have hW : Below w.heap.size w (w.alloc (.cells #[.string (strB x)] 9)) := (Below.refl w.heap.size w).alloc (Nat.le_refl _) _
  have ho1 : (w.alloc (.cells #[.string (strB x)] 9)).ownsRow 0 9 1 (.slice a ws.length cap) ws.length (ws.map txt) := ownsRow_base (ho.below hW) (fun k _ => Nat.zero_le k)
  have hnew : RowAt (w.alloc (.cells #[.string (strB x)] 9)) w.heap.size 9 [.string (strB x)] := RowAt.of (heap_alloc_new w _)
  obtain ⟨v', w', h1, h2, h3, h4⟩ := ap_own 38 ty 9 1 16 _ (by omega) infoS Try.underlying38 rfl (.slice a ws.length cap) ws.length (ws.map txt) ho1 w.heap.size 1 1 9 _ hnew rfl (fun u hu => by simp at hu; subst hu; rfl) (by omega) (by omega)
  obtain ⟨a', c', rfl, _⟩ := own_slice h2
  have hsz := hW.size
  have htv : TlV w' t f (.slice a ws.length cap) := ((h3.block t (Nat.lt_of_lt_of_le htl hsz) (fun e => hne t e.symm rfl)).trans (hW.block t htl)).trans hv
  have hblk : ∀ k, (Value.slice a' (ws.length + 1) c').ownBlock = some k → (Value.slice a ws.length cap).ownBlock = some k ∨ (w.heap.size ≤ k ∧ k < w'.heap.size) := fun k hk => (h4 k hk).imp id (fun h => ⟨Nat.le_trans hsz h.1, h.2⟩)
  have hkb : Keep (fun k => k = t ∨ base ≤ k) w w' := ((Keep.refl (fun k => k = t ∨ base ≤ k) w).alloc _).grown h3 (fun k hk _ => .inr (ho.lt k hk).1)
  suffices hs : Pair w0 (w'.setCell ⟨t, 1, none⟩ (.slice a' (ws.length + 1) c')) A (atTl base t f (ws ++ [x])) L ∧ ∀ k, L k → (w'.setCell ⟨t, 1, none⟩ (.slice a' (ws.length + 1) c')).heap[k]? = w.heap[k]? from ⟨a', c', w', h1, htv, hs.1, hs.2, hkb.setCell (fun _ => .inl rfl) _⟩
  refine h.step sA fun R ⟨v, q1, q2, q3, q4, q5⟩ => ?_
  have e := q1.symm.trans hv
  simp at e
  subst e
  have hkeep : Keep R w w' := ((Keep.refl R w).alloc _).grown h3 (fun k hk _ => (q4 k hk).1)
  refine ⟨⟨_, htv.set _, ?_, .inl q3, fun k hk => ?_, fun k hk => ?_⟩, hkeep.setCell (fun _ => q3) _⟩
  · unfold OwnSS
    rw [List.length_append, List.map_append]
    have h2' : w'.ownsRow base 9 1 (.slice a' (ws.length + 1) c') (ws.length + 1) (ws.map txt ++ [.string (strB x)]) := ownsRow_base h2 (fun k hk => by
      rcases hblk k hk with hk | hk
      · exact (ho.lt k hk).1
      · omega)
    refine ownsRow_same h2' (fun k hk => heap_setCell_other _ _ _ _ (fun e => ?_))
    rcases hblk k hk with hk | hk
    · exact hne k hk e
    · simp only at e; omega
  · rcases hblk k hk with hk | hk
    · exact ⟨.inl (q4 k hk).1, (q4 k hk).2⟩
    · exact ⟨.inr ⟨hk.1, by simpa [World.setCell] using hk.2⟩, by omega⟩
  · rcases hk with hk | hk
    · have := q5 k hk
      have := hkeep.size
      simp [World.setCell]
      omega
    · exact hk.2
end
end

/- RlTale3: A tale's words copied, with one more. -/
section
set_option maxRecDepth 100000
open Go.RowKit

theorem str_one (l : List Nat) : (txt l).oneCell' = true := rfl

/-- Texts behind a row of none. -/
theorem copy_row (w : World) (base r : Nat) (hown : OwnSS w base (.slice (some ⟨r, 0, none⟩) 0 0) []) (hbase : base ≤ w.heap.size) (A : Option Addr) (cA : Nat) (ws : List (List Nat)) (hy : SSP w A cA ws) (hn : ws.length ≤ 100000) (ty : TypeId) :
    ∃ a1 c1 w1, ApR 38 ty (.slice (some ⟨r, 0, none⟩) 0 0) (.slice A ws.length cA) w = .ok (.value (.slice a1 ws.length c1)) w1 ∧ OwnSS w1 base (.slice a1 ws.length c1) ws ∧ w.grownBy w1 (some r) := by
  obtain ⟨i0, hi0, hz0, hzs, hzb⟩ := info_parts infoS
  have key : ∀ v' w', (Builtin.append_ #[38, 38] ty #[.slice (some ⟨r, 0, none⟩) 0 0, .slice A ws.length cA]).run Try.prog w = .ok v' w' → ApR 38 ty (.slice (some ⟨r, 0, none⟩) 0 0) (.slice A ws.length cA) w = .ok (.value v') w' := by
    intro v' w' h
    simp only [ApR, Sem.run_bind, h, Sem.run_pure, Result.andThen_ok]
  cases A with
  | none =>
    have hy0 : ws = [] := by
      cases ws with
      | nil => rfl
      | cons y r =>
        obtain ⟨b, o, e, _⟩ := hy.cell (by simp)
        cases e
    subst hy0
    have hsrc : Src Try.prog i0.size 38 (.slice none 0 cA) 0 [] w := Src.ofNil _ Try.underlying38 cA
    have hr := run_append_room_src w 38 38 ty 9 i0 Try.underlying38 hi0 r 0 0 0 _ 0 [] hsrc (by omega) (by simp) (by simp)
    exact ⟨_, _, _, key _ _ hr, hown, grown_refl _ _⟩
  | some ad =>
    have hc : ∀ j u, (ws.map txt)[j]? = some u → w.cell? (ad.add j) = some u := by
      intro j u hj
      have hne : ws ≠ [] := by intro e; subst e; simp at hj
      obtain ⟨b, o, e, _, hc⟩ := hy.cell hne
      injection e with e
      subst e
      rw [Addr.add_lit]
      rw [List.getElem?_map] at hj
      obtain ⟨x, hx, rfl⟩ := Option.map_eq_some_iff.1 hj
      exact hc j x hx
    obtain ⟨v', w', hr, h1, h2, _⟩ := run_append_own w base 38 ty 9 i0 _ 1 16 Try.underlying38 hi0 hz0 hzs hzb rfl (by decide) _ 0 _ hown ad ws.length cA (ws.map txt) (by simp) hc (fun u hu => by obtain ⟨x, _, rfl⟩ := List.mem_map.1 hu; rfl) (by unfold maxLen; omega) (by omega) hbase
    obtain ⟨a', c', rfl, _⟩ := own_slice h1
    rw [Nat.zero_add] at hr h1
    exact ⟨a', c', w', key _ _ hr, h1, h2⟩
/-- One text more, that lies at a block of its own. -/
theorem push_row (w : World) (base : Nat) (v : Value) (ls : List (List Nat)) (h : OwnSS w base v ls) (hbase : base ≤ w.heap.size) (s : Nat) (l : List Nat) (hs : RowAt w s 9 [.string (strB l)]) (hn : ls.length < 100000) (ty : TypeId) :
    ∃ a' c' w', ApR 38 ty v (.slice (some ⟨s, 0, none⟩) 1 1) w = .ok (.value (.slice a' (ls.length + 1) c')) w' ∧ OwnSS w' base (.slice a' (ls.length + 1) c') (ls ++ [l]) ∧ w.grownBy w' v.ownBlock := by
  have ho1 : w.ownsRow 0 9 1 v ls.length (ls.map txt) := ownsRow_base h (fun k _ => Nat.zero_le k)
  obtain ⟨v', w', h1, h2, h3, h4⟩ := ap_own 38 ty 9 1 16 _ (by omega) infoS Try.underlying38 rfl v ls.length (ls.map txt) ho1 s 1 1 9 _ hs rfl (fun u hu => by simp at hu; subst hu; rfl) (by omega) (by omega)
  obtain ⟨a', c', rfl, _⟩ := own_slice h2
  refine ⟨a', c', w', h1, ?_, h3⟩
  unfold OwnSS
  rw [List.length_append, List.map_append]
  exact ownsRow_base h2 (fun k hk => (h4 k hk).elim (fun h' => (h.lt k h').1) (fun h' => by omega))

/-- The three orders of a copy and a word more. -/
theorem copy_push (w : World) (A : Option Addr) (cA : Nat) (ws : List (List Nat)) (hy : SSP w A cA ws) (hn : ws.length < 100000) (l : List Nat) (ty : TypeId) :
    (∃ a1 c1 w1 a2 c2 w2, ApR 38 ty (.slice (some ⟨w.heap.size, 0, none⟩) 0 0) (.slice A ws.length cA) (w.alloc (.cells #[] 9)) = .ok (.value (.slice a1 ws.length c1)) w1 ∧ Below w.heap.size w w1 ∧
      ApR 38 ty (.slice a1 ws.length c1) (.slice (some ⟨w1.heap.size, 0, none⟩) 1 1) (w1.alloc (.cells #[.string (strB l)] 9)) = .ok (.value (.slice a2 (ws.length + 1) c2)) w2 ∧ OwnSS w2 w.heap.size (.slice a2 (ws.length + 1) c2) (ws ++ [l]) ∧ Below w.heap.size w w2) ∧
    (∃ a1 c1 w1 a2 c2 w2, ApR 38 ty (.slice (some ⟨w.heap.size, 0, none⟩) 0 0) (.slice A ws.length cA) ((w.alloc (.cells #[] 9)).alloc (.cells #[.string (strB l)] 9)) = .ok (.value (.slice a1 ws.length c1)) w1 ∧
      ApR 38 ty (.slice a1 ws.length c1) (.slice (some ⟨w.heap.size + 1, 0, none⟩) 1 1) w1 = .ok (.value (.slice a2 (ws.length + 1) c2)) w2 ∧ OwnSS w2 w.heap.size (.slice a2 (ws.length + 1) c2) (ws ++ [l]) ∧ Below w.heap.size w w2) ∧
    (∃ a1 c1 w1 a2 c2 w2, ApR 38 ty (.slice (some ⟨w.heap.size + 1, 0, none⟩) 0 0) (.slice A ws.length cA) ((w.alloc (.cells #[.string (strB l)] 9)).alloc (.cells #[] 9)) = .ok (.value (.slice a1 ws.length c1)) w1 ∧
      ApR 38 ty (.slice a1 ws.length c1) (.slice (some ⟨w.heap.size, 0, none⟩) 1 1) w1 = .ok (.value (.slice a2 (ws.length + 1) c2)) w2 ∧ OwnSS w2 w.heap.size (.slice a2 (ws.length + 1) c2) (ws ++ [l]) ∧ Below w.heap.size w w2) := by
  have bE := (Below.refl w.heap.size w).alloc (Nat.le_refl _) (.cells #[] 9)
  have bS := (Below.refl w.heap.size w).alloc (Nat.le_refl _) (.cells #[.string (strB l)] 9)
  have bES := bE.alloc bE.size (.cells #[.string (strB l)] 9)
  have bSE := bS.alloc bS.size (.cells #[] 9)
  refine ⟨?_, ?_, ?_⟩
  · obtain ⟨a1, c1, w1, e1, o1, g1⟩ := copy_row (w.alloc (.cells #[] 9)) w.heap.size w.heap.size (ownSS_fresh w w.heap.size (Nat.le_refl _)) bE.size A cA ws (hy.below bE) (by omega) ty
    have b1 : Below w.heap.size w w1 := bE.grown g1 bE.size (fun k hk => by injection hk with hk; omega)
    have b2 := b1.alloc b1.size (.cells #[.string (strB l)] 9)
    obtain ⟨a2, c2, w2, e2, o2, g2⟩ := push_row (w1.alloc (.cells #[.string (strB l)] 9)) w.heap.size _ ws (o1.below ((Below.refl w1.heap.size w1).alloc (Nat.le_refl _) _)) b2.size w1.heap.size l (RowAt.of (heap_alloc_new w1 _)) hn ty
    exact ⟨a1, c1, w1, a2, c2, w2, e1, b1, e2, o2, b2.grown g2 b2.size (fun k hk => (o1.lt k hk).1)⟩
  · have f1 := (ownSS_fresh w w.heap.size (Nat.le_refl _)).below ((Below.refl (w.alloc (.cells #[] 9)).heap.size (w.alloc (.cells #[] 9))).alloc (Nat.le_refl _) (.cells #[.string (strB l)] 9))
    obtain ⟨a1, c1, w1, e1, o1, g1⟩ := copy_row _ w.heap.size w.heap.size f1 bES.size A cA ws (hy.below bES) (by omega) ty
    have b1 : Below w.heap.size w w1 := bES.grown g1 bES.size (fun k hk => by injection hk with hk; omega)
    have hr : RowAt w1 (w.heap.size + 1) 9 [.string (strB l)] := by
      obtain ⟨cur, h1, h2⟩ := RowAt.of (heap_alloc_new (w.alloc (.cells #[] 9)) (.cells #[.string (strB l)] 9))
      refine ⟨cur, (g1.block _ (by simp) (by simp)).trans ?_, h2⟩
      simpa using h1
    obtain ⟨a2, c2, w2, e2, o2, g2⟩ := push_row w1 w.heap.size _ ws o1 b1.size (w.heap.size + 1) l hr hn ty
    exact ⟨a1, c1, w1, a2, c2, w2, e1, e2, o2, b1.grown g2 b1.size (fun k hk => (o1.lt k hk).1)⟩
  · have f1 : OwnSS ((w.alloc (.cells #[.string (strB l)] 9)).alloc (.cells #[] 9)) w.heap.size (.slice (some ⟨w.heap.size + 1, 0, none⟩) 0 0) [] := by
      have := ownSS_fresh (w.alloc (.cells #[.string (strB l)] 9)) w.heap.size bS.size
      simpa using this
    obtain ⟨a1, c1, w1, e1, o1, g1⟩ := copy_row _ w.heap.size (w.heap.size + 1) f1 bSE.size A cA ws (hy.below bSE) (by omega) ty
    have b1 : Below w.heap.size w w1 := bSE.grown g1 bSE.size (fun k hk => by injection hk with hk; omega)
    have hr : RowAt w1 w.heap.size 9 [.string (strB l)] := by
      obtain ⟨cur, h1, h2⟩ := RowAt.of (heap_alloc_new w (.cells #[.string (strB l)] 9))
      exact ⟨cur, (g1.block _ (by simp; omega) (by simp)).trans ((Below.heap_alloc _ _ _ (by simp)).trans h1), h2⟩
    obtain ⟨a2, c2, w2, e2, o2, g2⟩ := push_row w1 w.heap.size _ ws o1 b1.size w.heap.size l hr hn ty
    exact ⟨a1, c1, w1, a2, c2, w2, e1, e2, o2, b1.grown g2 b1.size (fun k hk => (o1.lt k hk).1)⟩

/-- The same behind a draw. -/
theorem copy_push_drew (w : World) (A : Option Addr) (cA : Nat) (ws : List (List Nat)) (hy : SSP w A cA ws) (hn : ws.length < 100000) (l : List Nat) (ty : TypeId) :
    (∃ a1 c1 w1 a2 c2 w2, ApR 38 ty (.slice (some ⟨w.heap.size, 0, none⟩) 0 0) (.slice A ws.length cA) (w.alloc (.cells #[] 9)).drew = .ok (.value (.slice a1 ws.length c1)) w1 ∧ Below w.heap.size w.drew w1 ∧
      ApR 38 ty (.slice a1 ws.length c1) (.slice (some ⟨w1.heap.size, 0, none⟩) 1 1) (w1.alloc (.cells #[.string (strB l)] 9)) = .ok (.value (.slice a2 (ws.length + 1) c2)) w2 ∧ OwnSS w2 w.heap.size (.slice a2 (ws.length + 1) c2) (ws ++ [l]) ∧ Below w.heap.size w.drew w2) ∧
    (∃ a1 c1 w1 a2 c2 w2, ApR 38 ty (.slice (some ⟨w.heap.size, 0, none⟩) 0 0) (.slice A ws.length cA) ((w.alloc (.cells #[] 9)).alloc (.cells #[.string (strB l)] 9)).drew = .ok (.value (.slice a1 ws.length c1)) w1 ∧
      ApR 38 ty (.slice a1 ws.length c1) (.slice (some ⟨w.heap.size + 1, 0, none⟩) 1 1) w1 = .ok (.value (.slice a2 (ws.length + 1) c2)) w2 ∧ OwnSS w2 w.heap.size (.slice a2 (ws.length + 1) c2) (ws ++ [l]) ∧ Below w.heap.size w.drew w2) ∧
    (∃ a1 c1 w1 a2 c2 w2, ApR 38 ty (.slice (some ⟨w.heap.size + 1, 0, none⟩) 0 0) (.slice A ws.length cA) ((w.alloc (.cells #[.string (strB l)] 9)).alloc (.cells #[] 9)).drew = .ok (.value (.slice a1 ws.length c1)) w1 ∧
      ApR 38 ty (.slice a1 ws.length c1) (.slice (some ⟨w.heap.size, 0, none⟩) 1 1) w1 = .ok (.value (.slice a2 (ws.length + 1) c2)) w2 ∧ OwnSS w2 w.heap.size (.slice a2 (ws.length + 1) c2) (ws ++ [l]) ∧ Below w.heap.size w.drew w2) :=
  copy_push w.drew A cA ws (hy.below (Below.refl _ _).drew) hn l ty

theorem TlV.set0 {w : World} {t : Nat} {f : List Nat} {v : Value} (h : TlV w t f v) (f' : List Nat) : TlV (w.setCell ⟨t, 0, none⟩ (.string (strB f'))) t f' v := by
  unfold TlV at *
  rw [heap_setCell_same w t 0 _ _ _ h]
  rfl
theorem upd_setc (w : World) (t o : Nat) (v : Value) : Upd t w (w.setCell ⟨t, o, none⟩ v) :=
  ⟨rfl, rfl, rfl, by simp [World.setCell], fun k hk => heap_setCell_other _ _ _ _ hk⟩
theorem Upd.two {t : Nat} {a b c : World} (h : Upd t a b) (k : Upd t b c) : Upd t a c :=
  ⟨k.os.trans h.os, k.tape.trans h.tape, k.output.trans h.output, k.size.trans h.size, fun i hi => (k.block i hi).trans (h.block i hi)⟩
/-- A whole tale is stored, a cell after the other. -/
theorem TlV.whole {w : World} {t : Nat} {f : List Nat} {v : Value} (h : TlV w t f v) (f' : List Nat) :
    w.cell? ⟨t, 0, none⟩ = some (.string (strB f)) ∧ w.frozen? ⟨t, 0, none⟩ = false ∧ (w.setCell ⟨t, 0, none⟩ (.string (strB f'))).cell? ⟨t, 1, none⟩ = some v ∧ (w.setCell ⟨t, 0, none⟩ (.string (strB f'))).frozen? ⟨t, 1, none⟩ = false ∧
      Upd t w ((w.setCell ⟨t, 0, none⟩ (.string (strB f'))).setCell ⟨t, 1, none⟩ (.slice none 0 0)) ∧ TlV ((w.setCell ⟨t, 0, none⟩ (.string (strB f'))).setCell ⟨t, 1, none⟩ (.slice none 0 0)) t f' (.slice none 0 0) :=
  ⟨h.cells.1, h.cells.2.2.1, (h.set0 f').cells.2.1, (h.set0 f').cells.2.2.2, (upd_setc w t 0 _).two (upd_setc _ t 1 _), (h.set0 f').set _⟩

section
variable {w0 w w2 : World} {A : World → (Nat → Prop) → Prop} {L : Nat → Prop} {base t : Nat} {f : List Nat} {ws ws' : List (List Nat)}

/-- A new row in the words' place. -/
theorem Pair.renewed (sA : Stays A) (h : Pair w0 w A (atTl base t f ws) L) (hbase : base ≤ w0.heap.size) (hb : Below w.heap.size w w2) {a' : Option Addr} {n' c' : Nat} (ho : OwnSS w2 w.heap.size (.slice a' n' c') ws') :
    Pair w0 (w2.setCell ⟨t, 1, none⟩ (.slice a' n' c')) A (atTl base t f ws') L ∧ ∀ k, L k → (w2.setCell ⟨t, 1, none⟩ (.slice a' n' c')).heap[k]? = w.heap[k]? := by
  have hlow := (Pair.low h).size
  refine h.step sA fun R ⟨v, q1, q2, q3, q4, q5⟩ => ?_
  have htl := q5 t q3
  have htv : TlV w2 t f v := (hb.block t htl).trans q1
  have hkeep : Keep R w w2 := (Keep.refl R w).of_below hb
  have hown : ∀ k, (Value.slice a' n' c').ownBlock = some k → w.heap.size ≤ k ∧ k < w2.heap.size := fun k hk => ho.lt k hk
  refine ⟨⟨_, htv.set _, ?_, .inl q3, fun k hk => ⟨.inr ⟨(hown k hk).1, by simpa [World.setCell] using (hown k hk).2⟩, by have := (hown k hk).1; omega⟩, fun k hk => ?_⟩, hkeep.setCell (fun _ => q3) _⟩
  · exact ownsRow_same (ownsRow_base ho (fun k hk => by have := (hown k hk).1; omega)) (fun k hk => heap_setCell_other _ _ _ _ (fun e => by have := (hown k hk).1; simp only at e; omega))
  · rcases hk with hk | hk
    · have := q5 k hk
      have := hkeep.size
      simp [World.setCell]
      omega
    · exact hk.2
end
end

end Go.Proofs.Ytipikkniookanaa
