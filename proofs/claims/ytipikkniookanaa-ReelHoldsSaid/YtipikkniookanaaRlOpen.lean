/- What Open of package reel answers. -/
import Derived.Test.YtipikkniookanaaRlObj
namespace Go.Proofs.Ytipikkniookanaa
set_option maxRecDepth 100000
open Go.RowKit

/-- What is told behind so many sides. -/
def toldK (s : List (List Nat)) (k : Nat) : Nat × Nat × List (List Nat) := if k = 0 then (1, 0, []) else if k = 1 then told0 s else toldL s
theorem toldK_zero (s : List (List Nat)) : toldK s 0 = (1, 0, []) := rfl
theorem toldK_two (s : List (List Nat)) : toldK s 2 = toldL s := rfl
theorem toldK_step (s : List (List Nat)) (k : Nat) (hk : k < 2) : toldK s (k + 1) = if 0 < (rowOf s (k : Int)).2.1.length ∧ (toldK s k).2.1 < (rowOf s (k : Int)).1 then (k, (rowOf s (k : Int)).1, (rowOf s (k : Int)).2.1) else toldK s k := by
  have h : ∀ l : List (List Nat), l ≠ [] ↔ 0 < l.length := fun l => by cases l <;> simp
  match k, hk with
  | 0, _ => show told0 s = _; unfold told0; simp only [h]; rfl
  | 1, _ => show toldL s = _; unfold toldL; simp only [h]; rfl

theorem told_le {s : List (List Nat)} (h : Cells s) : (toldL s).2.2.length ≤ s.length ∧ ∀ x ∈ (toldL s).2.2, Word x := by
  obtain ⟨_, h1, h2⟩ := rowOf_le h 0
  obtain ⟨_, h3, h4⟩ := rowOf_le h 1
  unfold toldL
  split
  · exact ⟨by simp only; omega, h4⟩
  · unfold told0
    split
    · exact ⟨by simp only; omega, h2⟩
    · exact ⟨by simp, fun x hx => by simp at hx⟩

theorem LLP.head {w : World} {a : Option Addr} {c : Nat} {l : List Nat} {ls : List (List Nat)} (h : LLP w a c (l :: ls)) : ∃ b o a' c', a = some ⟨b, o, none⟩ ∧ w.cell? ⟨b, o, none⟩ = some (.slice a' l.length c') ∧ BytesP w a' c' l := by
  obtain ⟨b, o, rfl, h1, h2⟩ := h.cell (by simp)
  obtain ⟨a', c', h3, h4⟩ := h2 0 l rfl
  exact ⟨b, o, a', c', rfl, h3, h4⟩
theorem slice_ll {a : Option Addr} {n c : Nat} (_hc : n ≤ c) (k : Nat) (hk : k ≤ n) (W : World) : (Instr.slice 25 (.slice a n c) (some (.int .i64 (k : Int))) none none).run Try.prog W = .ok (.slice (if c = k then a else a.map (·.add k)) (n - k) (c - k)) W := by
  obtain ⟨i0, hi0, hz0, hzs, hzb⟩ := info_parts infoB
  have hz : (Go.sizeOf 24).run Try.prog W = .ok 1 W := by simp [Go.sizeOf, typeInfo, hi0, hzs]
  have h0 : ¬ ((k : Int) < 0) := by omega
  simp [Instr.slice, run_underlying Try.underlying25, Instr.sliceBounds, run_sliceBound, hk]
theorem LLP.tail {w : World} {b o c : Nat} {l : List Nat} {ls : List (List Nat)} (h : LLP w (some ⟨b, o, none⟩) c (l :: ls)) :
    ∃ a' c', (∀ W, (Instr.slice 25 (.slice (some ⟨b, o, none⟩) (ls.length + 1) c) (some (.int .i64 1)) none none).run Try.prog W = .ok (.slice a' ls.length c') W) ∧ ∀ W, LLP W (some ⟨b, o, none⟩) c (l :: ls) → LLP W a' c' ls := by
  have hc := h.cap
  have hl := h.len
  simp only [List.length_cons] at hc hl
  obtain ⟨i0, hi0, hz0, hzs, hzb⟩ := info_parts infoB
  refine ⟨if c = 1 then some ⟨b, o, none⟩ else some ⟨b, o + 1, none⟩, c - 1, fun W => ?_, fun W hW => ⟨by omega, by omega, fun hne => ?_⟩⟩
  · have h3 := slice_ll (a := some ⟨b, o, none⟩) (n := ls.length + 1) (c := c) hc 1 (by omega) W
    have e : (if c = 1 then (some ⟨b, o, none⟩ : Option Addr) else (some ⟨b, o, none⟩ : Option Addr).map (·.add 1)) = if c = 1 then some ⟨b, o, none⟩ else some ⟨b, o + 1, none⟩ := by rw [Option.map_some, Addr.add_lit]
    rw [e] at h3
    exact h3
  · have h2 : c ≠ 1 := by
      have := List.length_pos_iff.2 hne
      omega
    obtain ⟨b', o', e, h3, h4⟩ := hW.cell (by simp)
    injection e with e
    injection e with e1 e2
    subst e1 e2
    rw [if_neg h2]
    refine ⟨_, _, rfl, h3, fun j m hj => ?_⟩
    obtain ⟨a', c', h5, h6⟩ := h4 (j + 1) m (by simpa using hj)
    exact ⟨a', c', by rw [show o + 1 + j = o + (j + 1) by omega]; exact h5, h6⟩

/-- A reel that isn't ready, a tale and words; all that was there stays. -/
def OpenRPost (g : Nat) (t : Nat × Nat × List (List Nat)) (w : World) (e : Ending) (w' : World) : Prop :=
  ∃ b ta tc wa wc, e = .returned (.tuple #[ptr b, .slice ta (t.2.2.headD []).length tc, .slice wa t.2.2.tail.length wc]) ∧ w.heap.size ≤ b ∧ RlV w' b g t.1 false ∧ BytesP w' ta tc (t.2.2.headD []) ∧ LLP w' wa wc t.2.2.tail ∧ Below w.heap.size w w'

/-- The same, in memory that is the caller's own. -/
def OpenRMore (g : Nat) (t : Nat × Nat × List (List Nat)) (w : World) (e : Ending) (w' : World) : Prop :=
  ∃ b ta tc wa wc, e = .returned (.tuple #[ptr b, .slice ta (t.2.2.headD []).length tc, .slice wa t.2.2.tail.length wc]) ∧ w.heap.size ≤ b ∧ RlV w' b g t.1 false ∧ BytesP w' ta tc (t.2.2.headD []) ∧ LLP w' wa wc t.2.2.tail ∧ Below w.heap.size w w' ∧ ∀ W, w'.heap.size ≤ W.heap.size → (∀ k, w.heap.size ≤ k → k < w'.heap.size → W.heap[k]? = w'.heap[k]?) → BytesP W ta tc (t.2.2.headD []) ∧ LLP W wa wc t.2.2.tail

set_option maxHeartbeats 4000000 in
theorem ropen_more {w : World} {R : Nat → Prop} {g bs bl : Nat} {lv : Value} {P : Pl} (h : PlM w R g bs bl lv P) : Calls Try.prog 10 #[ptr g] w (OpenRMore g (toldL P.last) w) := by
  have HP := Lib.hid h
  have HCL := Lib.hid h.good.cl
  have hmm := h.good.most
  have hsz := h.good.size
  have hll : P.last.length ≤ 4096 := by omega
  clear h hmm hsz
  obtain ⟨W0, hW0⟩ : ∃ W0, (w.alloc (.cells #[ptr g, .int .i64 1, .bool false] 62)).alloc (.cells #[.int .u64 0, .int .i64 0, .slice none 0 0] 64) = W0 := ⟨_, rfl⟩
  have hz0 : W0.heap.size = w.heap.size + 2 := by rw [← hW0]; simp
  have b0 : Below w.heap.size w W0 := by rw [← hW0]; exact ((Below.refl w.heap.size w).alloc (Nat.le_refl _) _).alloc (by simp) _
  have v0 : RlV W0 w.heap.size g 1 false := by rw [← hW0]; unfold RlV; rw [Below.heap_alloc _ _ _ (by simp)]; exact heap_alloc_new w _
  have r0 : RowV W0 (w.heap.size + 1) (.int .u64 0) (.int .i64 0) (.slice none 0 0) := by rw [← hW0]; exact alloc_at (by simp)
  have HW0 := Lib.hid hW0
  have B0 := Lib.hid b0
  have V0 := Lib.hid v0
  have R0 := Lib.hid r0
  clear hW0 b0 v0 r0
  go_enter Try.func10, Try.ntmps10
  go_wp2_with fail
  rw [HW0.out]
  go_loopw [13] (fun i wr => ∃ (k : Nat) (y : Value) (a : Option Addr) (c : Nat), i = .int .i64 (k : Int) ∧ k ≤ 2 ∧ Hid (RlV wr w.heap.size g (toldK P.last k).1 false) ∧ Hid (RowV wr (w.heap.size + 1) (.int .u64 ((toldK P.last k).2.1 : Int)) y (.slice a (toldK P.last k).2.2.length c)) ∧ Hid (y.oneCell' = true) ∧ Hid (OwnG wr (w.heap.size + 2) (.slice a (toldK P.last k).2.2.length c) (toldK P.last k).2.2) ∧ Hid (Below w.heap.size w wr) ∧ w.heap.size + 2 ≤ wr.heap.size) (fun i _ => 2 - (intOf i).toNat)
  case atStart => exact ⟨0, .int .i64 0, none, 0, rfl, by omega, V0, R0, Lib.hid rfl, Lib.hid (ownG_nil _ _), B0, by omega⟩
  case round =>
    obtain ⟨k, y, a, c, rfl, hk, HV, HR, HY, HO, HB, hsz⟩ := hrel
    by_cases hlt : k < 2
    · have CR := Lib.hid (rowOn_any (HP.out.below HB.out) (k : Int))
      have HS := Lib.hid (toldK_step P.last k hlt)
      have HRL := Lib.hid (rowOf_le HCL.out (k : Int))
      obtain ⟨rd, ls, q, hrw⟩ : ∃ rd ls q, rowOf P.last (k : Int) = (rd, ls, q) := ⟨_, _, _, rfl⟩
      rw [hrw] at CR HS HRL
      dsimp only at HS HRL
      clear hrw
      obtain ⟨sd, pr, bo, htk⟩ : ∃ sd pr bo, toldK P.last k = (sd, pr, bo) := ⟨_, _, _, rfl⟩
      rw [htk] at HV HR HO HS
      dsimp only at HV HR HO HS
      clear htk
      go_wp2_with fail
      refine CR.out.mono ?_
      rintro e w1 ⟨a1, c1, rfl, o1, b1⟩
      have bx := (Below.refl w1.heap.size w1).alloc (Nat.le_refl _) (.cells #[.int .u64 (rd : Int), .int .i64 (q : Int), .slice a1 ls.length c1] 64)
      have vx := RowV.new w1 (.int .u64 (rd : Int)) (.int .i64 (q : Int)) (.slice a1 ls.length c1)
      have bb := b1.trans (bx.mono b1.size)
      have CW := Lib.hid (whole_any (.int .u64 (rd : Int)) (.int .i64 (q : Int)) a1 ls.length c1 (w1.alloc (.cells #[.int .u64 (rd : Int), .int .i64 (q : Int), .slice a1 ls.length c1] 64)))
      have VX := Lib.hid vx
      have BX := Lib.hid bb
      have OX := Lib.hid ((o1.base (base' := w.heap.size + 2) hsz).below bx)
      have HW1 := Lib.hid b1.size
      clear bx vx bb b1 o1
      go_wp2_with fail
      refine CW.out.mono ?_
      rintro e w2 ⟨rfl, b2⟩
      have hb2 := BX.out.trans (b2.mono BX.out.size)
      have V2 := VX.out.same (b2.block _ VX.out.lt)
      have VL := HR.out.same (hb2.block _ HR.out.lt)
      have VR := HV.out.same (hb2.block _ HV.out.lt)
      obtain ⟨x0, x1, x2, _⟩ := V2.cells
      obtain ⟨l0, l1, l2, y0, y1, y2⟩ := VL.cells
      obtain ⟨_, s1, _, t1, _⟩ := VR.cells
      have O2 := Lib.hid (OX.out.below b2)
      have OL := Lib.hid (HO.out.below hb2)
      have HBW := Lib.hid (HB.out.trans (hb2.mono HB.out.size))
      have hsz2 : w.heap.size + 2 ≤ w2.heap.size := Nat.le_trans hsz hb2.size
      have V2H := Lib.hid V2
      have hw1 := Lib.hid (show w.heap.size + 2 ≤ w1.heap.size from Nat.le_trans hsz HW1.out)
      have HVL := Lib.hid VL
      have HVR := Lib.hid VR
      clear V2 VX OX BX b2 VL VR HO HR HV hb2 CR CW
      by_cases h0 : 0 < ls.length
      · by_cases h1 : pr < rd
        · have E := Lib.hid (show toldK P.last (k + 1) = (k, rd, ls) by rw [HS.out, if_pos ⟨h0, h1⟩])
          have hV5 := (HVR.out.set1 k)
          have hL5 := (((HVL.out.same (heap_setCell_other w2 ⟨w.heap.size, 1, none⟩ (w.heap.size + 1) (.int .i64 (k : Int)) (by simp))).set0 (.int .u64 (rd : Int))).set1 (.int .i64 (q : Int))).set2 (.slice a1 ls.length c1)
          have hV6 := hV5.same (w' := (((w2.setCell ⟨w.heap.size, 1, none⟩ (.int .i64 (k : Int))).setCell ⟨w.heap.size + 1, 0, none⟩ (.int .u64 (rd : Int))).setCell ⟨w.heap.size + 1, 1, none⟩ (.int .i64 (q : Int))).setCell ⟨w.heap.size + 1, 2, none⟩ (.slice a1 ls.length c1)) (by
            rw [heap_setCell_other _ _ _ _ (by simp), heap_setCell_other _ _ _ _ (by simp), heap_setCell_other _ _ _ _ (by simp)])
          have hO5 := O2.out.keep (w' := (((w2.setCell ⟨w.heap.size, 1, none⟩ (.int .i64 (k : Int))).setCell ⟨w.heap.size + 1, 0, none⟩ (.int .u64 (rd : Int))).setCell ⟨w.heap.size + 1, 1, none⟩ (.int .i64 (q : Int))).setCell ⟨w.heap.size + 1, 2, none⟩ (.slice a1 ls.length c1)) (by simp [World.setCell]) (fun j hj _ => by
            rw [heap_setCell_other _ _ _ _ (by simp; omega), heap_setCell_other _ _ _ _ (by simp; omega), heap_setCell_other _ _ _ _ (by simp; omega), heap_setCell_other _ _ _ _ (by simp; omega)])
          have hB5 := (((HBW.out.setCell (p := ⟨w.heap.size, 1, none⟩) (Nat.le_refl _) (.int .i64 (k : Int))).setCell (p := ⟨w.heap.size + 1, 0, none⟩) (by simp) (.int .u64 (rd : Int))).setCell (p := ⟨w.heap.size + 1, 1, none⟩) (by simp) (.int .i64 (q : Int))).setCell (p := ⟨w.heap.size + 1, 2, none⟩) (by simp) (.slice a1 ls.length c1)
          have HV6 := Lib.hid hV6
          have HL5 := Lib.hid hL5
          have HO5 := Lib.hid hO5
          have HB5 := Lib.hid hB5
          have t0 : decide (0 < ls.length) = true := by simpa using h0
          rw [t0]
          have hS5 := Lib.hid (show (((w2.setCell ⟨w.heap.size, 1, none⟩ (.int .i64 (k : Int))).setCell ⟨w.heap.size + 1, 0, none⟩ (.int .u64 (rd : Int))).setCell ⟨w.heap.size + 1, 1, none⟩ (.int .i64 (q : Int))).heap.size = w2.heap.size by simp [World.setCell])
          obtain ⟨d0, d1, d2, _⟩ := (V2H.out.same (heap_setCell_other w2 ⟨w.heap.size, 1, none⟩ w1.heap.size (.int .i64 (k : Int)) (by simp; have := hw1.out; omega))).cells
          clear hV5 hL5 hV6 hO5 hB5
          go_wp2_with fail
          go_region
          all_goals
            go_wp2_with fail
            go_roundw
            case rel => exact ⟨k + 1, .int .i64 (q : Int), a1, c1, by go_num, by omega, by rw [E.out]; exact HV6, by rw [E.out]; exact HL5, Lib.hid rfl, by rw [E.out]; exact Lib.hid (HO5.out.below (Below.refl _ _).drew), Lib.hid HB5.out.drew, by simpa [World.setCell, World.drew] using hsz2⟩
            case measure => simp [intOf]; omega
        · have E := Lib.hid (show toldK P.last (k + 1) = (sd, pr, bo) by rw [HS.out, if_neg (fun h => h1 h.2)])
          have t0 : decide (0 < ls.length) = true := by simpa using h0
          rw [t0]
          go_wp2_with fail
          go_roundw
          case rel => exact ⟨k + 1, y, a, c, by go_num, by omega, by rw [E.out]; exact HVR, by rw [E.out]; exact HVL, HY, by rw [E.out]; exact OL, HBW, hsz2⟩
          case measure => simp [intOf]; omega
      · have E := Lib.hid (show toldK P.last (k + 1) = (sd, pr, bo) by rw [HS.out, if_neg (fun h => h0 h.1)])
        have t0 : decide (0 < ls.length) = false := by simpa using h0
        rw [t0]
        go_wp2_with fail
        go_roundw
        case rel => exact ⟨k + 1, y, a, c, by go_num, by omega, by rw [E.out]; exact HVR, by rw [E.out]; exact HVL, HY, by rw [E.out]; exact OL, HBW, hsz2⟩
        case measure => simp [intOf]; omega
    · have hk2 : k = 2 := by omega
      have HE := Lib.hid (show toldK P.last k = toldL P.last by rw [hk2]; rfl)
      rw [HE.out] at HV HR HO
      obtain ⟨sd, pr, bo, htk⟩ : ∃ sd pr bo, toldL P.last = (sd, pr, bo) := ⟨_, _, _, rfl⟩
      rw [htk] at HV HR HO
      dsimp only at HV HR HO
      have HTK := Lib.hid htk
      have hbl : bo.length ≤ 1000000 := by
        have := (told_le HCL.out).1
        rw [htk] at this
        dsimp only at this
        omega
      clear htk
      obtain ⟨l0, l1, l2, _⟩ := HR.out.cells
      have CW := Lib.hid (whole_any (.int .u64 (pr : Int)) y a bo.length c wr)
      obtain ⟨la, lc, hla, hL⟩ := HO.out.lists hbl
      injection hla with e1 _ e3
      subst e1 e3
      have HL := Lib.hid hL
      have HK2 := Lib.hid (show ∀ W, wr.heap.size ≤ W.heap.size → (∀ k, w.heap.size ≤ k → k < wr.heap.size → W.heap[k]? = wr.heap[k]?) → LLP W a c bo from fun W hs hk => by
        obtain ⟨la2, lc2, e, hL2⟩ := (HO.out.keep hs (fun k h1 h2 => hk k (by omega) h2)).lists hbl
        injection e with e1 _ e3
        subst e1 e3
        exact hL2)
      clear hL hbl
      cases bo with
      | nil =>
        go_wp2_with fail
        refine CW.out.mono ?_
        rintro e w1 ⟨rfl, b1⟩
        have VR := HV.out.same (b1.block _ HV.out.lt)
        rw [show decide (0 < ([] : List (List Nat)).length) = false from rfl]
        have HVR := Lib.hid VR
        clear VR
        go_wp2_with fail
        go_ret3
        rw [HTK.out]
        exact ⟨w.heap.size, none, 0, none, 0, rfl, Nat.le_refl _, HVR.out, BytesP.nil _ _ _, ⟨by simp, by simp, fun h => absurd rfl h⟩, HB.out.trans (b1.mono HB.out.size), fun _ _ _ => ⟨BytesP.nil _ _ _, ⟨by simp, by simp, fun h => absurd rfl h⟩⟩⟩
      | cons t ws =>
        obtain ⟨bb, oo, at', ct', rfl, hc0, hB0⟩ := HL.out.head
        obtain ⟨aw, cw, hsl, htl⟩ := HL.out.tail
        have hbl2 := HL.out.len
        have hcp := HL.out.cap
        have hbb : bb < wr.heap.size := by
          obtain ⟨b', o', e, h1, _⟩ := HL.out.cell (by simp)
          injection e with e
          injection e with e1 _
          subst e1
          exact h1
        have HB0 := Lib.hid hB0
        have HTL := Lib.hid (htl _ HL.out)
        have hfr : w.heap.size ≤ bb := by
          obtain ⟨vs, _, ho, _⟩ := HO.out
          have := (ho.lt bb rfl).1
          omega
        have HK3 := Lib.hid (show ∀ W, wr.heap.size ≤ W.heap.size → (∀ k, w.heap.size ≤ k → k < wr.heap.size → W.heap[k]? = wr.heap[k]?) → BytesP W at' ct' t ∧ LLP W aw cw ws from fun W hs hk => by
          have hL2 := HK2.out W hs hk
          refine ⟨?_, htl _ hL2⟩
          obtain ⟨b', o', a2, c2, e, h3, h4⟩ := hL2.head
          injection e with e
          injection e with e1 e2
          subst e1 e2
          have hcell := (World.cell?_of_block (a := ⟨bb, oo, none⟩) (hk bb hfr hbb)).trans hc0
          rw [h3] at hcell
          injection hcell with hcell
          injection hcell with q1 q2 q3
          subst q1 q3
          exact h4)
        clear hfr
        rw [List.length_cons] at CW l2 hcp hbl2
        clear hB0 htl
        go_wp2_with fail
        refine CW.out.mono ?_
        rintro e w1 ⟨rfl, b1⟩
        have VR := HV.out.same (b1.block _ HV.out.lt)
        have VL := HR.out.same (b1.block _ HR.out.lt)
        rw [List.length_cons] at VL
        obtain ⟨m0, m1, m2, _⟩ := VL.cells
        have hc1 := (b1.cell (p := ⟨bb, oo, none⟩) hbb).trans hc0
        rw [show decide (0 < ws.length + 1) = true by simp]
        have HVR := Lib.hid VR
        have HB1 := Lib.hid (HB0.out.below b1)
        have HT1 := Lib.hid (HTL.out.below b1)
        have HK4 := Lib.hid (show ∀ W, w1.heap.size ≤ W.heap.size → (∀ k, w.heap.size ≤ k → k < w1.heap.size → W.heap[k]? = w1.heap[k]?) → BytesP W at' ct' t ∧ LLP W aw cw ws from fun W hs hk => HK3.out W (Nat.le_trans b1.size hs) (fun k h1 h2 => (hk k h1 (Nat.lt_of_lt_of_le h2 b1.size)).trans (b1.block k h2)))
        clear HK2 HK3 VR VL HL HO HR HV
        go_wp2_with fail
        go_region
        go_wp2_with fail
        go_ret3
        rw [HTK.out]
        exact ⟨w.heap.size, at', ct', aw, cw, rfl, Nat.le_refl _, HVR.out, HB1.out.below (Below.refl _ _).drew, HT1.out.below (Below.refl _ _).drew, (HB.out.trans (b1.mono HB.out.size)).drew, HK4.out⟩

theorem ropen_any {w : World} {R : Nat → Prop} {g bs bl : Nat} {lv : Value} {P : Pl} (h : PlM w R g bs bl lv P) : Calls Try.prog 10 #[ptr g] w (OpenRPost g (toldL P.last) w) :=
  (ropen_more h).mono fun _ _ ⟨b, ta, tc, wa, wc, h1, h2, h3, h4, h5, h6, _⟩ => ⟨b, ta, tc, wa, wc, h1, h2, h3, h4, h5, h6⟩

end Go.Proofs.Ytipikkniookanaa
