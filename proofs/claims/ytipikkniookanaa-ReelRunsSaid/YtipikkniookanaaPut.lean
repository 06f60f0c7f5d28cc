/- What Put of package plate answers. -/
import Derived.Test.YtipikkniookanaaGet
import Derived.Deep.RegionLaw
namespace Go.Proofs.Ytipikkniookanaa
open Go.RowKit

attribute [local go_sem ↓] ld26 ld66 st26 st66 bx26 al26 al66 bd26 bd66 bs61 bs48 mk48 eq26 ap61 ap48 ap49 cp46 cp48
attribute [local go_sem] bx_agg al_cell al_wr bd_zero bd_one bd_two bd_nine

section
variable {w w' : World} {R : Nat → Prop} {g bs bl : Nat} {lv : Value} {P : Pl}

theorem PlM.setLast (h : PlM w R g bs bl lv P) (u : Upd bl w w') {l' : List (List Nat)} (hr : RowAt w' bl 90 (rowL l')) (hg : Pl.Good { P with last := l' }) : PlM w' R g bs bl lv { P with last := l' } :=
  ⟨hg, fun k hk => by rw [u.size]; exact h.dom k hk, (u.block g h.n2).trans h.head, h.rs.same (u.block bs h.n3), hr, ownsRow_same h.lo (fun k hk => u.block k (h.lob k hk).2.2.2), h.n1, h.n2, h.n3, h.rg, h.rbs, h.rbl, h.lob⟩

theorem PlM.setSure (h : PlM w R g bs bl lv P) (u : Upd bs w w') {s' : List (List Nat)} (hr : RowAt w' bs 90 (rowL s')) (hg : Pl.Good { P with sure := s' }) (hl : s'.length = P.sure.length) : PlM w' R g bs bl lv { P with sure := s' } :=
  ⟨hg, fun k hk => by rw [u.size]; exact h.dom k hk, by rw [u.block g h.n1, h.head]; simp only [hl], hr, h.rl.same (u.block bl (Ne.symm h.n3)), ownsRow_same h.lo (fun k hk => u.block k (h.lob k hk).2.2.1), h.n1, h.n2, h.n3, h.rg, h.rbs, h.rbl, h.lob⟩

theorem PlM.push (h : PlM w R g bs bl lv P) (hg : w.grownBy w' lv.ownBlock) {lv' : Value} {l' : List (Nat × List Nat)} (ho : w'.ownsRow 0 92 65 lv' l'.length (rowW l')) (hb : ∀ k, lv'.ownBlock = some k → lv.ownBlock = some k ∨ (w.heap.size ≤ k ∧ k < w'.heap.size))
    (good : Pl.Good { P with loose := l' }) {S : Nat → Prop} (hS : ∀ k, S k → k < w'.heap.size) (hRS : ∀ k, R k → S k) (hnew : ∀ k, w.heap.size ≤ k → k < w'.heap.size → S k) : PlM (w'.setCell ⟨g, 2, none⟩ lv') S g bs bl lv' { P with loose := l' } := by
  have hk : ∀ k, R k → (∀ b, lv.ownBlock = some b → k ≠ b) → w'.heap[k]? = w.heap[k]? := fun k hk hne => hg.block k (h.dom k hk) (fun e => hne k e.symm rfl)
  have e1 := hk g h.rg (fun b hb => Ne.symm (h.lob b hb).2.1)
  have e2 := hk bs h.rbs (fun b hb => Ne.symm (h.lob b hb).2.2.1)
  have e3 := hk bl h.rbl (fun b hb => Ne.symm (h.lob b hb).2.2.2)
  have hs : ∀ k, k ≠ g → (w'.setCell ⟨g, 2, none⟩ lv').heap[k]? = w'.heap[k]? := fun k hk => heap_setCell_other w' ⟨g, 2, none⟩ k lv' hk
  have hlob : ∀ b, lv'.ownBlock = some b → S b ∧ b ≠ g ∧ b ≠ bs ∧ b ≠ bl := fun b hb' => by
    rcases hb b hb' with h1 | ⟨h1, h2⟩
    · exact ⟨hRS _ (h.lob b h1).1, (h.lob b h1).2⟩
    · have := h.dom g h.rg
      have := h.dom bs h.rbs
      have := h.dom bl h.rbl
      exact ⟨hnew b h1 h2, by omega, by omega, by omega⟩
  refine ⟨good, fun k hk => by simp [World.setCell]; exact hS k hk, ?_, h.rs.same ((hs bs (Ne.symm h.n1)).trans e2), h.rl.same ((hs bl (Ne.symm h.n2)).trans e3), ownsRow_same ho (fun k hk => hs k (hlob k hk).2.1), h.n1, h.n2, h.n3, hRS _ h.rg, hRS _ h.rbs, hRS _ h.rbl, hlob⟩
  rw [heap_setCell_same w' g 2 _ _ _ (e1.trans h.head)]
  rfl

/-- A number is answered, and the plate is this one. -/
def PlPost (r : Int × Pl) (R : Nat → Prop) (g : Nat) (w : World) (e : Ending) (w' : World) : Prop := e = .returned (.int .i64 r.1) ∧ PlateP w' (ext R w w') g r.2 ∧ Keep R w w'

theorem ext_self {k : Nat} (hk : ∀ j, R j → j < w.heap.size) (hs : w.heap.size ≤ w'.heap.size) (h : ext R w w' k) : k < w'.heap.size := by
  rcases h with h | h
  · have := hk k h; omega
  · exact h.2

set_option maxHeartbeats 4000000 in
set_option maxRecDepth 100000 in
theorem put_any (h : PlM w R g bs bl lv P) (i : Int) {c : List Nat} (hc : IsCell c) (hl : P.loose.length < 100000) : Calls Try.prog 80 #[ptr g, .int .i64 i, .agg (arr c)] w (PlPost (P.put i c) R g w) := by
  have h1 := h.alloc (.cells (arr c) 90)
  have kp1 := (Keep.refl R w).alloc (.cells (arr c) 90)
  have C := Lib.hid (has_any h1 i)
  have SP := Lib.hid (spend_any h1)
  have k1 := cell_block w c
  have HDOM := Lib.hid h.dom
  have HR := Lib.hid h.rg
  have hsz : g < w.heap.size := h.dom g h.rg
  have GP := Lib.hid (h.good.put (i := i) hc hl)
  have HLO := Lib.hid h.good.lo
  have HL := Lib.hid h.good.few
  have ng : g ≠ w.heap.size := by omega
  have nbl : bl ≠ w.heap.size := by have := h.dom bl h.rbl; omega
  have hrbl := h.rbl
  have hs1 : (w.alloc (.cells (arr c) 90)).heap.size = w.heap.size + 1 := by simp
  cases hh : P.has i with
  | false =>
    rw [hh] at C
    have E := Lib.hid (show P.put i c = (71, P) by simp [Pl.put, hh])
    have H1 := Lib.hid h1
    have KP1 := Lib.hid kp1
    clear h h1 kp1 hh SP k1
    go_enter Try.func80, Try.ntmps80
    go_wp2_with fail
    refine C.out.mono ?_
    rintro e w' ⟨rfl, rfl⟩
    go_wp2_with fail
    go_ret
    rw [E.out]
    exact ⟨rfl, ⟨_, _, _, H1.out.ext⟩, KP1.out⟩
  | true =>
    rw [hh] at C
    have hr := hh
    simp only [Pl.has, Bool.and_eq_true, decide_eq_true_eq] at hr
    obtain ⟨k, rfl⟩ := Int.eq_ofNat_of_zero_le hr.1
    have hlt : k < P.sure.length := by omega
    have hlt2 : k < P.last.length := by rw [h.good.size]; omega
    rcases P.spend_cases with ⟨e1, _, _, e2⟩ | ⟨e1, e2⟩
    · have E := Lib.hid (show P.put k c = (0, { P.spend.2 with last := P.last.set k c, loose := P.loose ++ [(k, c)] }) by simp [Pl.put, hh, e1])
      rw [e1] at SP
      have E2 := Lib.hid e2
      have HGOOD := Lib.hid h.good
      clear h h1 hh hr e1 e2
      go_enter Try.func80, Try.ntmps80
      go_wp2_with fail
      refine C.out.mono ?_
      rintro e w' ⟨rfl, rfl⟩
      go_wp2_with fail
      refine SP.out.mono ?_
      rintro e w2 ⟨rfl, h2, u2⟩
      have el : P.spend.2.last = P.last := by rw [E2.out]
      have es : P.spend.2.sure = P.sure := by rw [E2.out]
      have eo : P.spend.2.loose = P.loose := by rw [E2.out]
      have gd2 := h2.good
      have kc2 := k1.same (u2.block w.heap.size (Ne.symm ng))
      have LD := ld_block (w := w2.drew) hc.len kc2
      obtain ⟨c0, c1, c2, c3, c4, hf⟩ := head_cells h2.head
      obtain ⟨w3, s3, r3, u3⟩ := st_cell (w := w2.drew) h2.drew.rl (o := k * 64) hc.len (by rw [rowL_len gd2.cl, el]; omega)
      rw [rowL_set gd2.cl hc (by rw [el]; exact hlt2)] at r3
      have gd3 : Pl.Good { P.spend.2 with last := P.spend.2.last.set k c } := ⟨by simp [gd2.size], gd2.most, gd2.cs, gd2.cl.set hc, gd2.lo, gd2.few, gd2.low, gd2.high⟩
      have h3 := h2.drew.setLast u3 r3 gd3
      have kp3 := (kp1.upd u2 (fun _ => HR.out)).drew.upd u3 (fun _ => hrbl)
      have kc3 := kc2.same (u3.block w.heap.size (Ne.symm nbl))
      have LD3 := ld_block (w := w3.drew) hc.len kc3
      have hx : ((k, c) : Nat × List Nat).2.length = 64 := hc.len
      have h4 := (h3.alloc (.cells (wr (k, c)) 92)).drew
      have LD4 := ld_block (w := (w3.alloc (.cells (wr (k, c)) 92)).drew) hc.len (kc3.same (Below.heap_alloc w3 _ _ (by have := kc3.lt; omega)))
      obtain ⟨lv', w5, a5, o5, g5, b5⟩ := ap_own (w := (w3.alloc (.cells (wr (k, c)) 92)).drew) 68 68 92 65 72 _ (by omega) info66 Try.underlying68 rfl lv P.spend.2.loose.length (rowW P.spend.2.loose) h4.lo w3.heap.size 1 1 92 (wrL (k, c)) (by
          have := RowAt.of (heap_alloc_new w3 (.cells (wr (k, c)) 92))
          simpa [wr] using this.same (w' := (w3.alloc (.cells (wr (k, c)) 92)).drew) rfl) (by rw [wrL_len _ hx]) (wr_one _) (by rw [eo]; omega) (by omega)
      obtain ⟨a6, c6, rfl, _⟩ := own_slice o5
      have BD := fun W => bd_wr W k (c := c) hc.len
      have BS := fun W => bs_wr W (x := (k, c)) hc.len
      obtain ⟨d0, d1, d2, d3, d4, df⟩ := head_cells h3.head
      obtain ⟨e0, e1, e2, e3, e4, ef⟩ := head_cells h4.head
      have hw5 : w5.heap[g]? = (w3.alloc (.cells (wr (k, c)) 92)).drew.heap[g]? := g5.block g (h4.dom g h4.rg) (fun e => (h4.lob g e.symm).2.1 rfl)
      obtain ⟨f0, f1, f2, f3, f4, ff⟩ := head_cells (hw5.trans h4.head)
      have X2 := Lib.hid h2
      have X4 := Lib.hid h4
      have KP3 := Lib.hid kp3
      have O5 := Lib.hid o5
      have G5 := Lib.hid g5
      have B5 := Lib.hid b5
      have EL := Lib.hid el
      have ES := Lib.hid es
      have EO := Lib.hid eo
      clear h2 h3 h4 kp1 kp3 o5 g5 b5 el es eo gd2 gd3 kc2 kc3 u2 u3 r3 hw5 k1
      simp only [ES.out] at c0 c1 d0 d1 e0 e1 f0 f1
      go_wp2_with fail
      go_region
      go_wp2_with fail
      go_region
      go_wp2_with fail
      go_ret
      have hs5 : ∀ v, (w5.setCell ⟨g, 2, none⟩ v).heap.size = w5.heap.size := fun v => by simp [World.setCell]
      have KP5 := (((KP3.out.alloc (.cells (wr (k, c)) 92)).drew).grown G5.out (fun j hj _ => (X4.out.lob j hj).1))
      have hw4 := ((KP3.out.alloc (.cells (wr (k, c)) 92)).drew).size
      have GP' := GP.out
      rw [E.out] at GP'
      rw [E.out]
      refine ⟨rfl, ⟨bs, bl, .slice a6 (P.spend.2.loose.length + 1) c6, ?_⟩, ?_⟩
      · show PlM _ _ g bs bl _ { P.spend.2 with last := P.last.set k c, loose := P.loose ++ [(k, c)] }
        have GP2 : Pl.Good { P.spend.2 with last := P.last.set k c, loose := P.loose ++ [(k, c)] } := GP'
        rw [← EL.out, ← EO.out] at GP2 ⊢
        refine X4.out.push G5.out ?_ B5.out GP2 (fun j hj => ?_) (fun j hj => .inl hj) (fun j h1 h2 => .inr ⟨Nat.le_trans hw4 h1, ?_⟩)
        · have := O5.out
          rw [List.length_append, rowW_one]
          exact this
        · rcases hj with hj | hj
          · exact Nat.lt_of_lt_of_le (HDOM.out j hj) KP5.size
          · rw [hs5] at hj; exact hj.2
        · rw [hs5]; exact h2
      · exact KP5.setCell (p := ⟨g, 2, none⟩) (fun _ => HR.out) _
    · have E := Lib.hid (show P.put k c = (72, P.spend.2) by simp [Pl.put, hh, e1])
      rw [e1] at SP
      have KP1 := Lib.hid kp1
      clear h h1 hh hr e1 e2 kp1 k1
      go_enter Try.func80, Try.ntmps80
      go_wp2_with fail
      refine C.out.mono ?_
      rintro e w' ⟨rfl, rfl⟩
      go_wp2_with fail
      refine SP.out.mono ?_
      rintro e w2 ⟨rfl, h2, u2⟩
      have X2 := Lib.hid h2
      have U2 := Lib.hid u2
      clear h2 u2
      go_wp2_with fail
      go_ret
      rw [E.out]
      exact ⟨rfl, ⟨_, _, _, X2.out.ext⟩, KP1.out.upd U2.out (fun _ => HR.out)⟩
end

end Go.Proofs.Ytipikkniookanaa
