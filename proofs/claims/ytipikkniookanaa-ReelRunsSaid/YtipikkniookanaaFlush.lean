/- What Flush of package plate answers. -/
import Derived.Test.YtipikkniookanaaPut
namespace Go.Proofs.Ytipikkniookanaa
open Go.RowKit

attribute [local go_sem ↓] ld26 ld66 st26 st66 bx26 al26 al66 bd26 bd66 bs61 bs48 mk48 eq26 ap61 ap48 ap49 cp46 cp48
attribute [local go_sem] bx_agg al_cell al_wr bd_zero bd_one bd_two bd_nine

section
variable {w w' : World} {R : Nat → Prop} {g bs bl : Nat} {lv : Value} {P : Pl}

/-- One of what is loose. -/
theorem PlM.looseAt {a : Option Addr} {n cap : Nat} (h : PlM w R g bs bl (.slice a n cap) P) {k : Nat} (hk : k < P.loose.length) :
    ∃ bo, a = some ⟨bo, 0, none⟩ ∧ R bo ∧ LdR 92 (.pointer (some ⟨bo, k * 65, none⟩)) w = .ok (.value (.agg (wr P.loose[k]))) w := by
  rcases h.lo.2 with ⟨e, h0⟩ | ⟨bo, c, cur, e, _⟩
  · omega
  · injection e with e1 e2 e3
    subst e1
    refine ⟨bo, rfl, (h.lob bo rfl).1, ?_⟩
    have hr := rowAt_own h.lo (g := bo) rfl
    exact ld_wr hr (h.good.lo _ (List.getElem_mem hk)).2.len (rowW_at h.good.lo hk)

theorem wr_block (w : World) (x : Nat × List Nat) : RowAt (w.alloc (.cells (wr x) 92)) w.heap.size 92 (wrL x) := by
  have := RowAt.of (heap_alloc_new w (.cells (wr x) 92))
  simpa [wr] using this

/-- A local copy of one of them. -/
theorem copy_wr (w : World) {x : Nat × List Nat} (hx : IsCell x.2) : ∃ w', StR 92 (.pointer (some ⟨w.heap.size, 0, none⟩)) (.agg (wr x)) (w.alloc (.cells (wr (0, zeroC)) 92)) = .ok .skip w' ∧ RowAt w' w.heap.size 92 (wrL x) ∧ Below w.heap.size w w' ∧ w'.heap.size = w.heap.size + 1 := by
  obtain ⟨w', h1, h2, h3⟩ := st_wr (wr_block w (0, zeroC)) (o := 0) hx.len (by rw [wrL_len _ zeroC_len]; omega)
  refine ⟨w', h1, ?_, ((Below.refl w.heap.size w).alloc (Nat.le_refl _) _).trans (h3.below (Nat.le_refl _)), h3.size.trans (by simp)⟩
  rwa [putL_all (by rw [wrL_len _ zeroC_len, wrL_len _ hx.len])] at h2

theorem wr_cells {w : World} {b : Nat} {x : Nat × List Nat} (hx : IsCell x.2) (h : RowAt w b 92 (wrL x)) : w.cell? ⟨b, 0, none⟩ = some (.int .i64 (x.1 : Int)) ∧ LdR 90 (.pointer (some ⟨b, 1, none⟩)) w = .ok (.value (.agg (arr x.2))) w := by
  refine ⟨h.cell (j := 0) rfl, ld_cell h hx.len ?_⟩
  rw [wrL, List.drop_one, List.tail_cons, List.take_of_length_le (by rw [List.length_map, hx.len]; omega)]

/-- Nothing is loose any more. -/
theorem PlM.clear (h : PlM w R g bs bl lv P) : PlM (w.setCell ⟨g, 2, none⟩ (.slice none 0 0)) R g bs bl (.slice none 0 0) { P with loose := [] } := by
  have hs : ∀ k, k ≠ g → (w.setCell ⟨g, 2, none⟩ (.slice none 0 0)).heap[k]? = w.heap[k]? := fun k hk => heap_setCell_other w ⟨g, 2, none⟩ k _ hk
  refine ⟨⟨h.good.size, h.good.most, h.good.cs, h.good.cl, fun x hx => by simp at hx, by simp, h.good.low, h.good.high⟩, fun k hk => by simp [World.setCell]; exact h.dom k hk, ?_, h.rs.same (hs bs (Ne.symm h.n1)), h.rl.same (hs bl (Ne.symm h.n2)), World.ownsRow_nil _ _ _ _, h.n1, h.n2, h.n3, h.rg, h.rbs, h.rbl, fun b hb => by cases hb⟩
  rw [heap_setCell_same w g 2 _ _ _ h.head]
  rfl

theorem layAll_drop {s : List (List Nat)} {l : List (Nat × List Nat)} {k : Nat} (hk : k < l.length) : layAll s (l.drop k) = layAll (s.set l[k].1 l[k].2) (l.drop (k + 1)) := by
  rw [List.drop_eq_getElem_cons hk]
  rfl

set_option maxHeartbeats 4000000 in
set_option maxRecDepth 100000 in
theorem flush_any (h : PlM w R g bs bl lv P) : Calls Try.prog 37 #[ptr g] w (PlPost P.flush R g w) := by
  have SP := Lib.hid (spend_any h)
  have HR := Lib.hid h.rg
  have HRS := Lib.hid h.rbs
  have HDOM := Lib.hid h.dom
  rcases P.spend_cases with ⟨e1, _, _, e2⟩ | ⟨e1, e2⟩
  · have E := Lib.hid (show P.flush = (0, { P.spend.2 with sure := layAll P.sure P.loose, loose := [] }) by simp [Pl.flush, e1])
    rw [e1] at SP
    have es := Lib.hid (show P.spend.2.sure = P.sure by rw [e2])
    have eo := Lib.hid (show P.spend.2.loose = P.loose by rw [e2])
    clear e1 e2 h
    generalize P.spend.2 = P1 at *
    go_enter Try.func37, Try.ntmps37
    go_wp2_with fail
    refine SP.out.mono ?_
    rintro e w2 ⟨rfl, h2, u2⟩
    obtain ⟨c0, c1, c2, c3, c4, hf⟩ := head_cells h2.head
    obtain ⟨a, cap, rfl, hcap⟩ := own_slice h2.lo
    have X2 := Lib.hid h2
    have K2 := Lib.hid ((Keep.refl R w).upd u2 (fun _ => HR.out))
    have hfew := h2.good.few
    clear h2 u2
    go_wp2_with fail
    go_loopw [16] (fun i wr => ∃ (k : Nat) (s : List (List Nat)), k ≤ P1.loose.length ∧ i = .int .i64 k ∧ s.length = P1.sure.length ∧ Hid (PlM wr R g bs bl (.slice a P1.loose.length cap) { P1 with sure := s }) ∧ Hid (layAll s (P1.loose.drop k) = layAll P1.sure P1.loose) ∧ Hid (Keep R w wr)) (fun i _ => P1.loose.length - (intOf i).toNat)
    case atStart => exact ⟨0, P1.sure, Nat.zero_le _, rfl, rfl, X2, Lib.hid rfl, K2⟩
    case round =>
      clear c0 c1 c2 c3 c4 hf
      obtain ⟨k, s, hk, rfl, hsl, HP, HS, HK⟩ := hrel
      have hp := HP.out
      obtain ⟨c0, c1, c2, c3, c4, hf⟩ := head_cells hp.head
      by_cases hlt : k < P1.loose.length
      · obtain ⟨bo, rfl, hbo, L1⟩ := hp.looseAt (k := k) hlt
        have hx := hp.good.lo _ (List.getElem_mem hlt)
        have HD := Lib.hid (layAll_drop (s := s) hlt)
        simp only at L1 hx
        generalize P1.loose[k] = x at *
        obtain ⟨at_, c⟩ := x
        simp only at hx
        obtain ⟨w3, s3, r3, b3, z3⟩ := copy_wr wr (x := (at_, c)) hx.2
        obtain ⟨y0, y1⟩ := wr_cells (w := w3.drew) (x := (at_, c)) hx.2 r3
        have hp3 := (hp.below b3).drew
        obtain ⟨d0, d1, d2, d3, d4, df⟩ := head_cells hp3.head
        obtain ⟨w4, s4, r4, u4⟩ := st_cell (w := w3.drew) hp3.rs (o := at_ * 64) hx.2.len (by rw [rowL_len hp.good.cs]; have := hx.1; simp only at this ⊢; omega)
        rw [rowL_set hp.good.cs hx.2 hx.1] at r4
        have g4 : Pl.Good { P1 with sure := s.set at_ c } := ⟨by simpa using hp.good.size, by simpa using hp.good.most, hp.good.cs.set hx.2, hp.good.cl, by simpa using hp.good.lo, hp.good.few, hp.good.low, hp.good.high⟩
        have HP4 := Lib.hid (hp3.setSure u4 r4 g4 (by simp))
        have HK4 := Lib.hid ((HK.out.of_below b3).drew.upd u4 (fun _ => HRS.out))
        have hxn : at_ < s.length := hx.1
        have HN := Lib.hid (show layAll (s.set at_ c) (P1.loose.drop (k + 1)) = layAll P1.sure P1.loose by rw [← HS.out, HD.out])
        simp only at y0 y1 d0 d1
        clear hp hp3 r3 b3 r4 u4 g4 HD hx
        go_wp2_with fail
        go_region
        go_wp2_with fail
        go_roundw
        case rel => exact ⟨k + 1, s.set at_ c, by omega, by go_num, by simpa using hsl, HP4, HN, HK4⟩
        case measure => simp [intOf]; omega
      · have HE := Lib.hid (show s = layAll P1.sure P1.loose by rw [← HS.out, List.drop_eq_nil_of_le (by omega)]; rfl)
        clear hp
        go_wp2_with fail
        go_ret
        rw [E.out]
        have hp5 := HP.out.clear
        refine ⟨rfl, ⟨bs, bl, .slice none 0 0, ?_⟩, ?_⟩
        · show PlM _ _ g bs bl _ { P1 with sure := layAll P.sure P.loose, loose := [] }
          rw [← es.out, ← eo.out, ← HE.out]
          exact hp5.ext
        · exact HK.out.setCell (p := ⟨g, 2, none⟩) (fun _ => HR.out) _
  · have E := Lib.hid (show P.flush = (72, P.spend.2) by simp [Pl.flush, e1])
    rw [e1] at SP
    clear h e1 e2
    go_enter Try.func37, Try.ntmps37
    go_wp2_with fail
    refine SP.out.mono ?_
    rintro e w2 ⟨rfl, h2, u2⟩
    have X2 := Lib.hid h2
    have U2 := Lib.hid u2
    clear h2 u2
    go_wp2_with fail
    go_ret
    rw [E.out]
    exact ⟨rfl, ⟨_, _, _, X2.out.ext⟩, (Keep.refl R w).upd U2.out (fun _ => HR.out)⟩
end

end Go.Proofs.Ytipikkniookanaa
