/- What the document's Flush answers, and what its Fail does. -/
import Derived.Test.YtipikkniookanaaRef2
namespace Go.Proofs.Ytipikkniookanaa
open Go.RowKit

attribute [local go_sem ↓] ld26 ld66 st26 st66 bx26 al26 al66 bd26 bd66 bs61 bs48 mk48 eq26 ap61 ap48 ap49 cp46 cp48
attribute [local go_sem] bx_agg al_cell al_wr bd_zero bd_one bd_two bd_nine bs_none

section
variable {w w' : World} {R : Nat → Prop} {g : Nat} {sv lv av wv : Value} {r : Rf}

/-- Nothing is appended. -/
theorem ap_nil {t ty e : TypeId} {i : TypeInfo} (ht : Try.prog.underlying t = some (.slice e)) (hi : Try.prog.info? e = some i) (a : Option Addr) (n cap c : Nat) (h : n ≤ cap) : ApR t ty (.slice a n cap) (.slice none 0 c) w = .ok (.value (.slice a n cap)) w := by
  cases a <;> simp [ApR, Builtin.append_, run_underlying ht, sizeOf, typeInfo, hi, Builtin.lenOf, Builtin.firstCells, h, storeCells]

/-- append([]api.Cell{}, xs...): the same cells in new memory. -/
theorem ap_fresh {v : Value} {s : List (List Nat)} (hs : Cells s) (hm : s.length ≤ 4096) (h : w.ownsRow 0 90 64 v s.length (rowL s)) (ty : TypeId) :
    ∃ v' w', ApR 67 ty (.slice (some ⟨w.heap.size, 0, none⟩) 0 0) v (w.alloc (.cells #[] 90)) = .ok (.value v') w' ∧ w'.ownsRow 0 90 64 v' s.length (rowL s) ∧ Below w.heap.size w w' ∧ ∀ k, v'.ownBlock = some k → w.heap.size ≤ k ∧ k < w'.heap.size := by
  have b0 := (Below.refl w.heap.size w).alloc (Nat.le_refl _) (.cells #[] 90)
  have oe : (w.alloc (.cells #[] 90)).ownsRow 0 90 64 (.slice (some ⟨w.heap.size, 0, none⟩) 0 0) 0 [] := World.ownsRow_made w #[] 0 (Nat.zero_le _) (Nat.zero_le _) (by simp)
  have h' := ownsRow_same h (fun k hk => Below.heap_alloc w (.cells #[] 90) k (h.lt k hk).2)
  rcases h'.2 with ⟨rfl, h0⟩ | ⟨b, cap, cur, rfl, _, _⟩
  · obtain ⟨i0, hi0, _⟩ := info_parts info26
    have hs0 : s = [] := List.eq_nil_of_length_eq_zero h0
    subst hs0
    refine ⟨_, _, ap_nil Try.underlying67 hi0 _ 0 0 0 (Nat.le_refl _), oe, b0, fun k hk => ?_⟩
    simp [Value.ownBlock] at hk
    subst hk
    exact ⟨Nat.le_refl _, by simp⟩
  · obtain ⟨v', w', a1, o1, g1, k1⟩ := ap_own (w := w.alloc (.cells #[] 90)) 67 ty 90 64 64 _ (by omega) info26 Try.underlying67 rfl _ 0 [] oe b cap s.length 90 (rowL s) (rowAt_own h' rfl) (rowL_len hs) (bv_one _) (by omega) (by omega)
    refine ⟨v', w', a1, by simpa using o1, ?_, fun k hk => ?_⟩
    · exact b0.grown g1 b0.size (fun k hk => by simp [Value.ownBlock] at hk; omega)
    · rcases k1 k hk with h1 | h1
      · simp [Value.ownBlock] at h1
        subst h1
        have := g1.size
        simp at this
        exact ⟨Nat.le_refl _, by omega⟩
      · have := h1.1
        simp at this
        exact ⟨by omega, h1.2⟩

/-- Nothing is loose any more. -/
theorem RfM.clearA (h : RfM w R g sv lv av wv r) : RfM (w.setCell ⟨g, 2, none⟩ (.slice none 0 0)) R g sv lv (.slice none 0 0) wv { r with ats := [] } :=
  h.putA (av' := .slice none 0 0) (l' := []) (Nat.le_refl _) (fun _ _ _ => rfl) (World.ownsRow_nil _ _ _ _) (fun b hb => by cases hb) ⟨h.good.size, h.good.most, h.good.cs, h.good.cl, h.good.cw, fun i hi => by simp at hi, by simp, h.good.fewW, h.good.cnt⟩ h.dom (fun _ e => e) (fun k a b => by omega)
theorem RfM.clearW (h : RfM w R g sv lv av wv r) : RfM (w.setCell ⟨g, 3, none⟩ (.slice none 0 0)) R g sv lv av (.slice none 0 0) { r with what := [] } :=
  h.putW (wv' := .slice none 0 0) (l' := []) (Nat.le_refl _) (fun _ _ _ => rfl) (World.ownsRow_nil _ _ _ _) (fun b hb => by cases hb) ⟨h.good.size, h.good.most, h.good.cs, h.good.cl, fun i hi => by simp at hi, h.good.ai, h.good.fewA, by simp, h.good.cnt⟩ h.dom (fun _ e => e) (fun k a b => by omega)

def Rf.flush (r : Rf) : Int × Rf := if r.power.1 then (0, { r.power.2 with sure := r.seen, ats := [], what := [] }) else (72, r.power.2)

theorem sizeSet (w : World) (g j : Nat) (v : Value) : (w.setCell ⟨g, j, none⟩ v).heap.size = w.heap.size := by simp [World.setCell]

set_option maxHeartbeats 4000000 in
set_option maxRecDepth 100000 in
theorem refFlush_any (h : RfM w R g sv lv av wv r) : Calls Try.prog 47 #[ptr g] w (RefPost r.flush R g w) := by
  have SP := Lib.hid (power_any h)
  have HR := Lib.hid h.rg
  have HDOM := Lib.hid h.dom
  obtain ⟨e1, e2, e3, e4⟩ := r.power_same
  cases hp : r.power.1 with
  | false =>
    rw [hp] at SP
    have E := Lib.hid (show r.flush = (72, r.power.2) by simp [Rf.flush, hp])
    clear h hp
    go_enter Try.func47, Try.ntmps47
    go_wp2_with fail
    refine SP.out.mono ?_
    rintro e w2 ⟨rfl, h2, u2⟩
    have X2 := Lib.hid h2
    have U2 := Lib.hid u2
    clear h2 u2
    go_wp2_with fail
    go_ret
    rw [E.out]
    exact ⟨rfl, ⟨_, _, _, _, X2.out.ext⟩, (Keep.refl R w).upd U2.out (fun _ => HR.out)⟩
  | true =>
    rw [hp] at SP
    have E := Lib.hid (show r.flush = (0, { r.power.2 with sure := r.seen, ats := [], what := [] }) by simp [Rf.flush, hp])
    have E2 := Lib.hid e2
    generalize r.power.2 = q at *
    clear h hp e1 e2 e3 e4
    go_enter Try.func47, Try.ntmps47
    go_wp2_with fail
    refine SP.out.mono ?_
    rintro e w2 ⟨rfl, h2, u2⟩
    have kp2 := (Keep.refl R w).upd u2 (fun _ => HR.out)
    have gd := h2.good
    obtain ⟨v', w5, a5, o5, b5, n5⟩ := ap_fresh gd.cl (by rw [gd.size]; exact gd.most) h2.ol 67
    obtain ⟨c0, c1, c2, c3, c4, c5, c6, hf⟩ := head7 (h2.alloc (.cells #[] 90)).head
    obtain ⟨d0, d1, d2, d3, d4, d5, d6, df⟩ := head7 (h2.below b5).head
    obtain ⟨a6, c6', rfl, _⟩ := own_slice o5
    obtain ⟨al, cl, rfl, _⟩ := own_slice h2.ol
    have h6 := h2.putS b5.size (fun k hk _ => b5.block k (h2.dom k hk)) (l' := q.seen) o5 (fun b hb => .inr (n5 b hb)) ⟨rfl, by rw [gd.size]; exact gd.most, gd.cl, gd.cl, gd.cw, fun i hi => by have := gd.ai i hi; rw [← gd.size] at this; exact this, gd.fewA, gd.fewW, gd.cnt⟩ (S := ext R w (w5.setCell ⟨g, 0, none⟩ (.slice a6 q.seen.length c6'))) (fun j hj => by
        have := ext_self HDOM.out (by rw [sizeSet]; exact Nat.le_trans kp2.size b5.size) hj
        rwa [sizeSet] at this) (fun j hj => .inl hj) (fun j a b => .inr ⟨Nat.le_trans kp2.size a, by rw [sizeSet]; exact b⟩)
    have HF := Lib.hid h6.clearA.clearW
    have KF := Lib.hid ((((kp2.of_below b5).setCell (p := ⟨g, 0, none⟩) (fun _ => HR.out) (.slice a6 q.seen.length c6')).setCell (p := ⟨g, 2, none⟩) (fun _ => HR.out) (.slice none 0 0)).setCell (p := ⟨g, 3, none⟩) (fun _ => HR.out) (.slice none 0 0))
    clear h2 u2 kp2 gd o5 b5 n5 h6
    go_wp2_with fail
    go_ret
    rw [E.out]
    refine ⟨rfl, ⟨.slice a6 q.seen.length c6', .slice al q.seen.length cl, .slice none 0 0, .slice none 0 0, ?_⟩, KF.out⟩
    show RfM _ _ g _ _ _ _ { q with sure := r.seen, ats := [], what := [] }
    rw [← E2.out]
    exact HF.out.mono (fun k hk => by
      have := ext_self HDOM.out KF.out.size hk
      exact this) (fun k hk => hk.elim .inl (fun e => .inr ⟨e.1, by rw [sizeSet, sizeSet]; exact e.2⟩))
end

end Go.Proofs.Ytipikkniookanaa
