/- A plate of the call's own; what the laws' plateAlive, the chapter's example, answers. -/
import Derived.Test.YtnnikgchffkalaaNew
import Derived.Test.YtnnikgchffkalaaFail
import Derived.Test.YtnnikgchffkalaaCell
namespace Go.Proofs.Ytnnikgchffkalaa
open Go.RowKit

attribute [local go_sem ↓] ld26 ld66 st26 st66 bx26 al26 al66 bd26 bd66 bs61 bs48 mk48 eq26 ap61 ap48 ap49 cp46 cp48
attribute [local go_sem] bx_agg al_cell al_wr bd_zero bd_one bd_two bd_nine

/-- A plate in memory that came since w0; what was there then is as it was. -/
def Mine (w0 w : World) (g : Nat) (P : Pl) : Prop := ∃ R, PlateP w R g P ∧ (∀ k, R k → w0.heap.size ≤ k) ∧ Below w0.heap.size w0 w

section
variable {w0 w w' : World} {g : Nat} {P : Pl}

theorem Mine.low (h : Mine w0 w g P) : Below w0.heap.size w0 w := h.elim fun _ h => h.2.2
theorem Mine.good (h : Mine w0 w g P) : P.Good := by obtain ⟨R, ⟨bs, bl, lv, h⟩, _⟩ := h; exact h.good
theorem Mine.below (h : Mine w0 w g P) (hb : Below w.heap.size w w') : Mine w0 w' g P := by
  obtain ⟨R, ⟨bs, bl, lv, h⟩, h2, h3⟩ := h
  exact ⟨R, ⟨bs, bl, lv, h.below hb⟩, h2, h3.trans (hb.mono h3.size)⟩
theorem Mine.of {R : Nat → Prop} (hR : ∀ k, R k → w0.heap.size ≤ k) (h3 : Below w0.heap.size w0 w) (hp : PlateP w' (ext R w w') g P) (hk : Keep R w w') : Mine w0 w' g P := by
  refine ⟨_, hp, fun k hk => ?_, h3.trans (hk.below h3.size hR)⟩
  rcases hk with h | h
  · exact hR k h
  · exact Nat.le_trans h3.size h.1

theorem Mine.new (n : Int) (hb : Below w0.heap.size w0 w) : Calls Try.prog 9 #[.int .i64 n] w (fun e w' => ∃ g, e = .returned (ptr g) ∧ Mine w0 w' g (Pl.new (clampN n 4096))) := by
  refine (new_any n w).mono ?_
  rintro e w' ⟨g, rfl, hp, hb'⟩
  exact ⟨g, rfl, _, hp, fun k hk => Nat.le_trans hb.size hk.1, hb.trans (hb'.mono hb.size)⟩
theorem Mine.put (h : Mine w0 w g P) (i : Int) {c : List Nat} (hc : IsCell c) (hl : P.loose.length < 100000) : Calls Try.prog 11 #[ptr g, .int .i64 i, .agg (arr c)] w (fun e w' => e = .returned (.int .i64 (P.put i c).1) ∧ Mine w0 w' g (P.put i c).2) := by
  obtain ⟨R, ⟨bs, bl, lv, h⟩, h2, h3⟩ := h
  refine (put_any h i hc hl).mono ?_
  rintro e w' ⟨rfl, hp, hk⟩
  exact ⟨rfl, Mine.of h2 h3 hp hk⟩
theorem Mine.flush (h : Mine w0 w g P) : Calls Try.prog 13 #[ptr g] w (fun e w' => e = .returned (.int .i64 P.flush.1) ∧ Mine w0 w' g P.flush.2) := by
  obtain ⟨R, ⟨bs, bl, lv, h⟩, h2, h3⟩ := h
  refine (flush_any h).mono ?_
  rintro e w' ⟨rfl, hp, hk⟩
  exact ⟨rfl, Mine.of h2 h3 hp hk⟩
theorem Mine.fail (h : Mine w0 w g P) (ka : Option Addr) (kc : Nat) (keep : List Nat) (hk : BytesP w ka kc keep) (hoff : ∀ R, PlateP w R g P → (∀ k, R k → w0.heap.size ≤ k) → ∃ R', PlateP w R' g P ∧ (∀ k, R' k → w0.heap.size ≤ k) ∧ (keep ≠ [] → Off R' ka)) (torn at_ : Int) :
    Calls Try.prog 22 #[ptr g, .slice ka keep.length kc, .int .i64 torn, .int .i64 at_] w (fun e w' => e = .returned (.tuple #[]) ∧ Mine w0 w' g (P.fail keep torn at_)) := by
  obtain ⟨R, hp, h2, h3⟩ := h
  obtain ⟨R', ⟨bs, bl, lv, h⟩, h4, h5⟩ := hoff R hp h2
  refine (fail_any h ka kc keep hk h5 torn at_).mono ?_
  rintro e w' ⟨rfl, hp, hk⟩
  exact ⟨rfl, Mine.of h4 h3 hp hk⟩
theorem Mine.limit (h : Mine w0 w g P) (n : Int) (hn : n ≤ 9223372036854775807) : Calls Try.prog 12 #[ptr g, .int .i64 n] w (fun e w' => e = .returned (.tuple #[]) ∧ Mine w0 w' g (P.limit n)) := by
  obtain ⟨R, ⟨bs, bl, lv, h⟩, h2, h3⟩ := h
  refine (limit_any h n hn).mono ?_
  rintro e w' ⟨rfl, hp, hu⟩
  exact ⟨rfl, Mine.of h2 h3 ⟨bs, bl, lv, hp.ext⟩ ((Keep.refl R w).upd hu (fun _ => h.rg))⟩
theorem Mine.get (h : Mine w0 w g P) (i : Int) : Calls Try.prog 10 #[ptr g, .int .i64 i] w (fun e w' => e = .returned (.tuple #[.agg (arr (P.get i)), .int .i64 (P.getE i)]) ∧ Below w.heap.size w w') := by
  obtain ⟨R, ⟨bs, bl, lv, h⟩, h2, h3⟩ := h
  exact get_any h i
theorem Mine.len (h : Mine w0 w g P) : Calls Try.prog 15 #[ptr g] w (Same (.int .i64 (P.sure.length : Int)) w) := by
  obtain ⟨R, ⟨bs, bl, lv, h⟩, h2, h3⟩ := h
  exact len_any h
theorem Mine.loose (h : Mine w0 w g P) : Calls Try.prog 24 #[ptr g] w (Same (.int .i64 (P.loose.length : Int)) w) := by
  obtain ⟨R, ⟨bs, bl, lv, h⟩, h2, h3⟩ := h
  exact loose_any h
theorem Mine.off (h : Mine w0 w g P) : Calls Try.prog 14 #[ptr g] w (Same (.bool P.off) w) := by
  obtain ⟨R, ⟨bs, bl, lv, h⟩, h2, h3⟩ := h
  exact off_any h

/-- Bytes that a call lays out itself. -/
theorem bytes_block (l : List Nat) (hl : Bytes l) (h : l.length ≤ 10000000) (W : World) (T : TypeId) (z : Nat × Nat) : BytesP (W.alloc (.cells (l.map bv).toArray T z)) (some ⟨W.heap.size, 0, none⟩) l.length l := by
  refine ⟨Nat.le_refl _, by omega, hl, fun _ => ⟨_, _, rfl, by simp, fun j x hj => ?_⟩⟩
  rw [cell_of_row _ _ _ _ _ z (heap_alloc_new W _)]
  simp [hj]

/-- Fail with bytes that lie in a block of their own. -/
theorem Mine.failNew (h : Mine w0 w g P) (l : List Nat) (hl : Bytes l) (hn : l.length ≤ 10000000) (torn at_ : Int) :
    Calls Try.prog 22 #[ptr g, .slice (some ⟨w.heap.size, 0, none⟩) l.length l.length, .int .i64 torn, .int .i64 at_] (w.alloc (.cells (l.map bv).toArray 5)) (fun e w' => e = .returned (.tuple #[]) ∧ Mine w0 w' g (P.fail l torn at_)) := by
  obtain ⟨R, ⟨bs, bl, lv, h⟩, h2, h3⟩ := h
  refine (fail_any (h.alloc _) _ _ l (bytes_block l hl hn w 5 (0, 0)) (fun _ b o e hb => ?_) torn at_).mono ?_
  · injection e with e
    injection e with e1
    subst e1
    exact absurd (h.dom _ hb) (by omega)
  · rintro e w' ⟨rfl, hp, hk⟩
    exact ⟨rfl, Mine.of h2 (h3.alloc h3.size _) hp hk⟩
theorem Mine.failNil (h : Mine w0 w g P) (torn at_ : Int) : Calls Try.prog 22 #[ptr g, .slice none 0 0, .int .i64 torn, .int .i64 at_] w (fun e w' => e = .returned (.tuple #[]) ∧ Mine w0 w' g (P.fail [] torn at_)) :=
  h.fail none 0 [] (BytesP.nil _ _ _) (fun R hp hR => ⟨R, hp, hR, fun _ b o e => by cases e⟩) torn at_
end

/-- True is answered; all that was there stays. -/
def TrueB (w : World) (e : Ending) (w' : World) : Prop := e = .returned (.bool true) ∧ Below w.heap.size w w'

def ex1 : Pl := ((Pl.new 3).put 0 (oneC 1)).2
def ex2 : Pl := (ex1.put 1 (oneC 2)).2
def ex3 : Pl := ex2.fail [2] (-1) 0

theorem ex3_is : ex3 = { sure := [zeroC, oneC 2, zeroC], last := [zeroC, oneC 2, zeroC], loose := [], left := -1, off := false } := by
  have h1 : ex1 = { sure := [zeroC, zeroC, zeroC], last := [oneC 1, zeroC, zeroC], loose := [(0, oneC 1)], left := -1, off := false } := rfl
  have h2 : ex2 = { sure := [zeroC, zeroC, zeroC], last := [oneC 1, oneC 2, zeroC], loose := [(0, oneC 1), (1, oneC 2)], left := -1, off := false } := by unfold ex2; rw [h1]; rfl
  have e : failL [2] (-1) 0 0 [(0, oneC 1), (1, oneC 2)] [zeroC, zeroC, zeroC] = [zeroC, oneC 2, zeroC] := by decide +kernel
  unfold ex3 Pl.fail
  rw [h2]
  simp only [e]

set_option maxHeartbeats 4000000 in
set_option maxRecDepth 100000 in
theorem alive_any (w : World) : Calls Try.prog 8 #[] w (TrueB w) := by
  have N := Lib.hid (Mine.new (w0 := w) (w := w) 3 (Below.refl _ _))
  have e3 : clampN 3 4096 = 3 := rfl
  rw [e3] at N
  have z1 := zeroC_is
  have z2 := oneC_is (v := 2) (by omega)
  go_enter Try.func8, Try.ntmps8
  go_wp2_with fail
  refine N.out.mono ?_
  rintro e w1 ⟨g, rfl, h1⟩
  have LN := Lib.hid (show Calls Try.prog 15 #[ptr g] w1 (Same (.int .i64 3) w1) from h1.len)
  have C1 := Lib.hid (show Calls Try.prog 11 #[ptr g, .int .i64 0, .agg (arr (oneC 1))] w1 (fun e w' => e = .returned (.int .i64 0) ∧ Mine w w' g ex1) from h1.put 0 (oneC_is (by omega)) (by decide))
  clear h1 N
  go_wp2_with fail
  refine LN.out.mono ?_
  rintro e w' ⟨rfl, rfl⟩
  go_wp2_with fail
  refine C1.out.mono ?_
  rintro e w2 ⟨rfl, h2⟩
  have C2 := Lib.hid (show Calls Try.prog 11 #[ptr g, .int .i64 1, .agg (arr (oneC 2))] w2 (fun e w' => e = .returned (.int .i64 0) ∧ Mine w w' g ex2) from h2.put 1 (oneC_is (by omega)) (by decide))
  clear h2 C1 LN
  go_wp2_with fail
  refine C2.out.mono ?_
  rintro e w3 ⟨rfl, h3⟩
  have C3 := Lib.hid (show Calls Try.prog 22 #[ptr g, .slice (some ⟨w3.heap.size, 0, none⟩) 1 1, .int .i64 (-1), .int .i64 0] (w3.alloc (.cells #[.int .u8 2] 5)) (fun e w' => e = .returned (.tuple #[]) ∧ Mine w w' g ex3) from h3.failNew [2] (fun b hb => by simp at hb; omega) (by simp) (-1) 0)
  clear h3 C2
  go_wp2_with fail
  refine C3.out.mono ?_
  rintro e w4 ⟨rfl, h4⟩
  have G0 := Lib.hid (show Calls Try.prog 10 #[ptr g, .int .i64 0] w4 (fun e w' => e = .returned (.tuple #[.agg (arr zeroC), .int .i64 0]) ∧ Below w4.heap.size w4 w') by have := h4.get 0; rw [ex3_is] at this; exact this)
  have H4 := Lib.hid h4
  clear h4 C3
  go_wp2_with fail
  refine G0.out.mono ?_
  rintro e w5 ⟨rfl, b5⟩
  have k5 := cell_block w5 zeroC
  obtain ⟨w6, s6, r6, u6⟩ := st_block zeroC_len zeroC_len k5
  have b6 := b5.trans ((((Below.refl w5.heap.size w5).alloc (Nat.le_refl _) (.cells (arr zeroC) 26)).trans (u6.below (Nat.le_refl _))).mono b5.size)
  have h6 := H4.out.below b6
  have G1 := Lib.hid (show Calls Try.prog 10 #[ptr g, .int .i64 1] w6 (fun e w' => e = .returned (.tuple #[.agg (arr (oneC 2)), .int .i64 0]) ∧ Below w6.heap.size w6 w') by have := h6.get 1; rw [ex3_is] at this; exact this)
  have R6 := Lib.hid r6
  have H6 := Lib.hid h6
  clear G0 k5 r6 u6 b5 b6 h6 H4
  go_wp2_with fail
  refine G1.out.mono ?_
  rintro e w7 ⟨rfl, b7⟩
  have k7 := cell_block w7 zeroC
  obtain ⟨w8, s8, r8, u8⟩ := st_block zeroC_len z2.len k7
  have b8 := b7.trans ((((Below.refl w7.heap.size w7).alloc (Nat.le_refl _) (.cells (arr zeroC) 26)).trans (u8.below (Nat.le_refl _))).mono b7.size)
  have h8 := H6.out.below b8
  have r6' := R6.out.same (b8.block w5.heap.size R6.out.lt)
  have LA := ld_block zeroC_len r6'
  have LB := ld_block z2.len r8
  have EA := fun a b => eq_cell w8 z1 z1 a b
  have EB := fun a b => eq_cell w8 z2 z2 a b
  have LO := Lib.hid (show Calls Try.prog 24 #[ptr g] w8 (Same (.int .i64 0) w8) by have := h8.loose; rw [ex3_is] at this; exact this)
  have H8 := Lib.hid h8
  have B8 := Lib.hid h8.low
  clear G1 k7 r8 u8 b7 b8 h8 H6 r6' R6
  go_wp2_with fail
  refine LO.out.mono ?_
  rintro e w' ⟨rfl, rfl⟩
  go_wp2_with fail
  go_ret
  exact ⟨rfl, B8.out⟩

end Go.Proofs.Ytnnikgchffkalaa
