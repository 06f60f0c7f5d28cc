/- What the laws' marksAlive, the chapter's example, answers. -/
import Derived.Test.YtfcjgbkpefcajaaMkMine
namespace Go.Proofs.Ytfcjgbkpefcajaa
open Go.RowKit

attribute [local go_sem ↓] ld26 ld66 st26 st66 bx26 al26 al66 bd26 bd66 bs61 bs48 mk48 eq26 ap61 ap48 ap49 cp46 cp48
attribute [local go_sem] bx_agg al_cell al_wr bd_zero bd_one bd_two bd_nine

def mk1 : Pl := ((Pl.new 5).mput 0 1 0 [97, 98]).2
/-- Two bytes, and noughts behind them. -/
def abL : List Nat := 97 :: 98 :: List.replicate 46 0

theorem mk1_put : ((Pl.new 5).mput 0 1 0 [97, 98]).1 = 0 := by decide +kernel
theorem mk1_read : readL mk1.last 0 = (1, [abL]) := by decide +kernel
theorem mk1_top : topL mk1.last = 1 := by decide +kernel
theorem mk1_len : mk1.sure.length / 2 = 2 := by decide +kernel

theorem txt_ab : strB [97, 98] = ⟨#[97, 98]⟩ := by decide +kernel

set_option maxHeartbeats 4000000 in
set_option maxRecDepth 100000 in
theorem alive_any (w : World) : Calls Try.prog 6 #[] w (TrueB w) := by
  have N := Lib.hid (Mine.new (w0 := w) (w := w) 5 (Below.refl _ _))
  have e5 : clampN 5 4096 = 5 := rfl
  rw [e5] at N
  clear e5
  have kc := fun (w : World) (C : Array Value) (n c : Nat) => Lib.run_convert_bytes_const (P := Try.prog) w 31 5 C n c Try.underlying31 Try.underlying5
  go_enter Try.func6, Try.ntmps6
  go_wp2_with fail
  refine N.out.mono ?_
  rintro e w1 ⟨g, rfl, h1⟩
  have bA := (Below.refl w1.heap.size w1).alloc (Nat.le_refl _) (.cells #[.int .u8 97, .int .u8 98] 5 (2, 3))
  have C1 := Lib.hid (show Calls Try.prog 9 #[ptr g, .int .i64 0, .int .u64 1, .int .i64 0, .slice (some ⟨w1.heap.size, 0, none⟩) 2 2] (w1.alloc (.cells #[.int .u8 97, .int .u8 98] 5 (2, 3))) (fun e w' => e = .returned (.int .i64 0) ∧ Mine w w' g mk1) by
    have := (h1.below bA).mput 0 1 0 (some ⟨w1.heap.size, 0, none⟩) 2 [97, 98] (bytes_block [97, 98] (fun b hb => by simp at hb; omega) (by simp) w1 5 (2, 3)) (by decide)
    rw [mk1_put] at this
    exact this)
  clear h1 bA N
  go_wp2_with fail
  refine C1.out.mono ?_
  rintro e w2 ⟨rfl, h2⟩
  have C2 := Lib.hid (show Calls Try.prog 8 #[ptr g, .int .i64 0] w2 (ReadPost (1, [abL]) w2) by have := h2.read 0; rw [mk1_read] at this; exact this)
  have H2 := Lib.hid h2
  clear h2 C1
  go_wp2_with fail
  refine C2.out.mono ?_
  rintro e w3 ⟨a, cap, rfl, hL, b3⟩
  have h3 := H2.out.below b3
  have CM := Lib.hid (show Calls Try.prog 22 #[ptr g] w3 (Same (.int .i64 2) w3) by have := h3.room; rw [mk1_len] at this; exact this)
  have CT := Lib.hid (show Calls Try.prog 10 #[ptr g] w3 (NumB 1 w3) by have := h3.top; rw [mk1_top] at this; exact this)
  have HLOW := Lib.hid h3.low
  have hcap := hL.cap
  simp only [List.length_cons, List.length_nil] at hcap
  obtain ⟨b, o, rfl, hb, hc⟩ := hL.cell (by simp)
  obtain ⟨a', c', g1, gB⟩ := hc 0 abL rfl
  have habl : abL.length = 48 := by simp [abL]
  obtain ⟨a2, c2, hsl, hB2⟩ := slice_to (a := a') (cap := c') (l := abL) gB.cap 2 2 rfl (by rw [habl]; omega)
  have htk : abL.take 2 = [97, 98] := rfl
  have RT := run_text (hB2 w3 gB)
  rw [htk] at RT hsl
  rw [habl] at g1 hsl
  simp only [List.length_cons, List.length_nil, Nat.add_zero] at g1 RT hsl
  rw [txt_ab] at RT
  clear h3 H2 hL hc gB hB2 htk habl b3 C2
  simp only [List.length_cons, List.length_nil]
  go_wp2_with fail
  refine CM.out.mono ?_
  rintro e w' ⟨rfl, rfl⟩
  go_wp2_with fail
  refine CT.out.mono ?_
  rintro e w4 ⟨rfl, b4⟩
  have B4 := Lib.hid b4
  clear b4
  go_wp2_with fail
  go_ret
  exact ⟨rfl, HLOW.out.trans (B4.out.mono HLOW.out.size)⟩

end Go.Proofs.Ytfcjgbkpefcajaa
