/- Slices of lines in memory; what isLine, find$1, Pieces$1 and Weight$1 of package lines answer of one line. -/
import Derived.Test.YtijcgioggmphkaaPlain3
import Derived.Test.YtijcgioggmphkaaRef
import Derived.WalkKit
import Derived.WalkSpells
import Derived.ProofKit
import Derived.Below
import Derived.IntWalk
import Derived.Lib.Hide
import Derived.Laws.StructEq
namespace Go.Proofs.Ytijcgioggmphkaa
open Go.RowKit

/-- A line as a value. -/
def lnV (x : Ln) : Value := .agg #[.string x.sku, .int .i64 x.qty, .int .i64 x.wt]

theorem bcell {W w1 : World} (hb : Below W.heap.size W w1) : (∀ b o, b < W.heap.size → w1.cell? ⟨b, o, none⟩ = W.cell? ⟨b, o, none⟩) ∧ (∀ b o, b < W.heap.size → w1.frozen? ⟨b, o, none⟩ = W.frozen? ⟨b, o, none⟩) :=
  ⟨fun b o h => hb.cell (p := ⟨b, o, none⟩) h, fun b o h => hb.frozen (p := ⟨b, o, none⟩) h⟩

theorem below_drewN {B : Nat} {a w : World} (h : Below B a w) (q : Nat) : Below B a (w.drewN q) := ⟨h.os, h.tape, h.output, h.size, h.block⟩

set_option maxHeartbeats 1000000 in
theorem isLine_any (s : ByteArray) (q t : Int) (w : World) (hs : s.size ≤ maxLen) :
    Calls Try.prog 22 #[.agg #[.string s, .int .i64 q, .int .i64 t]] w fun e w' => e = .returned (.bool (lineB ⟨s, q, t⟩)) ∧ Below w.heap.size w w' := by
  have C := Lib.hid (fun w => right_any s w hs)
  have HL := Lib.hid (show lineB ⟨s, q, t⟩ = (rightB s.data.toList && decide (1 ≤ q ∧ q ≤ 1000 ∧ 0 ≤ t ∧ t ≤ 100000)) from rfl)
  rw [HL.out]
  generalize rightB s.data.toList = r at *
  cases r <;> by_cases h1 : 1 ≤ q <;> by_cases h2 : q ≤ 1000 <;> by_cases h3 : 0 ≤ t <;> by_cases h4 : t ≤ 100000
  all_goals try (exfalso; omega)
  all_goals
    go_enter Try.func22, Try.ntmps22
    go_wp2_with fail
    refine (C.out _).mono ?_
    rintro e w1 ⟨rfl, b1⟩
    obtain ⟨hc, hf⟩ := bcell b1
    go_wp2_with fail
    go_ret
    exact ⟨by simp [h1, h2, h3, h4], ((Below.refl _ w).alloc (Nat.le_refl _) _).trans (b1.mono (by simp))⟩

theorem pieces1_any (s : ByteArray) (q t : Int) (w : World) :
    Calls Try.prog 32 #[.agg #[.string s, .int .i64 q, .int .i64 t]] w fun e w' => e = .returned (.int .i64 q) ∧ Below w.heap.size w w' := by
  go_enter Try.func32, Try.ntmps32
  go_wp2_with fail
  go_ret
  exact ⟨rfl, (Below.refl _ w).alloc (Nat.le_refl _) _⟩

theorem weight1_any (s : ByteArray) (q t : Int) (w : World) (h : 0 ≤ q * t) (h2 : q * t ≤ 100000000) :
    Calls Try.prog 28 #[.agg #[.string s, .int .i64 q, .int .i64 t]] w fun e w' => e = .returned (.int .i64 (q * t)) ∧ Below w.heap.size w w' := by
  go_enter Try.func28, Try.ntmps28
  go_wp2_with fail
  go_ret
  exact ⟨rfl, (Below.refl _ w).alloc (Nat.le_refl _) _⟩

theorem cmp_any (a b : ByteArray) (w : World) : Calls Try.prog 29 #[.string a, .string b] w fun e w' => e = .returned (.int .i64 (kcmp a b)) ∧ w = w' := compare_any a b w
theorem refCmp_any (a b : ByteArray) (w : World) (ha : a.size ≤ maxLen) (hb : b.size ≤ maxLen) : Calls Try.prog 31 #[.string a, .string b] w fun e w' => e = .returned (.int .i64 (kcmp a b)) ∧ Below w.heap.size w w' := refCompare_any a b w ha hb

theorem find1_any (s k : ByteArray) (q t : Int) (w : World) :
    Calls Try.prog 35 #[.agg #[.string s, .int .i64 q, .int .i64 t], .string k] w fun e w' => e = .returned (.int .i64 (kcmp s k)) ∧ Below w.heap.size w w' := by
  go_enter Try.func35, Try.ntmps35
  go_wp2_with fail
  refine (compare_any _ _ _).mono ?_
  rintro e w1 ⟨rfl, rfl⟩
  go_wp2_with fail
  go_ret
  exact ⟨rfl, (Below.refl _ w).alloc (Nat.le_refl _) _⟩

/-- A slice reads as these lines. -/
structure LnsP (w : World) (a : Option Addr) (cap : Nat) (ls : List Ln) : Prop where
  cap : ls.length ≤ cap
  size : ∀ x ∈ ls, x.sku.size ≤ maxLen
  cell : ls ≠ [] → ∃ b o, a = some ⟨b, o, none⟩ ∧ b < w.heap.size ∧ ∀ j x, ls[j]? = some x → w.cell? ⟨b, o + j * 3, none⟩ = some (.string x.sku) ∧ w.cell? ⟨b, o + j * 3 + 1, none⟩ = some (.int .i64 x.qty) ∧ w.cell? ⟨b, o + j * 3 + 2, none⟩ = some (.int .i64 x.wt)

theorem LnsP.below {w w' : World} {a cap ls} (h : LnsP w a cap ls) (hb : Below w.heap.size w w') : LnsP w' a cap ls := by
  refine ⟨h.cap, h.size, fun hne => ?_⟩
  obtain ⟨b, o, e, hlt, hc⟩ := h.cell hne
  refine ⟨b, o, e, Nat.lt_of_lt_of_le hlt hb.size, fun j x hx => ?_⟩
  obtain ⟨c1, c2, c3⟩ := hc j x hx
  exact ⟨(hb.cell (p := ⟨b, o + j * 3, none⟩) hlt).trans c1, (hb.cell (p := ⟨b, o + j * 3 + 1, none⟩) hlt).trans c2, (hb.cell (p := ⟨b, o + j * 3 + 2, none⟩) hlt).trans c3⟩

theorem LnsP.nil (w : World) (a : Option Addr) (cap : Nat) : LnsP w a cap [] := ⟨by simp, by simp, fun h => absurd rfl h⟩

/-- The line at a place. -/
theorem LnsP.at {w : World} {a : Option Addr} {cap : Nat} {ls : List Ln} (h : LnsP w a cap ls) (k : Nat) (hk : k < ls.length) :
    ∃ b o, a = some ⟨b, o, none⟩ ∧ b < w.heap.size ∧ w.cell? ⟨b, o + k * 3, none⟩ = some (.string ls[k].sku) ∧ w.cell? ⟨b, o + k * 3 + 1, none⟩ = some (.int .i64 ls[k].qty) ∧ w.cell? ⟨b, o + k * 3 + 2, none⟩ = some (.int .i64 ls[k].wt) ∧ ls[k].sku.size ≤ maxLen := by
  have hne : ls ≠ [] := by intro e; subst e; simp at hk
  obtain ⟨b, o, e, hlt, hc⟩ := h.cell hne
  obtain ⟨c1, c2, c3⟩ := hc k _ (List.getElem?_eq_getElem hk)
  exact ⟨b, o, e, hlt, c1, c2, c3, h.size _ (List.getElem_mem hk)⟩

end Go.Proofs.Ytijcgioggmphkaa
