/- Slices of lines in memory; what isLine, find$1, Pieces$1 and Weight$1 of package lines answer of one line. -/
import Derived.Test.YtpmgafmbmjokhaaDoorLnPlain
import Derived.Test.YtpmgafmbmjokhaaDoorLbRef
import Derived.WalkKit
import Derived.WalkSpells
import Derived.ProofKit
import Derived.Below
import Derived.IntWalk
import Derived.Lib.Hide
import Derived.Laws.StructEq
import Derived.Deep.QuietTactic
import Derived.BigQuiet
namespace Go.Proofs.YtpmgafmbmjokhaaDoor
open Go.RowKit

/-- A line as a value. -/
def lnV (x : Ln) : Value := .agg #[.string x.sku, .int .i64 x.qty, .int .i64 x.wt]

theorem bcell {W w1 : World} (hb : Below W.heap.size W w1) : (∀ b o, b < W.heap.size → w1.cell? ⟨b, o, none⟩ = W.cell? ⟨b, o, none⟩) ∧ (∀ b o, b < W.heap.size → w1.frozen? ⟨b, o, none⟩ = W.frozen? ⟨b, o, none⟩) :=
  ⟨fun b o h => hb.cell (p := ⟨b, o, none⟩) h, fun b o h => hb.frozen (p := ⟨b, o, none⟩) h⟩


set_option maxHeartbeats 1000000 in
theorem isLine_any (s : ByteArray) (q t : Int) (w : World) (hs : s.size ≤ maxLen) :
    Calls Tryd.prog 36 #[.agg #[.string s, .int .i64 q, .int .i64 t]] w fun e w' => e = .returned (.bool (lineB ⟨s, q, t⟩)) ∧ Below w.heap.size w w' := by
  have C := Lib.hid (fun w => right_any s w hs)
  have HL := Lib.hid (show lineB ⟨s, q, t⟩ = (rightB s.data.toList && decide (1 ≤ q ∧ q ≤ 1000 ∧ 0 ≤ t ∧ t ≤ 100000)) from rfl)
  rw [HL.out]
  generalize rightB s.data.toList = r at *
  cases r <;> by_cases h1 : 1 ≤ q <;> by_cases h2 : q ≤ 1000 <;> by_cases h3 : 0 ≤ t <;> by_cases h4 : t ≤ 100000
  all_goals try (exfalso; omega)
  all_goals
    go_enter Tryd.func36, Tryd.ntmps36
    go_wp2_with fail
    refine (C.out _).mono ?_
    rintro e w1 ⟨rfl, b1⟩
    obtain ⟨hc, hf⟩ := bcell b1
    go_wp2_with fail
    go_ret
    exact ⟨by simp [h1, h2, h3, h4], ((Below.refl _ w).alloc (Nat.le_refl _) _).trans (b1.mono (by simp))⟩

theorem cmp_any (a b : ByteArray) (w : World) : Calls Tryd.prog 37 #[.string a, .string b] w fun e w' => e = .returned (.int .i64 (kcmp a b)) ∧ w = w' := compare_any a b w
/-- A slice reads as these lines. -/
structure LnsP (w : World) (a : Option Addr) (cap : Nat) (ls : List Ln) : Prop where
  cap : ls.length ≤ cap
  size : ∀ x ∈ ls, x.sku.size ≤ maxLen
  cell : ls ≠ [] → ∃ b o, a = some ⟨b, o, none⟩ ∧ b < w.heap.size ∧ ∀ j x, ls[j]? = some x → w.cell? ⟨b, o + j * 3, none⟩ = some (.string x.sku) ∧ w.cell? ⟨b, o + j * 3 + 1, none⟩ = some (.int .i64 x.qty) ∧ w.cell? ⟨b, o + j * 3 + 2, none⟩ = some (.int .i64 x.wt)

theorem LnsP.below {w w' : World} {a cap ls} (h : LnsP w a cap ls) (hb : Below w.heap.size w w') : LnsP w' a cap ls := by
  refine ⟨h.cap, h.size, fun hne => ?_⟩
  obtain ⟨b, o, e, hlt, hc⟩ := h.cell hne
  refine ⟨b, o, e, Nat.lt_of_lt_of_le hlt hb.size, fun j x hx => ?_⟩
  obtain ⟨c1, c2, c3⟩ := hc j x hx
  exact ⟨(hb.cell (p := ⟨b, o + j * 3, none⟩) hlt).trans c1, (hb.cell (p := ⟨b, o + j * 3 + 1, none⟩) hlt).trans c2, (hb.cell (p := ⟨b, o + j * 3 + 2, none⟩) hlt).trans c3⟩

theorem LnsP.nil (w : World) (a : Option Addr) (cap : Nat) : LnsP w a cap [] := ⟨by simp, by simp, fun h => absurd rfl h⟩

/-- The line at a place. -/
theorem LnsP.at {w : World} {a : Option Addr} {cap : Nat} {ls : List Ln} (h : LnsP w a cap ls) (k : Nat) (hk : k < ls.length) :
    ∃ b o, a = some ⟨b, o, none⟩ ∧ b < w.heap.size ∧ w.cell? ⟨b, o + k * 3, none⟩ = some (.string ls[k].sku) ∧ w.cell? ⟨b, o + k * 3 + 1, none⟩ = some (.int .i64 ls[k].qty) ∧ w.cell? ⟨b, o + k * 3 + 2, none⟩ = some (.int .i64 ls[k].wt) ∧ ls[k].sku.size ≤ maxLen := by
  have hne : ls ≠ [] := by intro e; subst e; simp at hk
  obtain ⟨b, o, e, hlt, hc⟩ := h.cell hne
  obtain ⟨c1, c2, c3⟩ := hc k _ (List.getElem?_eq_getElem hk)
  exact ⟨b, o, e, hlt, c1, c2, c3, h.size _ (List.getElem_mem hk)⟩


/-- What another world has that keeps all of w. -/
structure Far (w : World) where
  heap : Array Obj
  drawn : Nat
  size : w.heap.size ≤ heap.size
  block : ∀ k, k < w.heap.size → heap[k]? = w.heap[k]?

instance farHas (w : World) : Inhabited (Far w) := ⟨⟨w.heap, w.drawn, Nat.le_refl _, fun _ _ => rfl⟩⟩

def farOf (w : World) (p : Far w) : World := { w with heap := p.heap, drawn := p.drawn }

theorem far_below (w : World) (p : Far w) : Below w.heap.size w (farOf w p) := ⟨rfl, rfl, rfl, p.size, p.block⟩
theorem far_cell {w : World} {a : Addr} {v : Value} (hb : a.block < w.heap.size) (h : w.cell? a = some v) (p : Far w) : (farOf w p).cell? a = some v := ((far_below w p).cell hb).trans h
theorem far_of_below {w w' : World} (h : Below w.heap.size w w') : ∃ p : Far w, w' = farOf w p := by
  refine ⟨⟨w'.heap, w'.drawn, h.size, h.block⟩, ?_⟩
  obtain ⟨h1, h2, h3, _, _⟩ := h
  cases w'; cases w
  simp only at h1 h2 h3
  subst h1 h2 h3
  rfl

theorem calls_far {P : Program} {f : FuncId} {args : Array Value} {w : World} {p : Far w} {v : Value}
    (h : Calls P f args (farOf w p) fun e w' => e = .returned v ∧ Below (farOf w p).heap.size (farOf w p) w') : Calls P f args (farOf w p) fun e w'' => e = .returned v ∧ ∃ p, w'' = farOf w p :=
  h.mono fun _ _ ⟨he, hb⟩ => ⟨he, far_of_below ((far_below w p).trans (hb.mono (far_below w p).size))⟩

theorem calls_far_same {P : Program} {f : FuncId} {args : Array Value} {w : World} {p : Far w} {v : Value}
    (h : Calls P f args (farOf w p) fun e w' => e = .returned v ∧ farOf w p = w') : Calls P f args (farOf w p) fun e w'' => e = .returned v ∧ ∃ p, w'' = farOf w p :=
  h.mono fun _ _ ⟨he, hb⟩ => ⟨he, p, hb.symm⟩

theorem wp_region_far {P : Program} {id : Nat} {Q : Exit → Act → World → Prop} {a : Act} {w : World} {l : List Oper} (hm : P.follows .mixedOrders = true) (hB : Region.lexB .any l.toArray = true)
    (h : wpQuiet P l.toArray (fun w' => ∃ p : Far w, w' = farOf w p) (fun a' => ∀ w', (∃ p : Far w, w' = farOf w p) → Q .normal a' w') l a) : (Code.region id l.toArray true).wp P Q a w :=
  wp_region_quiet (C := fun w' => ∃ p : Far w, w' = farOf w p) hm hB (far_of_below ⟨rfl, rfl, rfl, Nat.le_refl _, fun _ _ => rfl⟩) (by simpa using h)

end Go.Proofs.YtpmgafmbmjokhaaDoor
