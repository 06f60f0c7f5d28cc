/- What came in as an effect, as effects, as acts. -/
import Derived.Test.YtciijkognhdddaaObLay
import Derived.Test.YtciijkognhdddaaSlArgs
namespace Go.Proofs.Ytciijkognhdddaa
set_option maxRecDepth 100000
open Go.ChangeShapes Go.WideShapes Go.ChangeAt Go.RowKit

theorem cellsEf : Try.prog.cellsOf 27 = 6 := by kernel_rfl
theorem effect_cells {H : Type} {enc : TypeId × Value → H} {W : World} {base : Nat} {spare : Nat → Bool} {held : Bool} {n : Nat} {cs : List Value} {x : DataW H × List MemPlace}
    (h : DataW.trod enc Try.prog W base spare held n 27 cs = some x) : ∃ y : Ef, cs = efL y ∧ y.order.size ≤ maxLen := by
  obtain ⟨xs, m, _, _, hlen, hxl, hf⟩ := DataW.trod_struct Try.underlying27 h
  rw [cellsEf] at hlen
  match cs, hlen with
  | [c0, c1, c2, c3, c4, c5], _ =>
    have hx : xs.length = 6 := hxl
    match xs, hx with
    | [x0, x1, x2, x3, x4, x5], _ =>
      have h0 := hf 0 _ rfl
      have h1 := hf 1 _ rfl
      have h2 := hf 2 _ rfl
      have h3 := hf 3 _ rfl
      have h4 := hf 4 _ rfl
      have h5 := hf 5 _ rfl
      simp only [List.getElem?_cons_zero, List.getElem?_cons_succ] at h0 h1 h2 h3 h4 h5
      obtain ⟨q0, e0, _, _⟩ := DataW.trod_int Try.underlying2 h0
      obtain ⟨q1, e1, _, _⟩ := DataW.trod_int Try.underlying2 h1
      obtain ⟨q2, e2, _, _⟩ := DataW.trod_int Try.underlying2 h2
      obtain ⟨q3, e3, _, _⟩ := DataW.trod_int Try.underlying3 h3
      obtain ⟨q4, e4, _, _⟩ := DataW.trod_int Try.underlying3 h4
      obtain ⟨s, e5, _, hs⟩ := DataW.trod_string Try.underlying9 h5
      injection e0 with e0
      injection e1 with e1
      injection e2 with e2
      injection e3 with e3
      injection e4 with e4
      injection e5 with e5
      exact ⟨⟨q0, q1, q2, q3, q4, s⟩, by rw [e0, e1, e2, e3, e4, e5]; rfl, hs⟩
theorem effect_of_trod {H : Type} {enc : TypeId × Value → H} {W : World} {base : Nat} {v : Value} {d : DataW H} {p : List MemPlace}
    (hv : Value.okWide Try.prog W .any base 27 v) (h : DataW.Trod enc Try.prog W 0 (fun _ => true) true 27 v d p) : ∃ e, v = efV e ∧ e.order.size ≤ maxLen := by
  obtain ⟨cs, rfl, hsz⟩ := okWide_struct Try.underlying27 hv
  obtain ⟨fuel, hf⟩ := h
  obtain ⟨y, e, hs⟩ := effect_cells hf
  refine ⟨y, ?_, hs⟩
  simp only [Value.cells] at e
  obtain ⟨l⟩ := cs
  simp only at e
  subst e
  rfl
theorem effs_of_trod {H : Type} {enc : TypeId × Value → H} {W : World} {base : Nat} {v : Value} {d : DataW H} {p : List MemPlace}
    (hv : Value.okWide Try.prog W .any base 22 v) (h : DataW.Trod enc Try.prog W 0 (fun _ => true) true 22 v d p) : ∃ a cap l, v = .slice a (List.length l) cap ∧ SlP LE W a cap l ∧ ∀ y ∈ l, y.order.size ≤ maxLen := by
  obtain ⟨a, cap, l, e, hS, _, hP⟩ := sl_of_trod (L := LE) LE_ok cellsEf (P := fun y => y.order.size ≤ maxLen) (fun h => effect_cells h) hv h
  exact ⟨a, cap, l, e, hS, hP⟩

/-- Something that is done. -/
structure Ac where
  kind : Int
  ef : Ef
  now : Int
def acL (x : Ac) : List Value := .int .i64 x.kind :: (efL x.ef ++ [.int .i64 x.now])
def LA : Lay Ac := ⟨acL, 8, 35, 33, .agg (acL ⟨0, noEf, 0⟩).toArray, 72⟩
theorem LA_ok : LA.Ok where
  len := fun _ => rfl
  one := fun x v h => by
    simp only [LA, acL, efL, List.mem_cons, List.cons_append, List.nil_append, List.not_mem_nil, or_false] at h
    rcases h with rfl | rfl | rfl | rfl | rfl | rfl | rfl | rfl <;> rfl
  und := Try.underlying33
  info := by kernel_rfl
  zs := rfl
  pos := by decide
  few := by decide
  agg := fun W => by show (isAgg 35).run Try.prog W = _; kernel_rfl
theorem cellsAc : Try.prog.cellsOf 35 = 8 := by kernel_rfl
theorem act_cells {H : Type} {enc : TypeId × Value → H} {W : World} {base : Nat} {spare : Nat → Bool} {held : Bool} {n : Nat} {cs : List Value} {x : DataW H × List MemPlace}
    (h : DataW.trod enc Try.prog W base spare held n 35 cs = some x) : ∃ y : Ac, cs = acL y ∧ y.ef.order.size ≤ maxLen := by
  obtain ⟨xs, m, _, _, hlen, hxl, hf⟩ := DataW.trod_struct Try.underlying35 h
  rw [cellsAc] at hlen
  match cs, hlen with
  | [c0, c1, c2, c3, c4, c5, c6, c7], _ =>
    have hx : xs.length = 3 := hxl
    match xs, hx with
    | [x0, x1, x2], _ =>
      have h0 := hf 0 _ rfl
      have h1 := hf 1 _ rfl
      have h2 := hf 2 _ rfl
      simp only [List.getElem?_cons_zero, List.getElem?_cons_succ] at h0 h1 h2
      obtain ⟨q0, e0, _, _⟩ := DataW.trod_int Try.underlying3 h0
      obtain ⟨y, e1, hs⟩ := effect_cells h1
      obtain ⟨q2, e2, _, _⟩ := DataW.trod_int Try.underlying2 h2
      injection e0 with e0
      injection e2 with e2
      refine ⟨⟨q0, y, q2⟩, ?_, hs⟩
      have e1 : [c1, c2, c3, c4, c5, c6] = efL y := e1
      unfold acL
      rw [← e1, e0, e2]
      rfl
theorem acts_of_trod {H : Type} {enc : TypeId × Value → H} {W : World} {base : Nat} {v : Value} {d : DataW H} {p : List MemPlace}
    (hv : Value.okWide Try.prog W .any base 33 v) (h : DataW.Trod enc Try.prog W 0 (fun _ => true) true 33 v d p) : ∃ a cap l, v = .slice a (List.length l) cap ∧ SlP LA W a cap l ∧ ∀ y ∈ l, y.ef.order.size ≤ maxLen := by
  obtain ⟨a, cap, l, e, hS, _, hP⟩ := sl_of_trod (L := LA) LA_ok cellsAc (P := fun y => y.ef.order.size ≤ maxLen) (fun h => act_cells h) hv h
  exact ⟨a, cap, l, e, hS, hP⟩

end Go.Proofs.Ytciijkognhdddaa
