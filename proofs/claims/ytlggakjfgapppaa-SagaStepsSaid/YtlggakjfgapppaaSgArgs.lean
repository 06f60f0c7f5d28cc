/- What came in as numbers, as truths, as a saga. -/
import Derived.Test.YtlggakjfgapppaaSgLay
import Derived.Test.YtlggakjfgapppaaRows
import Derived.OpenShut
import Derived.ChangeSlices
import Derived.Deep.Slices
import Derived.Deep.Strs
import Derived.Deep.Grids
import Derived.Lib.SmallJoins
namespace Go.Proofs.Ytlggakjfgapppaa
set_option maxRecDepth 100000
open Go.ChangeShapes Go.WideShapes Go.ChangeAt Go.RowKit

theorem laidOut : laidOutB Try.prog = true := by kernel_rfl
theorem cellsB4 : Try.prog.cellsOf 4 = 1 := by kernel_rfl
theorem cellsI : Try.prog.cellsOf 3 = 1 := by kernel_rfl
theorem cellsSg : Try.prog.cellsOf 25 = 3 := by kernel_rfl
theorem own : ownKnob Try.prog.godebug = none := by kernel_rfl

/-- A slice reads as these truths. -/
structure BoolsP (w : World) (a : Option Addr) (cap : Nat) (l : List Bool) : Prop where
  cap : l.length ≤ cap
  len : l.length ≤ 9223372036854775807
  cell : l ≠ [] → ∃ b o, a = some ⟨b, o, none⟩ ∧ b < w.heap.size ∧ ∀ (j : Nat) (x : Bool), l[j]? = some x → w.cell? ⟨b, o + j, none⟩ = some (.bool x)
theorem BoolsP.below {w w' : World} {a cap l} (h : BoolsP w a cap l) (hb : Below w.heap.size w w') : BoolsP w' a cap l := by
  refine ⟨h.cap, h.len, fun hne => ?_⟩
  obtain ⟨b, o, e, hlt, hc⟩ := h.cell hne
  exact ⟨b, o, e, Nat.lt_of_lt_of_le hlt hb.size, fun j x hx => (hb.cell (p := ⟨b, o + j, none⟩) hlt).trans (hc j x hx)⟩
theorem BoolsP.at {w : World} {a : Option Addr} {cap : Nat} {l : List Bool} (h : BoolsP w a cap l) (k : Nat) (hk : k < l.length) :
    ∃ b o, a = some ⟨b, o, none⟩ ∧ b < w.heap.size ∧ w.cell? ⟨b, o + k, none⟩ = some (.bool l[k]) := by
  obtain ⟨b, o, e, hlt, hc⟩ := h.cell (by intro e; subst e; simp at hk)
  exact ⟨b, o, e, hlt, hc k _ (List.getElem?_eq_getElem hk)⟩
theorem bools_of_trod {H : Type} {enc : TypeId × Value → H} {W : World} {base : Nat} {v : Value} {d : DataW H} {p : List MemPlace}
    (hv : Value.okWide Try.prog W .any base 35 v) (h : DataW.Trod enc Try.prog W 0 (fun _ => true) true 35 v d p) : ∃ a cap l, v = .slice a l.length cap ∧ BoolsP W a cap l ∧ l.length ≤ maxLen := by
  obtain ⟨a0, len0, cap0, rfl⟩ := okWide_slice Try.underlying35 hv
  obtain ⟨fuel, hf⟩ := h
  rcases Go.Deep.open_bools Try.underlying35 Try.underlying4 cellsB4 hf with ⟨e, _⟩ | ⟨a, len, cap, B, e, _, hl, hm, _, hcell⟩
  · simp [Value.cells] at e
    obtain ⟨rfl, rfl, rfl⟩ := e
    exact ⟨none, 0, [], rfl, ⟨by simp, by simp, fun h => absurd rfl h⟩, by simp⟩
  · simp [Value.cells] at e
    obtain ⟨rfl, rfl, rfl⟩ := e
    have hM : maxLen = 9223372036854775807 := rfl
    have hlen : ((List.range len0).map B).length = len0 := by simp
    refine ⟨_, _, (List.range len0).map B, by rw [hlen], ⟨by omega, by omega, fun hne => ?_⟩, by omega⟩
    have hpos : 0 < len0 := by
      rcases Nat.eq_zero_or_pos len0 with h | h
      · subst h; simp at hne
      · exact h
    obtain ⟨b, off, spot⟩ := a
    have hc0 := hcell 0 (by omega)
    have hspot : spot = none := by simpa [Addr.add] using World.cell?_spot hc0
    subst hspot
    refine ⟨b, off, rfl, ?_, fun j x hj => ?_⟩
    · have := World.block_lt_of_cell? W _ hc0
      simpa [Addr.add] using this
    · have hj2 := (List.getElem?_eq_some_iff.1 hj).1
      rw [hlen] at hj2
      rw [List.getElem?_map, List.getElem?_range hj2, Option.map_some, Option.some.injEq] at hj
      subst hj
      rw [← Go.WideShapes.add_plain]
      exact hcell j (by omega)


/-- A slice reads as these numbers. -/
structure IntsP (w : World) (a : Option Addr) (cap : Nat) (l : List Int) : Prop where
  cap : l.length ≤ cap
  len : l.length ≤ 9223372036854775807
  cell : l ≠ [] → ∃ b o, a = some ⟨b, o, none⟩ ∧ b < w.heap.size ∧ ∀ (j : Nat) (x : Int), l[j]? = some x → w.cell? ⟨b, o + j, none⟩ = some (.int .i64 x)
theorem IntsP.below {w w' : World} {a cap l} (h : IntsP w a cap l) (hb : Below w.heap.size w w') : IntsP w' a cap l := by
  refine ⟨h.cap, h.len, fun hne => ?_⟩
  obtain ⟨b, o, e, hlt, hc⟩ := h.cell hne
  exact ⟨b, o, e, Nat.lt_of_lt_of_le hlt hb.size, fun j x hx => (hb.cell (p := ⟨b, o + j, none⟩) hlt).trans (hc j x hx)⟩
theorem IntsP.at {w : World} {a : Option Addr} {cap : Nat} {l : List Int} (h : IntsP w a cap l) (k : Nat) (hk : k < l.length) :
    ∃ b o, a = some ⟨b, o, none⟩ ∧ b < w.heap.size ∧ w.cell? ⟨b, o + k, none⟩ = some (.int .i64 l[k]) := by
  obtain ⟨b, o, e, hlt, hc⟩ := h.cell (by intro e; subst e; simp at hk)
  exact ⟨b, o, e, hlt, hc k _ (List.getElem?_eq_getElem hk)⟩
theorem ints_of_trod {H : Type} {enc : TypeId × Value → H} {W : World} {base : Nat} {v : Value} {d : DataW H} {p : List MemPlace}
    (hv : Value.okWide Try.prog W .any base 33 v) (h : DataW.Trod enc Try.prog W 0 (fun _ => true) true 33 v d p) : ∃ a cap l, v = .slice a l.length cap ∧ IntsP W a cap l ∧ l.length ≤ maxLen := by
  obtain ⟨a0, len, cap, rfl⟩ := okWide_slice Try.underlying33 hv
  obtain ⟨fuel, hf⟩ := h
  rcases open_ints Try.underlying33 Try.underlying3 cellsI hf with ⟨hcs, hx⟩ | ⟨a, len', cap', zs, hcs, _, hl, hm, hz, hx, hcell, hws⟩
  · simp [Value.cells] at hcs
    obtain ⟨rfl, rfl, rfl⟩ := hcs
    exact ⟨none, 0, [], rfl, ⟨by simp, by simp, fun h => absurd rfl h⟩, by simp⟩
  · simp [Value.cells] at hcs
    obtain ⟨rfl, rfl, rfl⟩ := hcs
    simp only [if_true] at hz
    have hM : maxLen = 9223372036854775807 := rfl
    have hlen : (zs.take len).length = len := by rw [List.length_take]; omega
    refine ⟨_, cap, zs.take len, by rw [hlen], ⟨by omega, by omega, fun hne => ?_⟩, by omega⟩
    have hpos : 0 < len := by
      rcases Nat.eq_zero_or_pos len with h | h
      · subst h; simp at hne
      · exact h
    obtain ⟨b, off, spot⟩ := a
    have hspot : spot = none := by simpa [Addr.add] using World.cell?_spot (hcell 0 (by omega))
    subst hspot
    have hc0 := hcell 0 (by omega)
    refine ⟨b, off, rfl, ?_, fun j x hj => ?_⟩
    · have := World.block_lt_of_cell? W _ hc0
      simpa [Addr.add] using this
    · have hj2 := (List.getElem?_eq_some_iff.1 hj).1
      rw [hlen] at hj2
      have hc := hcell j (by omega)
      rw [List.getElem?_take, if_pos hj2] at hj
      rw [← Go.WideShapes.add_plain]
      rw [hc]
      simp [List.getD_eq_getElem?_getD, hj]

theorem saga_of_trod {H : Type} {enc : TypeId × Value → H} {W : World} {base : Nat} {v : Value} {d : DataW H} {p : List MemPlace}
    (hv : Value.okWide Try.prog W .any base 25 v) (h : DataW.Trod enc Try.prog W 0 (fun _ => true) true 25 v d p) : ∃ s, v = sgV s := by
  obtain ⟨cs, rfl, hsz⟩ := okWide_struct Try.underlying25 hv
  obtain ⟨fuel, hf⟩ := h
  obtain ⟨xs, m, _, _, hlen, hxl, hf⟩ := DataW.trod_struct Try.underlying25 hf
  rw [cellsSg] at hlen
  simp only [Value.cells] at hlen hf
  obtain ⟨l⟩ := cs
  match l, hlen with
  | [c0, c1, c2], _ =>
    have hx : xs.length = 3 := hxl
    match xs, hx with
    | [x0, x1, x2], _ =>
      have h0 := hf 0 _ rfl
      have h1 := hf 1 _ rfl
      have h2 := hf 2 _ rfl
      simp only [List.getElem?_cons_zero, List.getElem?_cons_succ] at h0 h1 h2
      obtain ⟨p, e0, _⟩ := DataW.trod_int Try.underlying3 h0
      obtain ⟨g, e1, _⟩ := DataW.trod_bool Try.underlying4 h1
      obtain ⟨r, e2, _⟩ := DataW.trod_int Try.underlying3 h2
      simp [cellsI, cellsB4] at e0 e1 e2
      subst e0 e1 e2
      exact ⟨⟨p, g, r⟩, rfl⟩

end Go.Proofs.Ytlggakjfgapppaa
