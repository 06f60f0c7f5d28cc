/- What came in as a batch, as caps, as acts. -/
import Derived.Test.YtieoihmndpkdoaaBtMem
import Derived.Test.YtieoihmndpkdoaaScArgs
namespace Go.Proofs.Ytieoihmndpkdoaa
set_option maxRecDepth 100000
open Go.ChangeShapes Go.WideShapes Go.ChangeAt Go.RowKit

theorem cellsTs : Try.prog.cellsOf 26 = 1 := by kernel_rfl
theorem cellsBt : Try.prog.cellsOf 28 = 9 := by kernel_rfl
theorem cellsCp : Try.prog.cellsOf 23 = 2 := by kernel_rfl

theorem batch_of_trod {H : Type} {enc : TypeId × Value → H} {W : World} {base : Nat} {v : Value} {d : DataW H} {p : List MemPlace}
    (hv : Value.okWide Try.prog W .any base 28 v) (h : DataW.Trod enc Try.prog W 0 (fun _ => true) true 28 v d p) : ∃ a cap b, v = btV a cap b ∧ BtP W a cap b := by
  obtain ⟨cs, rfl, hsz⟩ := okWide_struct Try.underlying28 hv
  obtain ⟨fuel, hf⟩ := h
  obtain ⟨xs, m, _, _, hlen, hxl, hf⟩ := DataW.trod_struct Try.underlying28 hf
  rw [cellsBt] at hlen
  simp only [Value.cells] at hlen hf
  obtain ⟨l⟩ := cs
  match l, hlen with
  | [c0, c1, c2, c3, c4, c5, c6, c7, c8], _ =>
    have hx7 : xs.length = 7 := hxl
    match xs, hx7 with
    | [x0, x1, x2, x3, x4, x5, x6], _ =>
      have h0 := hf 0 _ rfl
      have h1 := hf 1 _ rfl
      have h2 := hf 2 _ rfl
      have h3 := hf 3 _ rfl
      have h4 := hf 4 _ rfl
      have h5 := hf 5 _ rfl
      have h6 := hf 6 _ rfl
      simp only [List.getElem?_cons_zero, List.getElem?_cons_succ] at h0 h1 h2 h3 h4 h5 h6
      obtain ⟨i, e0, _⟩ := DataW.trod_int Try.underlying2 h0
      obtain ⟨t, e1, _⟩ := DataW.trod_int Try.underlying2 h1
      obtain ⟨f, e2, _⟩ := DataW.trod_int Try.underlying2 h2
      obtain ⟨k, e3, _⟩ := DataW.trod_int Try.underlying3 h3
      obtain ⟨q, e4, _⟩ := DataW.trod_int Try.underlying3 h4
      obtain ⟨g1, g2, g3, e5, q1, q2, q3⟩ := group_of_trod h5
      obtain ⟨a, cap, ls, e6, hL, hl, hs⟩ := strs_cells_trod h6
      simp [cells2, cellsI, cellsTs, cellsGr] at e0 e1 e2 e3 e4 e5 e6
      obtain ⟨rfl, rfl, rfl⟩ := e5
      subst e0 e1 e2 e3 e4 e6
      exact ⟨a, cap, ⟨i, t, f, k, q, g1, g2, g3, ls⟩, rfl, hL, hs, q1, q2, q3⟩

theorem caps_of_trod {H : Type} {enc : TypeId × Value → H} {W : World} {base : Nat} {v : Value} {d : DataW H} {p : List MemPlace}
    (hv : Value.okWide Try.prog W .any base 23 v) (h : DataW.Trod enc Try.prog W 0 (fun _ => true) true 23 v d p) : ∃ c, v = cpV c := by
  obtain ⟨cs, rfl, hsz⟩ := okWide_struct Try.underlying23 hv
  obtain ⟨fuel, hf⟩ := h
  obtain ⟨xs, m, _, _, hlen, hxl, hf⟩ := DataW.trod_struct Try.underlying23 hf
  rw [cellsCp] at hlen
  simp only [Value.cells] at hlen hf
  obtain ⟨l⟩ := cs
  match l, hlen with
  | [c0, c1], _ =>
    have hx2 : xs.length = 2 := hxl
    match xs, hx2 with
    | [x0, x1], _ =>
      have h0 := hf 0 _ rfl
      have h1 := hf 1 _ rfl
      simp only [List.getElem?_cons_zero, List.getElem?_cons_succ] at h0 h1
      obtain ⟨n, e0, _⟩ := DataW.trod_int Try.underlying3 h0
      obtain ⟨t, e1, _⟩ := DataW.trod_int Try.underlying2 h1
      simp [cellsI, cells2] at e0 e1
      subst e0 e1
      exact ⟨⟨n, t⟩, rfl⟩

theorem cellsAct : Try.prog.cellsOf 42 = 3 := by kernel_rfl

/-- Something that is done. -/
structure Ac where
  kind : Int
  id : ByteArray
  wt : Int

def acL (x : Ac) : List Value := [.int .i64 x.kind, .string x.id, .int .i64 x.wt]

theorem act_cells {H : Type} {enc : TypeId × Value → H} {W : World} {base : Nat} {spare : Nat → Bool} {held : Bool} {n : Nat} {cs : List Value} {x : DataW H × List MemPlace}
    (h : DataW.trod enc Try.prog W base spare held n 42 cs = some x) : ∃ y : Ac, cs = acL y ∧ y.id.size ≤ maxLen := by
  obtain ⟨xs, m, _, _, hlen, hxl, hf⟩ := DataW.trod_struct Try.underlying42 h
  rw [cellsAct] at hlen
  match cs, hlen with
  | [c0, c1, c2], _ =>
    have hx3 : xs.length = 3 := hxl
    match xs, hx3 with
    | [x0, x1, x2], _ =>
      have h0 := hf 0 _ rfl
      have h1 := hf 1 _ rfl
      have h2 := hf 2 _ rfl
      simp only [List.getElem?_cons_zero, List.getElem?_cons_succ] at h0 h1 h2
      obtain ⟨q0, e0, _, _⟩ := DataW.trod_int Try.underlying3 h0
      obtain ⟨s, e1, _, hs⟩ := DataW.trod_string Try.underlying9 h1
      obtain ⟨q2, e2, _, _⟩ := DataW.trod_int Try.underlying2 h2
      injection e0 with e0
      injection e1 with e1
      injection e2 with e2
      exact ⟨⟨q0, s, q2⟩, by rw [e0, e1, e2]; rfl, hs⟩

/-- A slice reads as these acts. -/
structure ActsP (w : World) (a : Option Addr) (cap : Nat) (l : List Ac) : Prop where
  cap : l.length ≤ cap
  len : l.length ≤ 9223372036854775807
  each : ∀ x ∈ l, x.id.size ≤ maxLen
  cell : l ≠ [] → ∃ b o, a = some ⟨b, o, none⟩ ∧ b < w.heap.size ∧ ∀ (j : Nat) (x : Ac), l[j]? = some x → w.cell? ⟨b, o + j * 3, none⟩ = some (.int .i64 x.kind) ∧ w.cell? ⟨b, o + j * 3 + 1, none⟩ = some (.string x.id) ∧ w.cell? ⟨b, o + j * 3 + 2, none⟩ = some (.int .i64 x.wt)

theorem ActsP.below {w w' : World} {a cap l} (h : ActsP w a cap l) (hb : Below w.heap.size w w') : ActsP w' a cap l := by
  refine ⟨h.cap, h.len, h.each, fun hne => ?_⟩
  obtain ⟨b, o, e, hlt, hc⟩ := h.cell hne
  refine ⟨b, o, e, Nat.lt_of_lt_of_le hlt hb.size, fun j x hx => ?_⟩
  obtain ⟨h0, h1, h2⟩ := hc j x hx
  exact ⟨(hb.cell (p := ⟨b, o + j * 3, none⟩) hlt).trans h0, (hb.cell (p := ⟨b, o + j * 3 + 1, none⟩) hlt).trans h1, (hb.cell (p := ⟨b, o + j * 3 + 2, none⟩) hlt).trans h2⟩
/-- The act at a place. -/
theorem ActsP.at {w : World} {a : Option Addr} {cap : Nat} {l : List Ac} (h : ActsP w a cap l) (k : Nat) (hk : k < l.length) :
    ∃ b o, a = some ⟨b, o, none⟩ ∧ b < w.heap.size ∧ w.cell? ⟨b, o + k * 3, none⟩ = some (.int .i64 l[k].kind) ∧ w.cell? ⟨b, o + k * 3 + 1, none⟩ = some (.string l[k].id) ∧ w.cell? ⟨b, o + k * 3 + 2, none⟩ = some (.int .i64 l[k].wt) := by
  have hne : l ≠ [] := by intro e; subst e; simp at hk
  obtain ⟨b, o, e, hlt, hc⟩ := h.cell hne
  exact ⟨b, o, e, hlt, hc k _ (List.getElem?_eq_getElem hk)⟩

theorem acts_cells {H : Type} {enc : TypeId × Value → H} {W : World} {fuel : Nat} {cs : List Value} {x : DataW H × List MemPlace}
    (hf : DataW.trod enc Try.prog W 0 (fun _ => true) true fuel 40 cs = some x) : ∃ a cap l, cs = [.slice a l.length cap] ∧ ActsP W a cap l ∧ l.length ≤ maxLen := by
  rcases Go.Deep.open_slice Try.underlying40 hf with ⟨hcs, hx⟩ | ⟨a, len', cap', m, n, D, Pl, hcs, _, hl, hm, hmm, hx, hi⟩
  · exact ⟨none, 0, [], hcs, ⟨by simp, by simp, fun _ h => by simp at h, fun h => absurd rfl h⟩, by simp⟩
  · simp only [if_true] at hmm
    subst hmm
    rw [cellsAct] at hi
    have hM : maxLen = 9223372036854775807 := rfl
    have hpick : ∀ i, i < len' → ∃ y : Ac, W.cells? 0 (a.add (i * 3)) 3 = some (acL y) ∧ y.id.size ≤ maxLen := by
      intro i hil
      obtain ⟨cs', hc, ht⟩ := hi i (by omega)
      obtain ⟨y, rfl, hk⟩ := act_cells ht
      exact ⟨y, hc, hk⟩
    obtain ⟨l, hll, hlp⟩ := pick_list len' hpick
    refine ⟨some a, m, l, by rw [hll]; exact hcs, ⟨by omega, by omega, ?_, fun hne => ?_⟩, by omega⟩
    · intro x hx
      obtain ⟨i, hi, rfl⟩ := List.mem_iff_getElem.1 hx
      exact (hlp i _ (List.getElem?_eq_getElem hi)).2
    · have hcell : ∀ j x, l[j]? = some x → W.cell? ((a.add (j * 3)).add 0) = some (.int .i64 x.kind) ∧ W.cell? ((a.add (j * 3)).add 1) = some (.string x.id) ∧ W.cell? ((a.add (j * 3)).add 2) = some (.int .i64 x.wt) := by
        intro j x hj
        obtain ⟨_, _, hat⟩ := World.cells?_some (hlp j x hj).1
        exact ⟨hat 0 (by omega), hat 1 (by omega), hat 2 (by omega)⟩
      obtain ⟨x0, hx0⟩ : ∃ x0, l[0]? = some x0 := by
        cases l with
        | nil => exact absurd rfl hne
        | cons y r => exact ⟨y, rfl⟩
      obtain ⟨b, off, spot⟩ := a
      have hc0 := (hcell 0 x0 hx0).1
      have hspot : spot = none := by simpa [Addr.add] using World.cell?_spot hc0
      subst hspot
      refine ⟨b, off, rfl, ?_, fun j x hj => ?_⟩
      · have := World.block_lt_of_cell? W _ hc0
        simpa [Addr.add] using this
      · obtain ⟨q1, q2, q3⟩ := hcell j x hj
        simp only [Addr.add_lit, Nat.add_zero] at q1 q2 q3
        exact ⟨q1, q2, q3⟩

theorem acts_of_trod {H : Type} {enc : TypeId × Value → H} {W : World} {base : Nat} {v : Value} {d : DataW H} {p : List MemPlace}
    (hv : Value.okWide Try.prog W .any base 40 v) (h : DataW.Trod enc Try.prog W 0 (fun _ => true) true 40 v d p) : ∃ a cap l, v = .slice a l.length cap ∧ ActsP W a cap l ∧ l.length ≤ maxLen := by
  obtain ⟨a0, len, cap, rfl⟩ := okWide_slice Try.underlying40 hv
  obtain ⟨fuel, hf⟩ := h
  obtain ⟨a, c, l, hcs, hA, hl⟩ := acts_cells hf
  simp [Value.cells] at hcs
  obtain ⟨rfl, rfl, rfl⟩ := hcs
  exact ⟨_, _, l, rfl, hA, hl⟩

theorem cellsTwo : Try.prog.cellsOf 62 = 6 := by kernel_rfl
/-- Two acts as a value. -/
def twoV (x y : Ac) : Value := .agg #[.int .i64 x.kind, .string x.id, .int .i64 x.wt, .int .i64 y.kind, .string y.id, .int .i64 y.wt]
theorem okWide_six {W : World} {base : Nat} {v : Value} {t e : TypeId} (hu : Try.prog.underlying t = some (.array 2 e)) (hc : Try.prog.cellsOf t = 6) (hv : Value.okWide Try.prog W .any base t v) : ∃ c0 c1 c2 c3 c4 c5, v = .agg #[c0, c1, c2, c3, c4, c5] := by
  simp only [Value.okWide, hu] at hv
  obtain ⟨cs, rfl, hs, _⟩ := hv
  rw [hc] at hs
  obtain ⟨l⟩ := cs
  match l, hs with
  | [c0, c1, c2, c3, c4, c5], _ => exact ⟨c0, c1, c2, c3, c4, c5, rfl⟩
theorem twoActs_of_trod {H : Type} {enc : TypeId × Value → H} {W : World} {base : Nat} {v : Value} {d : DataW H} {p : List MemPlace}
    (hv : Value.okWide Try.prog W .any base 62 v) (h : DataW.Trod enc Try.prog W 0 (fun _ => true) true 62 v d p) :
    ∃ x y : Ac, v = twoV x y ∧ x.id.size ≤ maxLen ∧ y.id.size ≤ maxLen := by
  obtain ⟨c0, c1, c2, c3, c4, c5, rfl⟩ := okWide_six Try.underlying62 cellsTwo hv
  obtain ⟨fuel, hf⟩ := h
  obtain ⟨xs, m, _, _, _, hl, hel⟩ := DataW.trod_array Try.underlying62 hf
  rw [cellsAct] at hel
  match xs, hl with
  | [y0, y1], _ =>
    have h0 := hel 0 (by omega)
    have h1 := hel 1 (by omega)
    simp [Value.cells] at h0 h1
    obtain ⟨x, e0, s0⟩ := act_cells h0
    obtain ⟨y, e1, s1⟩ := act_cells h1
    unfold acL at e0 e1
    simp at e0 e1
    obtain ⟨rfl, rfl, rfl⟩ := e0
    obtain ⟨rfl, rfl, rfl⟩ := e1
    exact ⟨x, y, rfl, s0, s1⟩

end Go.Proofs.Ytieoihmndpkdoaa
