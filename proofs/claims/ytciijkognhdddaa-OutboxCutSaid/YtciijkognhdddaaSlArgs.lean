/- Slices of structs that came in. -/
import Derived.Test.YtciijkognhdddaaSl
import Derived.Test.YtciijkognhdddaaScArgs
namespace Go.Proofs.Ytciijkognhdddaa
set_option maxRecDepth 100000
open Go.ChangeShapes Go.WideShapes Go.ChangeAt Go.RowKit

theorem sl_cells_trod {α : Type} {L : Lay α} (k : L.Ok) (hcells : Try.prog.cellsOf L.T = L.n) {P : α → Prop} {H : Type} {enc : TypeId × Value → H} {W : World}
    (hone : ∀ {base : Nat} {spare : Nat → Bool} {held : Bool} {n : Nat} {cs : List Value} {x : DataW H × List MemPlace}, DataW.trod enc Try.prog W base spare held n L.T cs = some x → ∃ y : α, cs = L.enc y ∧ P y)
    {fuel : Nat} {cs : List Value} {x : DataW H × List MemPlace}
    (hf : DataW.trod enc Try.prog W 0 (fun _ => true) true fuel L.S cs = some x) : ∃ a cap l, cs = [.slice a (List.length l) cap] ∧ SlP L W a cap l ∧ l.length ≤ maxLen ∧ ∀ y ∈ l, P y := by
  rcases Go.Deep.open_slice k.und hf with ⟨hcs, hx⟩ | ⟨a, len, cap, m, n, D, Pl, hcs, _, hl, hm, hmm, hx, hi⟩
  · exact ⟨none, 0, [], hcs, SlP.nil _ _ _, by simp, fun _ h => by simp at h⟩
  · subst hcs
    simp only [if_true] at hmm
    subst hmm
    rw [hcells] at hi
    have hpick : ∀ i, i < len → ∃ y : α, W.cells? 0 (a.add (i * L.n)) L.n = some (L.enc y) ∧ P y := by
      intro i hil
      obtain ⟨cs', hc, ht⟩ := hi i (by omega)
      obtain ⟨y, rfl, hs⟩ := hone ht
      exact ⟨y, hc, hs⟩
    obtain ⟨l, hll, hlp⟩ := pick_list len hpick
    have hpos := k.pos
    refine ⟨some a, m, l, by rw [hll], ⟨by omega, by omega, fun hne => ?_⟩, by omega, fun x hx => ?_⟩
    · have hcell : ∀ j x, l[j]? = some x → ∀ i u, (L.enc x)[i]? = some u → W.cell? ((a.add (j * L.n)).add i) = some u := by
        intro j x hj i u hu
        obtain ⟨_, _, hat⟩ := World.cells?_some (hlp j x hj).1
        have hin : i < (L.enc x).length := (List.getElem?_eq_some_iff.1 hu).1
        rw [k.len] at hin
        have := hat i hin
        rw [this]
        have e : (L.enc x)[i]? = some u := hu
        simpa [List.getD_eq_getElem?_getD] using e
      obtain ⟨x0, hx0⟩ : ∃ x0, l[0]? = some x0 := by
        cases l with
        | nil => exact absurd rfl hne
        | cons y r => exact ⟨y, rfl⟩
      obtain ⟨b, off, spot⟩ := a
      obtain ⟨u0, hu0⟩ : ∃ u0, (L.enc x0)[0]? = some u0 := by
        have := k.len x0
        cases h : L.enc x0 with
        | nil => rw [h] at this; simp at this; omega
        | cons u r => exact ⟨u, rfl⟩
      have hc0 := hcell 0 x0 hx0 0 u0 hu0
      have hspot : spot = none := by simpa [Addr.add] using World.cell?_spot hc0
      subst hspot
      refine ⟨b, off, rfl, ?_, fun j u hj => ?_⟩
      · have := World.block_lt_of_cell? W _ hc0
        simpa [Addr.add] using this
      · have hlt : j < l.length * L.n := by
          have := (List.getElem?_eq_some_iff.1 hj).1
          rwa [cellsG_len k] at this
        have hk : j / L.n < l.length := Nat.div_lt_of_lt_mul (by rwa [Nat.mul_comm] at hlt)
        have hmod : j % L.n < L.n := Nat.mod_lt _ hpos
        have hdm : j / L.n * L.n + j % L.n = j := by rw [Nat.mul_comm]; exact Nat.div_add_mod j L.n
        have hin : j % L.n < (L.enc l[j / L.n]).length := by rw [k.len]; exact hmod
        obtain ⟨u', hu'⟩ : ∃ u', (L.enc l[j / L.n])[j % L.n]? = some u' := ⟨_, List.getElem?_eq_getElem hin⟩
        have e1 := cellsG_get k (List.getElem?_eq_getElem hk) hu'
        rw [hdm, hj] at e1
        injection e1 with e1
        subst e1
        have q := hcell (j / L.n) _ (List.getElem?_eq_getElem hk) (j % L.n) u hu'
        simp only [Addr.add_lit] at q
        rw [Nat.add_assoc, hdm] at q
        exact q
    · obtain ⟨i, hi, rfl⟩ := List.mem_iff_getElem.1 hx
      exact (hlp i _ (List.getElem?_eq_getElem hi)).2
theorem sl_of_trod {α : Type} {L : Lay α} (k : L.Ok) (hcells : Try.prog.cellsOf L.T = L.n) {P : α → Prop} {H : Type} {enc : TypeId × Value → H} {W : World} {base : Nat} {v : Value} {d : DataW H} {p : List MemPlace}
    (hone : ∀ {base : Nat} {spare : Nat → Bool} {held : Bool} {n : Nat} {cs : List Value} {x : DataW H × List MemPlace}, DataW.trod enc Try.prog W base spare held n L.T cs = some x → ∃ y : α, cs = L.enc y ∧ P y)
    (hv : Value.okWide Try.prog W .any base L.S v) (h : DataW.Trod enc Try.prog W 0 (fun _ => true) true L.S v d p) : ∃ a cap l, v = .slice a (List.length l) cap ∧ SlP L W a cap l ∧ l.length ≤ maxLen ∧ ∀ y ∈ l, P y := by
  obtain ⟨a0, len, cap, rfl⟩ := okWide_slice k.und hv
  obtain ⟨fuel, hf⟩ := h
  obtain ⟨a, cap', l, e, hB, hl, hP⟩ := sl_cells_trod k hcells hone hf
  simp [Value.cells] at e
  obtain ⟨rfl, rfl, rfl⟩ := e
  exact ⟨_, _, l, rfl, hB, hl, hP⟩

end Go.Proofs.Ytciijkognhdddaa
