/- What came in as lists of bytes. -/
import Derived.Test.YtipikkniookanaaArgs
import Derived.Test.YtipikkniookanaaPkMem
namespace Go.Proofs.Ytipikkniookanaa
set_option maxRecDepth 100000
open Go.ChangeShapes Go.WideShapes Go.ChangeAt Go.RowKit

theorem cellsB : Try.prog.cellsOf 24 = 1 := by kernel_rfl

theorem ListsP.below {w w' : World} {a cap ls} (h : ListsP w a cap ls) (hb : Below w.heap.size w w') : ListsP w' a cap ls := by
  refine ⟨h.cap, h.len, fun p hp => (h.each p hp).below hb, fun hne => ?_⟩
  obtain ⟨b, o, e, hlt, hc⟩ := h.cell hne
  exact ⟨b, o, e, Nat.lt_of_lt_of_le hlt hb.size, fun j p hp => (hb.cell (p := ⟨b, o + j, none⟩) hlt).trans (hc j p hp)⟩

theorem lists_cells {H : Type} {enc : TypeId × Value → H} {W : World} {fuel : Nat} {cs : List Value} {x : DataW H × List MemPlace}
    (hf : DataW.trod enc Try.prog W 0 (fun _ => true) true fuel 25 cs = some x) : ∃ a cap l, cs = [.slice a l.length cap] ∧ ListsP W a cap l ∧ l.length ≤ maxLen := by
  rcases Go.Deep.open_slice Try.underlying25 hf with ⟨hcs, hx⟩ | ⟨a, len', cap', m, n, D, Pl, hcs, _, hl, hm, hmm, hx, hi⟩
  · exact ⟨none, 0, [], hcs, ListsP.nil _ _ _, by simp⟩
  · simp only [if_true] at hmm
    subst hmm
    rw [cellsB] at hi
    have hM : maxLen = 9223372036854775807 := rfl
    have hpick : ∀ i, i < len' → ∃ y : Part, W.cells? 0 (a.add (i * 1)) 1 = some [.slice y.a y.l.length y.cap] ∧ BytesP W y.a y.cap y.l := by
      intro i hil
      obtain ⟨cs', hc, ht⟩ := hi i (by omega)
      obtain ⟨qa, qc, ql, rfl, hB, _⟩ := bytes_cells ht
      exact ⟨⟨qa, qc, ql⟩, hc, hB⟩
    obtain ⟨l, hll, hlp⟩ := pick_list len' hpick
    refine ⟨some a, m, l, by rw [hll]; exact hcs, ⟨by omega, by omega, ?_, fun hne => ?_⟩, by omega⟩
    · intro x hx
      obtain ⟨i, hi, rfl⟩ := List.mem_iff_getElem.1 hx
      exact (hlp i _ (List.getElem?_eq_getElem hi)).2
    · have hcell : ∀ j x, l[j]? = some x → W.cell? ((a.add (j * 1)).add 0) = some (.slice x.a x.l.length x.cap) := by
        intro j x hj
        obtain ⟨_, _, hat⟩ := World.cells?_some (hlp j x hj).1
        exact hat 0 (by omega)
      obtain ⟨x0, hx0⟩ : ∃ x0, l[0]? = some x0 := by
        cases l with
        | nil => exact absurd rfl hne
        | cons y r => exact ⟨y, rfl⟩
      obtain ⟨b, off, spot⟩ := a
      have hc0 := hcell 0 x0 hx0
      have hspot : spot = none := by simpa [Addr.add] using World.cell?_spot hc0
      subst hspot
      refine ⟨b, off, rfl, ?_, fun j x hj => ?_⟩
      · have := World.block_lt_of_cell? W _ hc0
        simpa [Addr.add] using this
      · have q1 := hcell j x hj
        simp only [Addr.add_lit, Nat.add_zero, Nat.mul_one] at q1
        exact q1

theorem lists_of_trod {H : Type} {enc : TypeId × Value → H} {W : World} {base : Nat} {v : Value} {d : DataW H} {p : List MemPlace}
    (hv : Value.okWide Try.prog W .any base 25 v) (h : DataW.Trod enc Try.prog W 0 (fun _ => true) true 25 v d p) : ∃ a cap l, v = .slice a l.length cap ∧ ListsP W a cap l ∧ l.length ≤ maxLen := by
  obtain ⟨a0, len, cap, rfl⟩ := okWide_slice Try.underlying25 hv
  obtain ⟨fuel, hf⟩ := h
  obtain ⟨a, c, l, hcs, hA, hl⟩ := lists_cells hf
  simp [Value.cells] at hcs
  obtain ⟨rfl, rfl, rfl⟩ := hcs
  exact ⟨_, _, l, rfl, hA, hl⟩

end Go.Proofs.Ytipikkniookanaa
