/- What came in as bytes, as numbers of 64 bits, as acts (law 09). -/
import Derived.Test.YtipikkniookanaaOwn
import Derived.Test.YtipikkniookanaaRows
import Derived.OpenShut
import Derived.ChangeSlices
import Derived.Deep.Slices
import Derived.Lib.SmallJoins
namespace Go.Proofs.Ytipikkniookanaa

/- Args: What came in as bytes, as numbers of 64 bits. -/
section
set_option maxRecDepth 100000
open Go.ChangeShapes Go.WideShapes Go.ChangeAt Go.RowKit

theorem laidOut : laidOutB Try.prog = true := by kernel_rfl
theorem cells5 : Try.prog.cellsOf 5 = 1 := by kernel_rfl
theorem cellsU : Try.prog.cellsOf 50 = 1 := by kernel_rfl
theorem own : ownKnob Try.prog.godebug = none := by kernel_rfl

theorem nat_of_u8 {a : Int} (h : (Lit.int .u8 a).wf = true) : ∃ n : Nat, a = (n : Int) ∧ n < 256 := by
  have := bounds_u8 h
  exact ⟨a.toNat, by omega, by omega⟩
theorem nat_of_u64 {a : Int} (h : (Lit.int .u64 a).wf = true) : ∃ n : Nat, a = (n : Int) ∧ n < 18446744073709551616 := by
  simp [Lit.wf, IntKind.min, IntKind.max, IntKind.signed, IntKind.bits] at h
  exact ⟨a.toNat, by omega, by omega⟩

theorem bytes_cells {H : Type} {enc : TypeId × Value → H} {W : World} {fuel : Nat} {cs : List Value} {x : DataW H × List MemPlace}
    (hf : DataW.trod enc Try.prog W 0 (fun _ => true) true fuel 24 cs = some x) : ∃ a cap l, cs = [.slice a l.length cap] ∧ BytesP W a cap l ∧ l.length ≤ maxLen := by
  rcases open_ints Try.underlying24 Try.underlying5 cells5 hf with ⟨rfl, hx⟩ | ⟨a, len, cap, zs, rfl, _, hl, hm, hz, hx, hcell, hws⟩
  · exact ⟨none, 0, [], rfl, BytesP.nil _ _ _, by simp⟩
  · simp only [if_true] at hz
    have hlen : ((zs.take len).map Int.toNat).length = len := by rw [List.length_map, List.length_take]; omega
    have hmm : maxLen = 9223372036854775807 := rfl
    refine ⟨_, cap, (zs.take len).map Int.toNat, by rw [hlen], ⟨by omega, by omega, fun b hb => ?_, fun hne => ?_⟩, by omega⟩
    · obtain ⟨z, hz1, rfl⟩ := List.mem_map.1 hb
      have := bounds_u8 (hws z (List.mem_of_mem_take hz1))
      omega
    have hpos : 0 < len := by
      rcases Nat.eq_zero_or_pos len with h | h
      · subst h; simp at hne
      · exact h
    obtain ⟨b, off, spot⟩ := a
    have hspot : spot = none := by simpa [Addr.add] using World.cell?_spot (hcell 0 (by omega))
    subst hspot
    have hc0 := hcell 0 (by omega)
    refine ⟨b, off, rfl, ?_, fun j x hj => ?_⟩
    · have := World.block_lt_of_cell? W _ hc0
      simpa [Addr.add] using this
    · have hj2 := (List.getElem?_eq_some_iff.1 hj).1
      rw [List.length_map, List.length_take] at hj2
      rw [← Go.WideShapes.add_plain, hcell j (by omega)]
      rw [List.getElem?_map, List.getElem?_take] at hj
      have hjl : j < zs.length := by omega
      rw [if_pos (by omega), List.getElem?_eq_getElem hjl, Option.map_some, Option.some.injEq] at hj
      subst hj
      have := bounds_u8 (hws zs[j] (List.getElem_mem hjl))
      rw [List.getD_eq_getElem?_getD, List.getElem?_eq_getElem hjl]
      simp only [Option.getD_some]
      rw [Int.toNat_of_nonneg this.1]

theorem bytes_of_trod {H : Type} {enc : TypeId × Value → H} {W : World} {base : Nat} {v : Value} {d : DataW H} {p : List MemPlace}
    (hv : Value.okWide Try.prog W .any base 24 v) (h : DataW.Trod enc Try.prog W 0 (fun _ => true) true 24 v d p) : ∃ a cap l, v = .slice a l.length cap ∧ BytesP W a cap l ∧ l.length ≤ maxLen := by
  obtain ⟨a0, len, cap, rfl⟩ := okWide_slice Try.underlying24 hv
  obtain ⟨fuel, hf⟩ := h
  obtain ⟨a, cap', l, e, hB, hl⟩ := bytes_cells hf
  simp [Value.cells] at e
  obtain ⟨rfl, rfl, rfl⟩ := e
  exact ⟨_, _, l, rfl, hB, hl⟩

theorem pick_list {α : Type} {P : Nat → α → Prop} : ∀ n, (∀ i, i < n → ∃ x, P i x) → ∃ l : List α, l.length = n ∧ ∀ i x, l[i]? = some x → P i x
  | 0, _ => ⟨[], rfl, fun i x h => by simp at h⟩
  | n + 1, h => by
    obtain ⟨l, hl, hp⟩ := pick_list n (fun i hi => h i (by omega))
    obtain ⟨x, hx⟩ := h n (by omega)
    refine ⟨l ++ [x], by simp [hl], fun i y hy => ?_⟩
    by_cases hi : i < l.length
    · rw [List.getElem?_append_left hi] at hy
      exact hp i y hy
    · rw [List.getElem?_append_right (by omega)] at hy
      have h0 : i - l.length = 0 := by
        have := (List.getElem?_eq_some_iff.1 hy).1
        simp at this
        omega
      rw [h0] at hy
      simp at hy
      subst hy
      rw [show i = n by omega]
      exact hx
end

/- ArgsR: What came in as acts (law 09). -/
section
set_option maxRecDepth 100000
open Go.ChangeShapes Go.WideShapes Go.ChangeAt Go.RowKit

theorem cellsAct : Try.prog.cellsOf 42 = 4 := by kernel_rfl

/-- Something that is done. -/
structure Ac where
  kind : Int
  at_ : Int
  torn : Int
  a : Option Addr
  cap : Nat
  l : List Nat

def acL (x : Ac) : List Value := [.int .i64 x.kind, .int .i64 x.at_, .int .i64 x.torn, .slice x.a x.l.length x.cap]

/-- Its numbers fit, and its bytes are there. -/
structure Ac.Fits (w : World) (x : Ac) : Prop where
  high : x.at_ ≤ 9223372036854775807
  bytes : BytesP w x.a x.cap x.l

theorem act_cells {H : Type} {enc : TypeId × Value → H} {W : World} {n : Nat} {cs : List Value} {x : DataW H × List MemPlace}
    (h : DataW.trod enc Try.prog W 0 (fun _ => true) true n 42 cs = some x) : ∃ y : Ac, cs = acL y ∧ y.Fits W := by
  obtain ⟨xs, m, _, _, hlen, hxl, hf⟩ := DataW.trod_struct Try.underlying42 h
  rw [cellsAct] at hlen
  match cs, hlen with
  | [c0, c1, c2, c3], _ =>
    have hx4 : xs.length = 4 := hxl
    match xs, hx4 with
    | [x0, x1, x2, x3], _ =>
      have h0 := hf 0 _ rfl
      have h1 := hf 1 _ rfl
      have h2 := hf 2 _ rfl
      have h3 := hf 3 _ rfl
      simp only [List.getElem?_cons_zero, List.getElem?_cons_succ] at h0 h1 h2 h3
      obtain ⟨q0, e0, _, _⟩ := DataW.trod_int Try.underlying3 h0
      obtain ⟨q1, e1, _, w1⟩ := DataW.trod_int Try.underlying3 h1
      obtain ⟨q2, e2, _, _⟩ := DataW.trod_int Try.underlying3 h2
      obtain ⟨a, cap, l, e3, hB, hl⟩ := bytes_cells h3
      have hb := bounds_i64 w1
      injection e0 with e0
      injection e1 with e1
      injection e2 with e2
      injection e3 with e3
      exact ⟨⟨q0, q1, q2, a, cap, l⟩, by rw [e0, e1, e2, e3]; rfl, hb.2, hB⟩

/-- A slice reads as these acts. -/
structure ActsP (w : World) (a : Option Addr) (cap : Nat) (l : List Ac) : Prop where
  cap : l.length ≤ cap
  len : l.length ≤ 9223372036854775807
  each : ∀ x ∈ l, x.Fits w
  cell : l ≠ [] → ∃ b o, a = some ⟨b, o, none⟩ ∧ b < w.heap.size ∧ ∀ (j : Nat) (x : Ac), l[j]? = some x → w.cell? ⟨b, o + j * 4, none⟩ = some (.int .i64 x.kind) ∧ w.cell? ⟨b, o + j * 4 + 1, none⟩ = some (.int .i64 x.at_) ∧ w.cell? ⟨b, o + j * 4 + 2, none⟩ = some (.int .i64 x.torn) ∧ w.cell? ⟨b, o + j * 4 + 3, none⟩ = some (.slice x.a x.l.length x.cap)

theorem Ac.Fits.below {w w' : World} {x : Ac} (h : x.Fits w) (hb : Below w.heap.size w w') : x.Fits w' := ⟨h.high, h.bytes.below hb⟩
theorem ActsP.below {w w' : World} {a cap l} (h : ActsP w a cap l) (hb : Below w.heap.size w w') : ActsP w' a cap l := by
  refine ⟨h.cap, h.len, fun x hx => (h.each x hx).below hb, fun hne => ?_⟩
  obtain ⟨b, o, e, hlt, hc⟩ := h.cell hne
  refine ⟨b, o, e, Nat.lt_of_lt_of_le hlt hb.size, fun j x hx => ?_⟩
  obtain ⟨h0, h1, h2, h3⟩ := hc j x hx
  exact ⟨(hb.cell (p := ⟨b, o + j * 4, none⟩) hlt).trans h0, (hb.cell (p := ⟨b, o + j * 4 + 1, none⟩) hlt).trans h1, (hb.cell (p := ⟨b, o + j * 4 + 2, none⟩) hlt).trans h2, (hb.cell (p := ⟨b, o + j * 4 + 3, none⟩) hlt).trans h3⟩

theorem acts_cells {H : Type} {enc : TypeId × Value → H} {W : World} {fuel : Nat} {cs : List Value} {x : DataW H × List MemPlace}
    (hf : DataW.trod enc Try.prog W 0 (fun _ => true) true fuel 34 cs = some x) : ∃ a cap l, cs = [.slice a l.length cap] ∧ ActsP W a cap l ∧ l.length ≤ maxLen := by
  rcases Go.Deep.open_slice Try.underlying34 hf with ⟨hcs, hx⟩ | ⟨a, len', cap', m, n, D, Pl, hcs, _, hl, hm, hmm, hx, hi⟩
  · exact ⟨none, 0, [], hcs, ⟨by simp, by simp, fun _ h => by simp at h, fun h => absurd rfl h⟩, by simp⟩
  · simp only [if_true] at hmm
    subst hmm
    rw [cellsAct] at hi
    have hM : maxLen = 9223372036854775807 := rfl
    have hpick : ∀ i, i < len' → ∃ y : Ac, W.cells? 0 (a.add (i * 4)) 4 = some (acL y) ∧ y.Fits W := by
      intro i hil
      obtain ⟨cs', hc, ht⟩ := hi i (by omega)
      obtain ⟨y, rfl, hk⟩ := act_cells ht
      exact ⟨y, hc, hk⟩
    obtain ⟨l, hll, hlp⟩ := pick_list len' hpick
    refine ⟨some a, m, l, by rw [hll]; exact hcs, ⟨by omega, by omega, ?_, fun hne => ?_⟩, by omega⟩
    · intro x hx
      obtain ⟨i, hi, rfl⟩ := List.mem_iff_getElem.1 hx
      exact (hlp i _ (List.getElem?_eq_getElem hi)).2
    · have hcell : ∀ j x, l[j]? = some x → W.cell? ((a.add (j * 4)).add 0) = some (.int .i64 x.kind) ∧ W.cell? ((a.add (j * 4)).add 1) = some (.int .i64 x.at_) ∧ W.cell? ((a.add (j * 4)).add 2) = some (.int .i64 x.torn) ∧ W.cell? ((a.add (j * 4)).add 3) = some (.slice x.a x.l.length x.cap) := by
        intro j x hj
        obtain ⟨_, _, hat⟩ := World.cells?_some (hlp j x hj).1
        exact ⟨hat 0 (by omega), hat 1 (by omega), hat 2 (by omega), hat 3 (by omega)⟩
      obtain ⟨x0, hx0⟩ : ∃ x0, l[0]? = some x0 := by
        cases l with
        | nil => exact absurd rfl hne
        | cons y r => exact ⟨y, rfl⟩
      obtain ⟨b, off, spot⟩ := a
      have hc0 := (hcell 0 x0 hx0).1
      have hspot : spot = none := by simpa [Addr.add] using World.cell?_spot hc0
      subst hspot
      refine ⟨b, off, rfl, ?_, fun j x hj => ?_⟩
      · have := World.block_lt_of_cell? W _ hc0
        simpa [Addr.add] using this
      · obtain ⟨q1, q2, q3, q4⟩ := hcell j x hj
        simp only [Addr.add_lit, Nat.add_zero] at q1 q2 q3 q4
        exact ⟨q1, q2, q3, q4⟩

theorem acts_of_trod {H : Type} {enc : TypeId × Value → H} {W : World} {base : Nat} {v : Value} {d : DataW H} {p : List MemPlace}
    (hv : Value.okWide Try.prog W .any base 34 v) (h : DataW.Trod enc Try.prog W 0 (fun _ => true) true 34 v d p) : ∃ a cap l, v = .slice a l.length cap ∧ ActsP W a cap l ∧ l.length ≤ maxLen := by
  obtain ⟨a0, len, cap, rfl⟩ := okWide_slice Try.underlying34 hv
  obtain ⟨fuel, hf⟩ := h
  obtain ⟨a, c, l, hcs, hA, hl⟩ := acts_cells hf
  simp [Value.cells] at hcs
  obtain ⟨rfl, rfl, rfl⟩ := hcs
  exact ⟨_, _, l, rfl, hA, hl⟩

/-- One in a variable. -/
def acA (x : Ac) : Array Value := #[.int .i64 x.kind, .int .i64 x.at_, .int .i64 x.torn, .slice x.a x.l.length x.cap]
theorem ac_cells {w : World} {b : Nat} {x : Ac} (h : w.heap[b]? = some (.cells (acA x) 42 (0, 0))) : w.cell? ⟨b, 0, none⟩ = some (.int .i64 x.kind) ∧ w.cell? ⟨b, 1, none⟩ = some (.int .i64 x.at_) ∧ w.cell? ⟨b, 2, none⟩ = some (.int .i64 x.torn) ∧ w.cell? ⟨b, 3, none⟩ = some (.slice x.a x.l.length x.cap) := by
  unfold acA at h
  simp [World.cell?, h]
end

end Go.Proofs.Ytipikkniookanaa
