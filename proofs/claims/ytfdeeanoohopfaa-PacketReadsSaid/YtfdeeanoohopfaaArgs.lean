/- What came in as bytes, numbers, texts, a frame, frames, steps, as lists of them. -/
import Derived.Test.YtfdeeanoohopfaaAlive
import Derived.Test.YtfdeeanoohopfaaRows
import Derived.Deep.Slices
import Derived.Deep.Strs
import Derived.Lib.SmallJoins
namespace Go.Proofs.Ytfdeeanoohopfaa
open Go.ChangeShapes Go.WideShapes Go.ChangeAt Go.RowKit

theorem laidOut : laidOutB Try.prog = true := by kernel_rfl
theorem cells5 : Try.prog.cellsOf 5 = 1 := by kernel_rfl
theorem cells33 : Try.prog.cellsOf 33 = 1 := by kernel_rfl
theorem cells3' : Try.prog.cellsOf 3 = 1 := by kernel_rfl
theorem cells9 : Try.prog.cellsOf 9 = 1 := by kernel_rfl
theorem cells22 : Try.prog.cellsOf 22 = 1 := by kernel_rfl
theorem cells27 : Try.prog.cellsOf 27 = 2 := by kernel_rfl
theorem cells47 : Try.prog.cellsOf 47 = 2 := by kernel_rfl
theorem own : ownKnob Try.prog.godebug = none := by kernel_rfl

theorem nat_of_u8 {a : Int} (h : (Lit.int .u8 a).wf = true) : ∃ n : Nat, a = (n : Int) ∧ n < 256 := by
  have := bounds_u8 h
  exact ⟨a.toNat, by omega, by omega⟩
theorem nat_of_u64 {a : Int} (h : (Lit.int .u64 a).wf = true) : ∃ n : Nat, a = (n : Int) ∧ n < 18446744073709551616 := by
  simp [Lit.wf, IntKind.min, IntKind.max, IntKind.signed, IntKind.bits] at h
  exact ⟨a.toNat, by omega, by omega⟩

theorem bytes_cells {H : Type} {enc : TypeId × Value → H} {W : World} {fuel : Nat} {cs : List Value} {x : DataW H × List MemPlace}
    (hf : DataW.trod enc Try.prog W 0 (fun _ => true) true fuel 22 cs = some x) : ∃ a cap l, cs = [.slice a l.length cap] ∧ BytesP W a cap l ∧ l.length ≤ maxLen := by
  rcases open_ints Try.underlying22 Try.underlying5 cells5 hf with ⟨rfl, hx⟩ | ⟨a, len, cap, zs, rfl, _, hl, hm, hz, hx, hcell, hws⟩
  · exact ⟨none, 0, [], rfl, BytesP.nil _ _ _, by simp⟩
  · simp only [if_true] at hz
    have hlen : ((zs.take len).map Int.toNat).length = len := by rw [List.length_map, List.length_take]; omega
    have hmm : maxLen = 9223372036854775807 := rfl
    refine ⟨_, cap, (zs.take len).map Int.toNat, by rw [hlen], ⟨by omega, by omega, fun b hb => ?_, fun hne => ?_⟩, by omega⟩
    · obtain ⟨z, hz1, rfl⟩ := List.mem_map.1 hb
      have := bounds_u8 (hws z (List.mem_of_mem_take hz1))
      omega
    have hpos : 0 < len := by
      rcases Nat.eq_zero_or_pos len with h | h
      · subst h; simp at hne
      · exact h
    obtain ⟨b, off, spot⟩ := a
    have hspot : spot = none := by simpa [Addr.add] using World.cell?_spot (hcell 0 (by omega))
    subst hspot
    have hc0 := hcell 0 (by omega)
    refine ⟨b, off, rfl, ?_, fun j x hj => ?_⟩
    · have := World.block_lt_of_cell? W _ hc0
      simpa [Addr.add] using this
    · have hj2 := (List.getElem?_eq_some_iff.1 hj).1
      rw [List.length_map, List.length_take] at hj2
      rw [← Go.WideShapes.add_plain, hcell j (by omega)]
      rw [List.getElem?_map, List.getElem?_take] at hj
      have hjl : j < zs.length := by omega
      rw [if_pos (by omega), List.getElem?_eq_getElem hjl, Option.map_some, Option.some.injEq] at hj
      subst hj
      have := bounds_u8 (hws zs[j] (List.getElem_mem hjl))
      rw [List.getD_eq_getElem?_getD, List.getElem?_eq_getElem hjl]
      simp only [Option.getD_some]
      rw [Int.toNat_of_nonneg this.1]

theorem bytes_of_trod {H : Type} {enc : TypeId × Value → H} {W : World} {base : Nat} {v : Value} {d : DataW H} {p : List MemPlace}
    (hv : Value.okWide Try.prog W .any base 22 v) (h : DataW.Trod enc Try.prog W 0 (fun _ => true) true 22 v d p) : ∃ a cap l, v = .slice a l.length cap ∧ BytesP W a cap l ∧ l.length ≤ maxLen := by
  obtain ⟨a0, len, cap, rfl⟩ := okWide_slice Try.underlying22 hv
  obtain ⟨fuel, hf⟩ := h
  obtain ⟨a, cap', l, e, hB, hl⟩ := bytes_cells hf
  simp [Value.cells] at e
  obtain ⟨rfl, rfl, rfl⟩ := e
  exact ⟨_, _, l, rfl, hB, hl⟩

theorem nums_of_trod {H : Type} {enc : TypeId × Value → H} {W : World} {base : Nat} {v : Value} {d : DataW H} {p : List MemPlace}
    (hv : Value.okWide Try.prog W .any base 36 v) (h : DataW.Trod enc Try.prog W 0 (fun _ => true) true 36 v d p) : ∃ a cap l, v = .slice a l.length cap ∧ NumsP W a cap l ∧ l.length ≤ maxLen := by
  obtain ⟨a0, len, cap, rfl⟩ := okWide_slice Try.underlying36 hv
  obtain ⟨fuel, hf⟩ := h
  rcases open_ints Try.underlying36 Try.underlying33 cells33 hf with ⟨hcs, hx⟩ | ⟨a, len', cap', zs, hcs, _, hl, hm, hz, hx, hcell, hws⟩
  · simp [Value.cells] at hcs
    obtain ⟨rfl, rfl, rfl⟩ := hcs
    exact ⟨none, 0, [], rfl, ⟨by simp, by simp, fun _ h => by simp at h, fun h => absurd rfl h⟩, by simp⟩
  · simp [Value.cells] at hcs
    obtain ⟨rfl, rfl, rfl⟩ := hcs
    simp only [if_true] at hz
    have hlen : ((zs.take len).map Int.toNat).length = len := by rw [List.length_map, List.length_take]; omega
    have hmm : maxLen = 9223372036854775807 := rfl
    refine ⟨_, cap, (zs.take len).map Int.toNat, by rw [hlen], ⟨by omega, by omega, fun b hb => ?_, fun hne => ?_⟩, by omega⟩
    · obtain ⟨z, hz1, rfl⟩ := List.mem_map.1 hb
      obtain ⟨n, e, hn⟩ := nat_of_u64 (hws z (List.mem_of_mem_take hz1))
      omega
    have hpos : 0 < len := by
      rcases Nat.eq_zero_or_pos len with h | h
      · subst h; simp at hne
      · exact h
    obtain ⟨b, off, spot⟩ := a
    have hspot : spot = none := by simpa [Addr.add] using World.cell?_spot (hcell 0 (by omega))
    subst hspot
    have hc0 := hcell 0 (by omega)
    refine ⟨b, off, rfl, ?_, fun j x hj => ?_⟩
    · have := World.block_lt_of_cell? W _ hc0
      simpa [Addr.add] using this
    · have hj2 := (List.getElem?_eq_some_iff.1 hj).1
      rw [List.length_map, List.length_take] at hj2
      rw [← Go.WideShapes.add_plain, hcell j (by omega)]
      rw [List.getElem?_map, List.getElem?_take] at hj
      have hjl : j < zs.length := by omega
      rw [if_pos (by omega), List.getElem?_eq_getElem hjl, Option.map_some, Option.some.injEq] at hj
      subst hj
      obtain ⟨n, e, hn⟩ := nat_of_u64 (hws zs[j] (List.getElem_mem hjl))
      rw [List.getD_eq_getElem?_getD, List.getElem?_eq_getElem hjl]
      simp only [Option.getD_some]
      rw [Int.toNat_of_nonneg (by omega)]

theorem pick_list {α : Type} {P : Nat → α → Prop} : ∀ n, (∀ i, i < n → ∃ x, P i x) → ∃ l : List α, l.length = n ∧ ∀ i x, l[i]? = some x → P i x
  | 0, _ => ⟨[], rfl, fun i x h => by simp at h⟩
  | n + 1, h => by
    obtain ⟨l, hl, hp⟩ := pick_list n (fun i hi => h i (by omega))
    obtain ⟨x, hx⟩ := h n (by omega)
    refine ⟨l ++ [x], by simp [hl], fun i y hy => ?_⟩
    by_cases hi : i < l.length
    · rw [List.getElem?_append_left hi] at hy
      exact hp i y hy
    · rw [List.getElem?_append_right (by omega)] at hy
      have h0 : i - l.length = 0 := by
        have := (List.getElem?_eq_some_iff.1 hy).1
        simp at this
        omega
      rw [h0] at hy
      simp at hy
      subst hy
      rw [show i = n by omega]
      exact hx

theorem strs_of_trod {H : Type} {enc : TypeId × Value → H} {W : World} {base : Nat} {v : Value} {d : DataW H} {p : List MemPlace}
    (hv : Value.okWide Try.prog W .any base 37 v) (h : DataW.Trod enc Try.prog W 0 (fun _ => true) true 37 v d p) : ∃ a cap l, v = .slice a l.length cap ∧ StrsP W a cap l ∧ l.length ≤ maxLen ∧ ∀ s ∈ l, s.size ≤ maxLen := by
  obtain ⟨a0, len, cap, rfl⟩ := okWide_slice Try.underlying37 hv
  obtain ⟨fuel, hf⟩ := h
  rcases Go.Deep.open_strs Try.underlying37 Try.underlying9 cells9 hf with ⟨hcs, hx⟩ | ⟨a, len', cap', m, Sx, hcs, _, hl, hm, hmm, hx, hcell⟩
  · simp [Value.cells] at hcs
    obtain ⟨rfl, rfl, rfl⟩ := hcs
    exact ⟨none, 0, [], rfl, ⟨by simp, by simp, fun h => absurd rfl h⟩, by simp, fun _ h => by simp at h⟩
  · simp [Value.cells] at hcs
    obtain ⟨rfl, rfl, rfl⟩ := hcs
    simp only [if_true] at hmm
    subst hmm
    have hM : maxLen = 9223372036854775807 := rfl
    have hlen : ((List.range len).map Sx).length = len := by simp
    refine ⟨_, m, (List.range len).map Sx, by rw [hlen], ⟨by omega, by omega, fun hne => ?_⟩, by omega, fun s hs => ?_⟩
    · have hpos : 0 < len := by
        rcases Nat.eq_zero_or_pos len with h | h
        · subst h; simp at hne
        · exact h
      obtain ⟨b, off, spot⟩ := a
      have hc0 := (hcell 0 (by omega)).1
      have hspot : spot = none := by simpa [Addr.add] using World.cell?_spot hc0
      subst hspot
      refine ⟨b, off, rfl, ?_, fun j x hj => ?_⟩
      · have := World.block_lt_of_cell? W _ hc0
        simpa [Addr.add] using this
      · have hj2 := (List.getElem?_eq_some_iff.1 hj).1
        rw [hlen] at hj2
        rw [List.getElem?_map, List.getElem?_range hj2, Option.map_some, Option.some.injEq] at hj
        subst hj
        rw [← Go.WideShapes.add_plain]
        exact (hcell j (by omega)).1
    · obtain ⟨i, hi, rfl⟩ := List.mem_map.1 hs
      exact (hcell i (by have := List.mem_range.1 hi; omega)).2

/-- A frame in memory: its kind, and where its body lies. -/
structure Fr where
  k : Nat
  a : Option Addr
  cap : Nat
  l : List Nat

theorem frame_cells {H : Type} {enc : TypeId × Value → H} {W : World} {n : Nat} {cs : List Value} {x : DataW H × List MemPlace}
    (h : DataW.trod enc Try.prog W 0 (fun _ => true) true n 27 cs = some x) : ∃ y : Fr, cs = [.int .u8 (y.k : Int), .slice y.a y.l.length y.cap] ∧ y.k < 256 ∧ BytesP W y.a y.cap y.l ∧ y.l.length ≤ maxLen := by
  obtain ⟨xs, m, _, _, hlen, hxl, hf⟩ := DataW.trod_struct Try.underlying27 h
  rw [cells27] at hlen
  match cs, hlen with
  | [c0, c1], _ =>
    have hx2 : xs.length = 2 := hxl
    match xs, hx2 with
    | [x0, x1], _ =>
      have h0 := hf 0 _ rfl
      have h1 := hf 1 _ rfl
      simp only [List.getElem?_cons_zero, List.getElem?_cons_succ] at h0 h1
      obtain ⟨q, e0, _, hw⟩ := DataW.trod_int Try.underlying5 h0
      obtain ⟨k, rfl, hk⟩ := nat_of_u8 hw
      obtain ⟨a, cap, l, e1, hB, hl⟩ := bytes_cells h1
      injection e0 with e0
      injection e1 with e1
      exact ⟨⟨k, a, cap, l⟩, by rw [e0, e1], hk, hB, hl⟩

theorem frame_of_trod {H : Type} {enc : TypeId × Value → H} {W : World} {base : Nat} {v : Value} {d : DataW H} {p : List MemPlace}
    (hv : Value.okWide Try.prog W .any base 27 v) (h : DataW.Trod enc Try.prog W 0 (fun _ => true) true 27 v d p) : ∃ y : Fr, v = .agg #[.int .u8 (y.k : Int), .slice y.a y.l.length y.cap] ∧ y.k < 256 ∧ BytesP W y.a y.cap y.l ∧ y.l.length ≤ maxLen := by
  obtain ⟨cs, rfl, hsz⟩ := okWide_struct Try.underlying27 hv
  obtain ⟨fuel, hf⟩ := h
  obtain ⟨y, e, hk, hB, hl⟩ := frame_cells hf
  refine ⟨y, ?_, hk, hB, hl⟩
  simp only [Value.cells] at e
  congr 1
  exact Array.toList_inj.1 e

/-- A slice reads as these frames. -/
structure FrsP (w : World) (a : Option Addr) (cap : Nat) (l : List Fr) : Prop where
  cap : l.length ≤ cap
  len : l.length ≤ 9223372036854775807
  each : ∀ x ∈ l, x.k < 256 ∧ BytesP w x.a x.cap x.l
  cell : l ≠ [] → ∃ b o, a = some ⟨b, o, none⟩ ∧ b < w.heap.size ∧ ∀ (j : Nat) (x : Fr), l[j]? = some x → w.cell? ⟨b, o + j * 2, none⟩ = some (.int .u8 (x.k : Int)) ∧ w.cell? ⟨b, o + j * 2 + 1, none⟩ = some (.slice x.a x.l.length x.cap)

theorem FrsP.below {w w' : World} {a cap l} (h : FrsP w a cap l) (hb : Below w.heap.size w w') : FrsP w' a cap l := by
  refine ⟨h.cap, h.len, fun x hx => ⟨(h.each x hx).1, (h.each x hx).2.below hb⟩, fun hne => ?_⟩
  obtain ⟨b, o, e, hlt, hc⟩ := h.cell hne
  exact ⟨b, o, e, Nat.lt_of_lt_of_le hlt hb.size, fun j x hx => ⟨(hb.cell (p := ⟨b, o + j * 2, none⟩) hlt).trans (hc j x hx).1, (hb.cell (p := ⟨b, o + j * 2 + 1, none⟩) hlt).trans (hc j x hx).2⟩⟩

theorem frames_of_trod {H : Type} {enc : TypeId × Value → H} {W : World} {base : Nat} {v : Value} {d : DataW H} {p : List MemPlace}
    (hv : Value.okWide Try.prog W .any base 52 v) (h : DataW.Trod enc Try.prog W 0 (fun _ => true) true 52 v d p) : ∃ a cap l, v = .slice a l.length cap ∧ FrsP W a cap l ∧ l.length ≤ maxLen := by
  obtain ⟨a0, len, cap, rfl⟩ := okWide_slice Try.underlying52 hv
  obtain ⟨fuel, hf⟩ := h
  rcases Go.Deep.open_slice Try.underlying52 hf with ⟨hcs, hx⟩ | ⟨a, len', cap', m, n, D, Pl, hcs, _, hl, hm, hmm, hx, hi⟩
  · simp [Value.cells] at hcs
    obtain ⟨rfl, rfl, rfl⟩ := hcs
    exact ⟨none, 0, [], rfl, ⟨by simp, by simp, fun _ h => by simp at h, fun h => absurd rfl h⟩, by simp⟩
  · simp [Value.cells] at hcs
    obtain ⟨rfl, rfl, rfl⟩ := hcs
    simp only [if_true] at hmm
    subst hmm
    rw [cells27] at hi
    have hM : maxLen = 9223372036854775807 := rfl
    have hpick : ∀ i, i < len → ∃ y : Fr, W.cells? 0 (a.add (i * 2)) 2 = some [.int .u8 (y.k : Int), .slice y.a y.l.length y.cap] ∧ y.k < 256 ∧ BytesP W y.a y.cap y.l := by
      intro i hil
      obtain ⟨cs', hc, ht⟩ := hi i (by omega)
      obtain ⟨y, rfl, hk, hB, _⟩ := frame_cells ht
      exact ⟨y, hc, hk, hB⟩
    obtain ⟨l, hll, hlp⟩ := pick_list len hpick
    refine ⟨some a, m, l, by rw [hll], ⟨by omega, by omega, ?_, fun hne => ?_⟩, by omega⟩
    · intro x hx
      obtain ⟨i, hi, rfl⟩ := List.mem_iff_getElem.1 hx
      exact (hlp i _ (List.getElem?_eq_getElem hi)).2
    · have hcell : ∀ j x, l[j]? = some x → W.cell? ((a.add (j * 2)).add 0) = some (.int .u8 (x.k : Int)) ∧ W.cell? ((a.add (j * 2)).add 1) = some (.slice x.a x.l.length x.cap) := by
        intro j x hj
        obtain ⟨_, _, hat⟩ := World.cells?_some (hlp j x hj).1
        exact ⟨hat 0 (by omega), hat 1 (by omega)⟩
      obtain ⟨x0, hx0⟩ : ∃ x0, l[0]? = some x0 := by
        cases l with
        | nil => exact absurd rfl hne
        | cons y r => exact ⟨y, rfl⟩
      obtain ⟨b, off, spot⟩ := a
      have hc0 := (hcell 0 x0 hx0).1
      have hspot : spot = none := by simpa [Addr.add] using World.cell?_spot hc0
      subst hspot
      refine ⟨b, off, rfl, ?_, fun j x hj => ?_⟩
      · have := World.block_lt_of_cell? W _ hc0
        simpa [Addr.add] using this
      · obtain ⟨q1, q2⟩ := hcell j x hj
        simp only [Addr.add_lit, Nat.add_zero] at q1 q2
        exact ⟨q1, q2⟩

/-- A step in memory. -/
structure St where
  kind : Int
  most : Nat

theorem step_cells {H : Type} {enc : TypeId × Value → H} {W : World} {base : Nat} {spare : Nat → Bool} {held : Bool} {n : Nat} {cs : List Value} {x : DataW H × List MemPlace}
    (h : DataW.trod enc Try.prog W base spare held n 47 cs = some x) : ∃ y : St, cs = [.int .i64 y.kind, .int .u64 (y.most : Int)] ∧ y.most < 18446744073709551616 := by
  obtain ⟨xs, m, _, _, hlen, hxl, hf⟩ := DataW.trod_struct Try.underlying47 h
  rw [cells47] at hlen
  match cs, hlen with
  | [c0, c1], _ =>
    have hx2 : xs.length = 2 := hxl
    match xs, hx2 with
    | [x0, x1], _ =>
      have h0 := hf 0 _ rfl
      have h1 := hf 1 _ rfl
      simp only [List.getElem?_cons_zero, List.getElem?_cons_succ] at h0 h1
      obtain ⟨q, e0, _, _⟩ := DataW.trod_int Try.underlying3 h0
      obtain ⟨t, e1, _, hw⟩ := DataW.trod_int Try.underlying33 h1
      obtain ⟨k, rfl, hk⟩ := nat_of_u64 hw
      injection e0 with e0
      injection e1 with e1
      exact ⟨⟨q, k⟩, by rw [e0, e1], hk⟩

/-- A slice reads as these steps. -/
structure StepsP (w : World) (a : Option Addr) (cap : Nat) (l : List St) : Prop where
  cap : l.length ≤ cap
  len : l.length ≤ 9223372036854775807
  each : ∀ x ∈ l, x.most < 18446744073709551616
  cell : l ≠ [] → ∃ b o, a = some ⟨b, o, none⟩ ∧ b < w.heap.size ∧ ∀ (j : Nat) (x : St), l[j]? = some x → w.cell? ⟨b, o + j * 2, none⟩ = some (.int .i64 x.kind) ∧ w.cell? ⟨b, o + j * 2 + 1, none⟩ = some (.int .u64 (x.most : Int))

theorem StepsP.below {w w' : World} {a cap l} (h : StepsP w a cap l) (hb : Below w.heap.size w w') : StepsP w' a cap l := by
  refine ⟨h.cap, h.len, h.each, fun hne => ?_⟩
  obtain ⟨b, o, e, hlt, hc⟩ := h.cell hne
  exact ⟨b, o, e, Nat.lt_of_lt_of_le hlt hb.size, fun j x hx => ⟨(hb.cell (p := ⟨b, o + j * 2, none⟩) hlt).trans (hc j x hx).1, (hb.cell (p := ⟨b, o + j * 2 + 1, none⟩) hlt).trans (hc j x hx).2⟩⟩

theorem steps_of_trod {H : Type} {enc : TypeId × Value → H} {W : World} {base : Nat} {v : Value} {d : DataW H} {p : List MemPlace}
    (hv : Value.okWide Try.prog W .any base 45 v) (h : DataW.Trod enc Try.prog W 0 (fun _ => true) true 45 v d p) : ∃ a cap l, v = .slice a l.length cap ∧ StepsP W a cap l ∧ l.length ≤ maxLen := by
  obtain ⟨a0, len, cap, rfl⟩ := okWide_slice Try.underlying45 hv
  obtain ⟨fuel, hf⟩ := h
  rcases Go.Deep.open_slice Try.underlying45 hf with ⟨hcs, hx⟩ | ⟨a, len', cap', m, n, D, Pl, hcs, _, hl, hm, hmm, hx, hi⟩
  · simp [Value.cells] at hcs
    obtain ⟨rfl, rfl, rfl⟩ := hcs
    exact ⟨none, 0, [], rfl, ⟨by simp, by simp, fun _ h => by simp at h, fun h => absurd rfl h⟩, by simp⟩
  · simp [Value.cells] at hcs
    obtain ⟨rfl, rfl, rfl⟩ := hcs
    simp only [if_true] at hmm
    subst hmm
    rw [cells47] at hi
    have hM : maxLen = 9223372036854775807 := rfl
    have hpick : ∀ i, i < len → ∃ y : St, W.cells? 0 (a.add (i * 2)) 2 = some [.int .i64 y.kind, .int .u64 (y.most : Int)] ∧ y.most < 18446744073709551616 := by
      intro i hil
      obtain ⟨cs', hc, ht⟩ := hi i (by omega)
      obtain ⟨y, rfl, hk⟩ := step_cells ht
      exact ⟨y, hc, hk⟩
    obtain ⟨l, hll, hlp⟩ := pick_list len hpick
    refine ⟨some a, m, l, by rw [hll], ⟨by omega, by omega, ?_, fun hne => ?_⟩, by omega⟩
    · intro x hx
      obtain ⟨i, hi, rfl⟩ := List.mem_iff_getElem.1 hx
      exact (hlp i _ (List.getElem?_eq_getElem hi)).2
    · have hcell : ∀ j x, l[j]? = some x → W.cell? ((a.add (j * 2)).add 0) = some (.int .i64 x.kind) ∧ W.cell? ((a.add (j * 2)).add 1) = some (.int .u64 (x.most : Int)) := by
        intro j x hj
        obtain ⟨_, _, hat⟩ := World.cells?_some (hlp j x hj).1
        exact ⟨hat 0 (by omega), hat 1 (by omega)⟩
      obtain ⟨x0, hx0⟩ : ∃ x0, l[0]? = some x0 := by
        cases l with
        | nil => exact absurd rfl hne
        | cons y r => exact ⟨y, rfl⟩
      obtain ⟨b, off, spot⟩ := a
      have hc0 := (hcell 0 x0 hx0).1
      have hspot : spot = none := by simpa [Addr.add] using World.cell?_spot hc0
      subst hspot
      refine ⟨b, off, rfl, ?_, fun j x hj => ?_⟩
      · have := World.block_lt_of_cell? W _ hc0
        simpa [Addr.add] using this
      · obtain ⟨q1, q2⟩ := hcell j x hj
        simp only [Addr.add_lit, Nat.add_zero] at q1 q2
        exact ⟨q1, q2⟩

end Go.Proofs.Ytfdeeanoohopfaa
