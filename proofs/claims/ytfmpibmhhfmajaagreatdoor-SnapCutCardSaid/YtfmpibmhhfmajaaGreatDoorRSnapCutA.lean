/- What SnapCut wants besides: MgBase, MgLines, MgOrders, MgBatches, MgEffects, MgStates, SnPlain2, SnRef3. -/
import Derived.Test.YtfmpibmhhfmajaaGreatDoorChecked
import Derived.WalkKit
import Derived.WalkSpells
import Derived.ProofKit
import Derived.Below
import Derived.IntWalk
import Derived.Lib.Hide
import Derived.Laws.BitsAllLaws
import Derived.OpenShut
import Derived.ChangeSlices
import Derived.OwnWalk
import Derived.Laws.AppendOwn
import Derived.Laws.AppendOwnNone
import Derived.Laws.BytesArg
import Derived.Deep.AppendSrc
import Derived.Lib.SlBytesConst
import Derived.Lib.AppendStr
import Derived.Lib.SliceRun
import Derived.Deep.QuietTactic
import Derived.BigQuiet
import Derived.ArgAppend
import Derived.Test.YtfmpibmhhfmajaaGreatDoorPLb
import Derived.Test.YtfmpibmhhfmajaaGreatDoorMgBase
import Derived.Laws.StructEq
import Derived.Test.YtfmpibmhhfmajaaGreatDoorRows
import Derived.Deep.Slices
import Derived.Deep.Strs
import Derived.Lib.SmallJoins
import Derived.Test.YtfmpibmhhfmajaaGreatDoorPSl
import Derived.Test.YtfmpibmhhfmajaaGreatDoorMgLines
import Derived.Test.YtfmpibmhhfmajaaGreatDoorMgBatches
import Derived.Deep.RegionLaw
import Derived.Maps.OwnSet
import Derived.Maps.OwnOps
import Derived.Test.YtfmpibmhhfmajaaGreatDoorMgState
import Derived.Test.YtfmpibmhhfmajaaGreatDoorMgOrders
import Derived.Test.YtfmpibmhhfmajaaGreatDoorMgEffects
import Derived.Test.YtfmpibmhhfmajaaGreatDoorPDy
import Derived.Test.YtfmpibmhhfmajaaGreatDoorSnPlain
import Derived.Test.YtfmpibmhhfmajaaGreatDoorSnLay
import Derived.Test.YtfmpibmhhfmajaaGreatDoorMgStates
import Derived.Deep.DeepCutAuto
import Derived.Test.YtfmpibmhhfmajaaGreatDoorSnPlain2
import Derived.Test.YtfmpibmhhfmajaaGreatDoorPOr
import Derived.Deep.RegionHeld3
import Derived.Test.YtfmpibmhhfmajaaGreatDoorLbShelf
import Derived.Test.YtfmpibmhhfmajaaGreatDoorDyShelf
import Derived.Test.YtfmpibmhhfmajaaGreatDoorMgRight
import Derived.Test.YtfmpibmhhfmajaaGreatDoorMgProg
import Derived.Test.YtfmpibmhhfmajaaGreatDoorMgCopy
import Derived.Test.YtfmpibmhhfmajaaGreatDoorPSc
import Derived.Test.YtfmpibmhhfmajaaGreatDoorPBt
import Derived.Test.YtfmpibmhhfmajaaGreatDoorPOb
import Derived.Test.YtfmpibmhhfmajaaGreatDoorSnRef3
import Derived.Test.YtfmpibmhhfmajaaGreatDoorSnRef4
import Derived.Test.YtfmpibmhhfmajaaGreatDoorSnKinds
import Derived.Test.YtfmpibmhhfmajaaGreatDoorSnLines
import Derived.Test.YtfmpibmhhfmajaaGreatDoorSnTold
import Derived.Test.YtfmpibmhhfmajaaGreatDoorSnRight
import Derived.Test.YtfmpibmhhfmajaaGreatDoorSnCon
import Derived.Test.YtfmpibmhhfmajaaGreatDoorSnRow
import Derived.Test.YtfmpibmhhfmajaaGreatDoorSnOwn
import Derived.Test.YtfmpibmhhfmajaaGreatDoorSnRead0
import Derived.Test.YtfmpibmhhfmajaaGreatDoorSnReadP
import Derived.Test.YtfmpibmhhfmajaaGreatDoorSnReadP2
import Derived.Test.YtfmpibmhhfmajaaGreatDoorSnReadP3
import Derived.Test.YtfmpibmhhfmajaaGreatDoorSnReadD
import Derived.Test.YtfmpibmhhfmajaaGreatDoorSnCmd
import Derived.Test.YtfmpibmhhfmajaaGreatDoorSnState
import Derived.Test.YtfmpibmhhfmajaaGreatDoorSnAlive
namespace Go.Proofs.YtfmpibmhhfmajaaGreatDoor

/- MgBase: Texts, blocks, books of what is the program's own: the base. -/
section
/- TxBase: Slices of texts: what they read as; tests that turn nothing that was there; worlds behind some draws. -/
section
set_option maxRecDepth 100000
open Go.ChangeShapes Go.WideShapes Go.ChangeAt Go.RowKit

end

/- TxMem: Slices of texts in memory: what they read as, rows of a call's own, append onto such rows and onto a slice without room. -/
section
set_option maxRecDepth 100000
open Go.RowKit

end

/- TxSame: What Same of package packhorseref01 answers of two slices of texts. -/
section
set_option maxRecDepth 100000
open Go.RowKit

end

/- BkPlain: Plain facts on bytes: numbers' bytes, in one way alone. -/
section
end

/- BkOwn: Slices of bytes in memory; bytes in a row of the call's own: put behind others, read as a text; parts of a slice of bytes; what Clone of package bytes answers. -/
section
set_option maxRecDepth 100000
open Go.ChangeShapes Go.WideShapes Go.ChangeAt Go.RowKit

/-- s[:j]. -/
theorem slice_to {a : Option Addr} {cap : Nat} {l : List Nat} (hc : l.length ≤ cap) (k : Nat) (i : Int) (hi : i = (k : Int)) (hk : k ≤ l.length) :
    ∃ a' c', (∀ W, (Instr.slice 40 (.slice a l.length cap) none (some (.int .i64 i)) none).run Tryz.prog W = .ok (.slice a' (l.take k).length c') W) ∧ ∀ W, BytesP W a cap l → BytesP W a' c' (l.take k) := by
  subst hi
  obtain ⟨i0, hi0, hz0, hzs, hzb⟩ := info_parts Tryz.info5
  refine ⟨if cap = 0 then a else a.map (·.add 0), cap, fun W => ?_, fun W h => ⟨by rw [List.length_take]; omega, by have := h.len; rw [List.length_take]; omega, fun b hb => h.byte b (List.mem_of_mem_take hb), fun hne => ?_⟩⟩
  · have hz : (Go.sizeOf 5).run Tryz.prog W = .ok 1 W := by simp [Go.sizeOf, typeInfo, hi0, hzs]
    have h2 : (k : Int) ≤ (cap : Int) := by omega
    have h3 : min k l.length = k := by omega
    simp [Instr.slice, run_underlying Tryz.underlying40, Instr.sliceBounds, run_sliceBound, h2, h3]
  · have hlt : 0 < l.length := by
      rcases Nat.eq_zero_or_pos l.length with h | h
      · rw [List.eq_nil_of_length_eq_zero h] at hne; simp at hne
      · exact h
    obtain ⟨b, o, rfl, hb, hcl⟩ := h.cell (by intro e; subst e; simp at hlt)
    refine ⟨b, o, by rw [if_neg (by omega), Option.map_some, Addr.add_lit]; rfl, hb, fun j x hj => ?_⟩
    rw [List.getElem?_take] at hj
    split at hj
    · exact hcl _ _ hj
    · cases hj

end

/- BkWrite: What Number and Text of package packet, and the document's, answer. -/
section
set_option maxRecDepth 100000
open Go.ChangeShapes Go.WideShapes Go.ChangeAt Go.RowKit

end

/- BkFar: Regions that draw their order, whose operations only read and whose callees may lay memory of their own: walked once, in the worlds that keep all that was there. -/
section
set_option maxRecDepth 100000
open Go.RowKit

end
end

/- MgLines: Lines, and what comes in. -/
section
/- LnPlain: Plain facts on lines, as lists: which can be, each thing once, without some pieces: no program is walked here. -/
section
end

/- LnMem: Slices of lines in memory; what isLine, find$1, Pieces$1 and Weight$1 of package lines answer of one line. -/
section
set_option maxRecDepth 100000
open Go.RowKit

end

/- LnRight: What Right of package lines answers, at every slice of lines. -/
section
set_option maxRecDepth 100000
open Go.RowKit

end

/- LnSum: What lines weigh: Weight of package lines, and the document's. -/
section
set_option maxRecDepth 100000
open Go.RowKit

end

/- LnOwn: Rows of lines that a call has made for itself; lines put behind lines in such a row. -/
section
set_option maxRecDepth 100000
open Go.RowKit Go.Lib

end

/- ScPlain: Plain facts on bytes that are read on, number by number and text by text: what is written is read, and what is read is as it would be written. -/
section
set_option maxRecDepth 100000

end

/- ScLeaf: What Right of package tally answers, the document's Right of numbers and Group; three texts in a block. -/
section
set_option maxRecDepth 100000
open Go.RowKit

end

/- ScArgs: What came in as bytes, as texts, as a group. -/
section
set_option maxRecDepth 100000
open Go.ChangeShapes Go.WideShapes Go.ChangeAt Go.RowKit

theorem laidOut : laidOutB Tryz.prog = true := by kernel_rfl
theorem cells9 : Tryz.prog.cellsOf 9 = 1 := by kernel_rfl
theorem cells2 : Tryz.prog.cellsOf 2 = 1 := by kernel_rfl
theorem cellsI : Tryz.prog.cellsOf 3 = 1 := by kernel_rfl
theorem cellsGr : Tryz.prog.cellsOf 24 = 3 := by kernel_rfl
theorem nat_of_u8 {a : Int} (h : (Lit.int .u8 a).wf = true) : ∃ n : Nat, a = (n : Int) ∧ n < 256 := by
  have := bounds_u8 h
  exact ⟨a.toNat, by omega, by omega⟩
theorem pick_list {α : Type} {P : Nat → α → Prop} : ∀ n, (∀ i, i < n → ∃ x, P i x) → ∃ l : List α, l.length = n ∧ ∀ i x, l[i]? = some x → P i x
  | 0, _ => ⟨[], rfl, fun i x h => by simp at h⟩
  | n + 1, h => by
    obtain ⟨l, hl, hp⟩ := pick_list n (fun i hi => h i (by omega))
    obtain ⟨x, hx⟩ := h n (by omega)
    refine ⟨l ++ [x], by simp [hl], fun i y hy => ?_⟩
    by_cases hi : i < l.length
    · rw [List.getElem?_append_left hi] at hy
      exact hp i y hy
    · rw [List.getElem?_append_right (by omega)] at hy
      have h0 : i - l.length = 0 := by
        have := (List.getElem?_eq_some_iff.1 hy).1
        simp at this
        omega
      rw [h0] at hy
      simp at hy
      subst hy
      rw [show i = n by omega]
      exact hx
theorem group_of_trod {H : Type} {enc : TypeId × Value → H} {W : World} {base : Nat} {spare : Nat → Bool} {held : Bool} {n : Nat} {cs : List Value} {x : DataW H × List MemPlace}
    (h : DataW.trod enc Tryz.prog W base spare held n 24 cs = some x) : ∃ a b c : ByteArray, cs = [.string a, .string b, .string c] ∧ a.size ≤ maxLen ∧ b.size ≤ maxLen ∧ c.size ≤ maxLen := by
  obtain ⟨xs, m, _, _, hlen, hxl, hf⟩ := DataW.trod_struct Tryz.underlying24 h
  rw [cellsGr] at hlen
  match cs, hlen with
  | [c0, c1, c2], _ =>
    have hx3 : xs.length = 3 := hxl
    match xs, hx3 with
    | [x0, x1, x2], _ =>
      have h0 := hf 0 _ rfl
      have h1 := hf 1 _ rfl
      have h2 := hf 2 _ rfl
      simp only [List.getElem?_cons_zero, List.getElem?_cons_succ] at h0 h1 h2
      obtain ⟨s, e0, _, hs⟩ := DataW.trod_string Tryz.underlying9 h0
      obtain ⟨q, e1, _, hq⟩ := DataW.trod_string Tryz.underlying9 h1
      obtain ⟨t, e2, _, ht⟩ := DataW.trod_string Tryz.underlying9 h2
      injection e0 with e0
      injection e1 with e1
      injection e2 with e2
      exact ⟨s, q, t, by rw [e0, e1, e2], hs, hq, ht⟩

theorem strs_cells_trod {H : Type} {enc : TypeId × Value → H} {W : World} {fuel : Nat} {cs : List Value} {x : DataW H × List MemPlace}
    (hf : DataW.trod enc Tryz.prog W 0 (fun _ => true) true fuel 96 cs = some x) : ∃ a cap l, cs = [.slice a (List.length l) cap] ∧ StrsP W a cap l ∧ l.length ≤ maxLen ∧ ∀ s ∈ l, s.size ≤ maxLen := by
  rcases Go.Deep.open_strs Tryz.underlying96 Tryz.underlying9 cells9 hf with ⟨hcs, hx⟩ | ⟨a, len, cap, m, Sx, hcs, _, hl, hm, hmm, hx, hcell⟩
  · exact ⟨none, 0, [], hcs, ⟨by simp, by simp, fun h => absurd rfl h⟩, by simp, fun _ h => by simp at h⟩
  · subst hcs
    simp only [if_true] at hmm
    subst hmm
    have hM : maxLen = 9223372036854775807 := rfl
    have hlen : ((List.range len).map Sx).length = len := by simp
    refine ⟨_, m, (List.range len).map Sx, by rw [hlen], ⟨by omega, by omega, fun hne => ?_⟩, by omega, fun s hs => ?_⟩
    · have hpos : 0 < len := by
        rcases Nat.eq_zero_or_pos len with h | h
        · subst h; simp at hne
        · exact h
      obtain ⟨b, off, spot⟩ := a
      have hc0 := (hcell 0 (by omega)).1
      have hspot : spot = none := by simpa [Addr.add] using World.cell?_spot hc0
      subst hspot
      refine ⟨b, off, rfl, ?_, fun j x hj => ?_⟩
      · have := World.block_lt_of_cell? W _ hc0
        simpa [Addr.add] using this
      · have hj2 := (List.getElem?_eq_some_iff.1 hj).1
        rw [hlen] at hj2
        rw [List.getElem?_map, List.getElem?_range hj2, Option.map_some, Option.some.injEq] at hj
        subst hj
        rw [← Go.WideShapes.add_plain]
        exact (hcell j (by omega)).1
    · obtain ⟨i, hi, rfl⟩ := List.mem_map.1 hs
      exact (hcell i (by have := List.mem_range.1 hi; omega)).2
end

/- SlArgs: Slices of structs that came in. -/
section
set_option maxRecDepth 100000
open Go.ChangeShapes Go.WideShapes Go.ChangeAt Go.RowKit

theorem sl_cells_trod {α : Type} {L : Lay α} (k : L.Ok) (hcells : Tryz.prog.cellsOf L.T = L.n) {P : α → Prop} {H : Type} {enc : TypeId × Value → H} {W : World}
    (hone : ∀ {n : Nat} {cs : List Value} {x : DataW H × List MemPlace}, DataW.trod enc Tryz.prog W 0 (fun _ => true) true n L.T cs = some x → ∃ y : α, cs = L.enc y ∧ P y)
    {fuel : Nat} {cs : List Value} {x : DataW H × List MemPlace}
    (hf : DataW.trod enc Tryz.prog W 0 (fun _ => true) true fuel L.S cs = some x) : ∃ a cap l, cs = [.slice a (List.length l) cap] ∧ SlP L W a cap l ∧ l.length ≤ maxLen ∧ ∀ y ∈ l, P y := by
  rcases Go.Deep.open_slice k.und hf with ⟨hcs, hx⟩ | ⟨a, len, cap, m, n, D, Pl, hcs, _, hl, hm, hmm, hx, hi⟩
  · exact ⟨none, 0, [], hcs, SlP.nil _ _ _, by simp, fun _ h => by simp at h⟩
  · subst hcs
    simp only [if_true] at hmm
    subst hmm
    rw [hcells] at hi
    have hpick : ∀ i, i < len → ∃ y : α, W.cells? 0 (a.add (i * L.n)) L.n = some (L.enc y) ∧ P y := by
      intro i hil
      obtain ⟨cs', hc, ht⟩ := hi i (by omega)
      obtain ⟨y, rfl, hs⟩ := hone ht
      exact ⟨y, hc, hs⟩
    obtain ⟨l, hll, hlp⟩ := pick_list len hpick
    have hpos := k.pos
    refine ⟨some a, m, l, by rw [hll], ⟨by omega, by omega, fun hne => ?_⟩, by omega, fun x hx => ?_⟩
    · have hcell : ∀ j x, l[j]? = some x → ∀ i u, (L.enc x)[i]? = some u → W.cell? ((a.add (j * L.n)).add i) = some u := by
        intro j x hj i u hu
        obtain ⟨_, _, hat⟩ := World.cells?_some (hlp j x hj).1
        have hin : i < (L.enc x).length := (List.getElem?_eq_some_iff.1 hu).1
        rw [k.len] at hin
        have := hat i hin
        rw [this]
        have e : (L.enc x)[i]? = some u := hu
        simpa [List.getD_eq_getElem?_getD] using e
      obtain ⟨x0, hx0⟩ : ∃ x0, l[0]? = some x0 := by
        cases l with
        | nil => exact absurd rfl hne
        | cons y r => exact ⟨y, rfl⟩
      obtain ⟨b, off, spot⟩ := a
      obtain ⟨u0, hu0⟩ : ∃ u0, (L.enc x0)[0]? = some u0 := by
        have := k.len x0
        cases h : L.enc x0 with
        | nil => rw [h] at this; simp at this; omega
        | cons u r => exact ⟨u, rfl⟩
      have hc0 := hcell 0 x0 hx0 0 u0 hu0
      have hspot : spot = none := by simpa [Addr.add] using World.cell?_spot hc0
      subst hspot
      refine ⟨b, off, rfl, ?_, fun j u hj => ?_⟩
      · have := World.block_lt_of_cell? W _ hc0
        simpa [Addr.add] using this
      · have hlt : j < l.length * L.n := by
          have := (List.getElem?_eq_some_iff.1 hj).1
          rwa [cellsG_len k] at this
        have hk : j / L.n < l.length := Nat.div_lt_of_lt_mul (by rwa [Nat.mul_comm] at hlt)
        have hmod : j % L.n < L.n := Nat.mod_lt _ hpos
        have hdm : j / L.n * L.n + j % L.n = j := by rw [Nat.mul_comm]; exact Nat.div_add_mod j L.n
        have hin : j % L.n < (L.enc l[j / L.n]).length := by rw [k.len]; exact hmod
        obtain ⟨u', hu'⟩ : ∃ u', (L.enc l[j / L.n])[j % L.n]? = some u' := ⟨_, List.getElem?_eq_getElem hin⟩
        have e1 := cellsG_get k (List.getElem?_eq_getElem hk) hu'
        rw [hdm, hj] at e1
        injection e1 with e1
        subst e1
        have q := hcell (j / L.n) _ (List.getElem?_eq_getElem hk) (j % L.n) u hu'
        simp only [Addr.add_lit] at q
        rw [Nat.add_assoc, hdm] at q
        exact q
    · obtain ⟨i, hi, rfl⟩ := List.mem_iff_getElem.1 hx
      exact (hlp i _ (List.getElem?_eq_getElem hi)).2
end
end

/- MgOrders: Orders. -/
section
/- OrPlain: Plain facts on orders: which can be, their bytes, and what bytes are read as; each order's bytes are read as that order, and none but these. -/
section
end

/- OrLeaf: What the small tests of package order, Right of package tally and the document's answer. -/
section
set_option maxRecDepth 100000
open Go.RowKit

end

/- OrRight: What Right of package order, and the document's, answer, at every order. -/
section
set_option maxRecDepth 100000
open Go.RowKit

end

/- OrArgs: What came in as bytes, lines, an order. -/
section
set_option maxRecDepth 100000
open Go.ChangeShapes Go.WideShapes Go.ChangeAt Go.RowKit

theorem cellsLs : Tryz.prog.cellsOf 22 = 1 := by kernel_rfl
theorem cellsLn : Tryz.prog.cellsOf 72 = 3 := by kernel_rfl
theorem cellsSg : Tryz.prog.cellsOf 91 = 3 := by kernel_rfl
theorem cellsOr : Tryz.prog.cellsOf 93 = 10 := by kernel_rfl
theorem line_of_trod {H : Type} {enc : TypeId × Value → H} {W : World} {base : Nat} {spare : Nat → Bool} {held : Bool} {n : Nat} {cs : List Value} {x : DataW H × List MemPlace}
    (h : DataW.trod enc Tryz.prog W base spare held n 72 cs = some x) : ∃ y : Ln, cs = [.string y.sku, .int .i64 y.qty, .int .i64 y.wt] ∧ y.sku.size ≤ maxLen ∧ (Lit.int .i64 y.qty).wf = true := by
  obtain ⟨xs, m, _, _, hlen, hxl, hf⟩ := DataW.trod_struct Tryz.underlying72 h
  rw [cellsLn] at hlen
  match cs, hlen with
  | [c0, c1, c2], _ =>
    have hx3 : xs.length = 3 := hxl
    match xs, hx3 with
    | [x0, x1, x2], _ =>
      have h0 := hf 0 _ rfl
      have h1 := hf 1 _ rfl
      have h2 := hf 2 _ rfl
      simp only [List.getElem?_cons_zero, List.getElem?_cons_succ] at h0 h1 h2
      obtain ⟨s, e0, _, hs⟩ := DataW.trod_string Tryz.underlying9 h0
      obtain ⟨q, e1, _, hq⟩ := DataW.trod_int Tryz.underlying2 h1
      obtain ⟨t, e2, _, _⟩ := DataW.trod_int Tryz.underlying2 h2
      injection e0 with e0
      injection e1 with e1
      injection e2 with e2
      exact ⟨⟨s, q, t⟩, by rw [e0, e1, e2], hs, hq⟩

theorem lns_cells_trod {H : Type} {enc : TypeId × Value → H} {W : World} {fuel : Nat} {cs : List Value} {x : DataW H × List MemPlace}
    (hf : DataW.trod enc Tryz.prog W 0 (fun _ => true) true fuel 22 cs = some x) : ∃ a cap l, cs = [.slice a (List.length l) cap] ∧ LnsP W a cap l ∧ l.length ≤ maxLen ∧ ∀ x ∈ l, (Lit.int .i64 x.qty).wf = true := by
  rcases Go.Deep.open_slice Tryz.underlying22 hf with ⟨hcs, hx⟩ | ⟨a, len, cap, m, n, D, Pl, hcs, _, hl, hm, hmm, hx, hi⟩
  · exact ⟨none, 0, [], hcs, LnsP.nil _ _ _, by simp, fun _ h => by simp at h⟩
  · subst hcs
    simp only [if_true] at hmm
    subst hmm
    rw [cellsLn] at hi
    have hpick : ∀ i, i < len → ∃ y : Ln, W.cells? 0 (a.add (i * 3)) 3 = some [.string y.sku, .int .i64 y.qty, .int .i64 y.wt] ∧ y.sku.size ≤ maxLen ∧ (Lit.int .i64 y.qty).wf = true := by
      intro i hil
      obtain ⟨cs', hc, ht⟩ := hi i (by omega)
      obtain ⟨y, rfl, hs⟩ := line_of_trod ht
      exact ⟨y, hc, hs⟩
    obtain ⟨l, hll, hlp⟩ := pick_list len hpick
    refine ⟨some a, m, l, by rw [hll], ⟨by omega, ?_, fun hne => ?_⟩, by omega, fun x hx => ?_⟩
    · intro x hx
      obtain ⟨i, hi, rfl⟩ := List.mem_iff_getElem.1 hx
      exact (hlp i _ (List.getElem?_eq_getElem hi)).2.1
    · have hcell : ∀ j x, l[j]? = some x → W.cell? ((a.add (j * 3)).add 0) = some (.string x.sku) ∧ W.cell? ((a.add (j * 3)).add 1) = some (.int .i64 x.qty) ∧ W.cell? ((a.add (j * 3)).add 2) = some (.int .i64 x.wt) := by
        intro j x hj
        obtain ⟨_, _, hat⟩ := World.cells?_some (hlp j x hj).1
        exact ⟨hat 0 (by omega), hat 1 (by omega), hat 2 (by omega)⟩
      obtain ⟨x0, hx0⟩ : ∃ x0, l[0]? = some x0 := by
        cases l with
        | nil => exact absurd rfl hne
        | cons y r => exact ⟨y, rfl⟩
      obtain ⟨b, off, spot⟩ := a
      have hc0 := (hcell 0 x0 hx0).1
      have hspot : spot = none := by simpa [Addr.add] using World.cell?_spot hc0
      subst hspot
      refine ⟨b, off, rfl, ?_, fun j x hj => ?_⟩
      · have := World.block_lt_of_cell? W _ hc0
        simpa [Addr.add] using this
      · obtain ⟨q1, q2, q3⟩ := hcell j x hj
        simp only [Addr.add_lit, Nat.add_zero] at q1 q2 q3
        exact ⟨q1, q2, q3⟩
    · obtain ⟨i, hi, rfl⟩ := List.mem_iff_getElem.1 hx
      exact (hlp i _ (List.getElem?_eq_getElem hi)).2.2

theorem saga_of_trod {H : Type} {enc : TypeId × Value → H} {W : World} {base : Nat} {spare : Nat → Bool} {held : Bool} {n : Nat} {cs : List Value} {x : DataW H × List MemPlace}
    (h : DataW.trod enc Tryz.prog W base spare held n 91 cs = some x) : ∃ (p : Int) (g : Bool) (r : Int), cs = [.int .i64 p, .bool g, .int .i64 r] := by
  obtain ⟨xs, m, _, _, hlen, hxl, hf⟩ := DataW.trod_struct Tryz.underlying91 h
  rw [cellsSg] at hlen
  match cs, hlen with
  | [c0, c1, c2], _ =>
    have hx3 : xs.length = 3 := hxl
    match xs, hx3 with
    | [x0, x1, x2], _ =>
      have h0 := hf 0 _ rfl
      have h1 := hf 1 _ rfl
      have h2 := hf 2 _ rfl
      simp only [List.getElem?_cons_zero, List.getElem?_cons_succ] at h0 h1 h2
      obtain ⟨s, e0, _⟩ := DataW.trod_int Tryz.underlying3 h0
      obtain ⟨q, e1, _⟩ := DataW.trod_bool Tryz.underlying4 h1
      obtain ⟨t, e2, _⟩ := DataW.trod_int Tryz.underlying3 h2
      injection e0 with e0
      injection e1 with e1
      injection e2 with e2
      exact ⟨s, q, t, by rw [e0, e1, e2]⟩

end

/- OrRight2: What the document's Right answers, at every order. -/
section
set_option maxRecDepth 100000
open Go.RowKit

end

/- OrSame: What Same of package order, and the document's, answer, at any two orders. -/
section
set_option maxRecDepth 100000
open Go.RowKit

end
end

/- MgBatches: Batches. -/
section
/- TkPlain: Ticks, and numbers above nought. -/
section
end

/- TlSum: Sums and differences of tallies: what Sum of two, Add and Less of package tally answer. -/
section
set_option maxRecDepth 100000
open Go.RowKit

end

/- BtPlain: Plain facts on batches: which can be, who joins and is evicted, their bytes, and what bytes are read as. -/
section
end

/- BtLeaf: What the small tests of package batch, and the document's, answer: texts among texts, texts in a row, numbers, groups, members, caps. -/
section
set_option maxRecDepth 100000
open Go.RowKit

end

/- BtMem: A batch in memory; what isGroup, areMembers and Right of package batch answer. -/
section
set_option maxRecDepth 100000
open Go.RowKit

end

/- BtRight: What Right of package batch, and the document's, answer, at every batch. -/
section
set_option maxRecDepth 100000
open Go.RowKit

end

/- BtRight2: What the document's Right of batches answers, at every batch. -/
section
set_option maxRecDepth 100000
open Go.RowKit

end

/- BtSame: What Same of package batch, and the document's, answer, at any two batches. -/
section
set_option maxRecDepth 100000
open Go.RowKit

end

/- BtHas: What the document's Has of batches answers. -/
section
set_option maxRecDepth 100000
open Go.RowKit Go.ChangeShapes Go.WideShapes Go.ChangeAt

end

/- BtArgs0: What came in as a batch, as caps. -/
section
set_option maxRecDepth 100000
open Go.ChangeShapes Go.WideShapes Go.ChangeAt Go.RowKit

theorem cellsTs : Tryz.prog.cellsOf 96 = 1 := by kernel_rfl
theorem cellsBt : Tryz.prog.cellsOf 98 = 9 := by kernel_rfl
theorem cellsCp : Tryz.prog.cellsOf 31 = 2 := by kernel_rfl

end
end

/- MgEffects: Effects, phases. -/
section
/- ObPlain: Plain facts on what is asked of the outside: which can be, what is sent and settled, their bytes, and what bytes are read as. -/
section
set_option maxRecDepth 100000

end

/- ObLay: Effects as values: how they lie, whole loads and stores told at once, when two are the same. -/
section
set_option maxRecDepth 100000
open Go.RowKit Go.ChangeShapes Go.WideShapes Go.ChangeAt

section
variable (ev : Operand → Value) (d : Option Tmp) (ty : TypeId) (pos : String) (af : Array Edge) (gd : Option (Nat × Bool)) (w : World)
end

end

/- ObArgs0: What came in as an effect, as effects. -/
section
set_option maxRecDepth 100000
open Go.ChangeShapes Go.WideShapes Go.ChangeAt Go.RowKit

theorem cellsEf : Tryz.prog.cellsOf 138 = 6 := by kernel_rfl
theorem effect_cells {H : Type} {enc : TypeId × Value → H} {W : World} {base : Nat} {spare : Nat → Bool} {held : Bool} {n : Nat} {cs : List Value} {x : DataW H × List MemPlace}
    (h : DataW.trod enc Tryz.prog W base spare held n 138 cs = some x) : ∃ y : Ef, cs = efL y ∧ y.order.size ≤ maxLen := by
  obtain ⟨xs, m, _, _, hlen, hxl, hf⟩ := DataW.trod_struct Tryz.underlying138 h
  rw [cellsEf] at hlen
  match cs, hlen with
  | [c0, c1, c2, c3, c4, c5], _ =>
    have hx : xs.length = 6 := hxl
    match xs, hx with
    | [x0, x1, x2, x3, x4, x5], _ =>
      have h0 := hf 0 _ rfl
      have h1 := hf 1 _ rfl
      have h2 := hf 2 _ rfl
      have h3 := hf 3 _ rfl
      have h4 := hf 4 _ rfl
      have h5 := hf 5 _ rfl
      simp only [List.getElem?_cons_zero, List.getElem?_cons_succ] at h0 h1 h2 h3 h4 h5
      obtain ⟨q0, e0, _, _⟩ := DataW.trod_int Tryz.underlying2 h0
      obtain ⟨q1, e1, _, _⟩ := DataW.trod_int Tryz.underlying2 h1
      obtain ⟨q2, e2, _, _⟩ := DataW.trod_int Tryz.underlying2 h2
      obtain ⟨q3, e3, _, _⟩ := DataW.trod_int Tryz.underlying3 h3
      obtain ⟨q4, e4, _, _⟩ := DataW.trod_int Tryz.underlying3 h4
      obtain ⟨s, e5, _, hs⟩ := DataW.trod_string Tryz.underlying9 h5
      injection e0 with e0
      injection e1 with e1
      injection e2 with e2
      injection e3 with e3
      injection e4 with e4
      injection e5 with e5
      exact ⟨⟨q0, q1, q2, q3, q4, s⟩, by rw [e0, e1, e2, e3, e4, e5]; rfl, hs⟩
end

/- ObLeaf: What the small functions of package outbox answer: whether an effect can be, how long one waits; the document's. -/
section
set_option maxRecDepth 100000
open Go.RowKit Go.ChangeShapes Go.WideShapes Go.ChangeAt
attribute [local go_sem ↓] ldEf stEf alEf bxEf eqEf
attribute [local go_sem] al_ef bx_ef

end

/- ObFind: Where the effect of a key stands: what BinarySearchFunc of package slices answers, and place of package outbox. -/
section
set_option maxRecDepth 100000
open Go.RowKit Go.ChangeShapes Go.WideShapes Go.ChangeAt
attribute [local go_sem ↓] ldEf stEf alEf bxEf eqEf
attribute [local go_sem] al_ef bx_ef

end

/- ObRight: Whether an effect can stand behind others, and whether all can: package outbox. -/
section
set_option maxRecDepth 100000
open Go.RowKit Go.ChangeShapes Go.WideShapes Go.ChangeAt
attribute [local go_sem ↓] ldEf stEf alEf bxEf eqEf
attribute [local go_sem] al_ef bx_ef st_new

end

/- ObAdd: What own, Add and Find of package outbox answer. -/
section
set_option maxRecDepth 100000
open Go.RowKit Go.ChangeShapes Go.WideShapes Go.ChangeAt
attribute [local go_sem ↓] ldEf stEf alEf bxEf eqEf bdEf bsEf
attribute [local go_sem] al_ef bx_ef st_new bd_ef bs_ef bs_ef0

end

/- ObFindC: What Find and Due of package outbox answer. -/
section
set_option maxRecDepth 100000
open Go.RowKit Go.ChangeShapes Go.WideShapes Go.ChangeAt
attribute [local go_sem ↓] ldEf stEf alEf bxEf eqEf bdEf bsEf
attribute [local go_sem] al_ef bx_ef st_new bd_ef bs_ef bs_ef0

end

/- ObSame: When two effects are the same; the document's Same. -/
section
set_option maxRecDepth 100000
open Go.RowKit Go.ChangeShapes Go.WideShapes Go.ChangeAt
attribute [local go_sem ↓] ldEf stEf alEf bxEf eqEf bdEf bsEf
attribute [local go_sem] al_ef bx_ef st_new bd_ef bs_ef bs_ef0

end

/- ObRef: The document's One, Right and Backoff. -/
section
set_option maxRecDepth 100000
open Go.RowKit Go.ChangeShapes Go.WideShapes Go.ChangeAt
attribute [local go_sem ↓] ldEf stEf alEf bxEf eqEf bdEf bsEf
attribute [local go_sem] al_ef bx_ef st_new bd_ef bs_ef bs_ef0

end

/- SgPlain: Plain facts on what becomes of an order: the table, one step, and what follows of many. -/
section
set_option maxRecDepth 100000

end

/- SgLay: A saga as a value: whole loads and stores told at once, when two are the same. -/
section
set_option maxRecDepth 100000
open Go.RowKit Go.ChangeShapes Go.WideShapes Go.ChangeAt

section
variable (ev : Operand → Value) (d : Option Tmp) (ty : TypeId) (pos : String) (af : Array Edge) (gd : Option (Nat × Bool)) (w : World)
end
end

/- SgProg: What Asks and Left of package saga answer. -/
section
set_option maxRecDepth 100000
open Go.RowKit Go.ChangeShapes Go.WideShapes Go.ChangeAt
attribute [local go_sem ↓] ldSg stSg alSg bxSg eqSg bdSg
attribute [local go_sem] al_sg bx_sg bd_sg bd_sg0 st_sgnew

end

/- SgAsk: The document's Asks: a map. -/
section
set_option maxRecDepth 100000
open Go.RowKit Go.Maps

end
end

/- MgStates: States: held against each other, coming in, made; what follows of their rules. -/
section
/- StSame: What the document's Same of layer 15 answers: two states held against each other. -/
section
set_option maxRecDepth 100000
open Go.RowKit Go.ChangeShapes Go.WideShapes Go.ChangeAt
attribute [local go_sem ↓] ldOr stOr alOr bxOr bdOr ldBa stBa alBa bxBa bdBa ldSt stSt alSt bxSt bdSt ldEf stEf alEf bxEf eqEf bdEf bsEf ldGr bxGr eqGr ldCa bxCa eqCa
attribute [local go_sem] al_or bx_or st_ornew bd_or al_ba bx_ba st_banew bd_ba al_sta bx_sta st_stnew bd_sta al_ef bx_ef st_new bd_ef bs_ef bs_ef0 bx_gr ne_gr bx_ca ne_ca eq_caX

end

/- StNew: What the document's New of layer 15 answers. -/
section
set_option maxRecDepth 100000
open Go.RowKit Go.ChangeShapes Go.WideShapes Go.ChangeAt
attribute [local go_sem ↓] ldOr stOr alOr bxOr bdOr ldBa stBa alBa bxBa bdBa ldSt stSt alSt bxSt bdSt ldEf stEf alEf bxEf eqEf bdEf bsEf ldGr bxGr eqGr ldCa bxCa eqCa
attribute [local go_sem] al_or bx_or st_ornew bd_or al_ba bx_ba st_banew bd_ba al_sta bx_sta st_stnew bd_sta al_ef bx_ef st_new bd_ef bs_ef bs_ef0 bx_gr ne_gr bx_ca ne_ca

end

/- StArgs: What came in as a state, as two caps, as numbers. -/
section
set_option maxRecDepth 100000
open Go.ChangeShapes Go.WideShapes Go.ChangeAt Go.RowKit

/-- A number of 64 bits. -/
def Wf (n : Int) : Prop := (Lit.int .i64 n).wf = true
def WfO (o : Od) : Prop := Wf o.total ∧ ∀ y ∈ o.ls, Wf y.qty
/-- Its numbers are of 64 bits. -/
structure WfS (r : StR) : Prop where
  ords : ∀ x ∈ r.ords, WfO x.o
  bats : ∀ x ∈ r.bats, Wf x.b.wt
  effs : ∀ e ∈ r.effs, Wf e.key
  doors : ∀ d ∈ r.doors, Wf d
/-- An order among others. -/
theorem order_cells {H : Type} {enc : TypeId × Value → H} {W : World} {n : Nat} {cs : List Value} {x : DataW H × List MemPlace}
    (hf : DataW.trod enc Tryz.prog W 0 (fun _ => true) true n 93 cs = some x) : ∃ r : OdR, cs = orL r ∧ OdP W r.a r.c r.o ∧ WfO r.o := by
  obtain ⟨xs, m, _, _, hlen, hxl, hf⟩ := DataW.trod_struct Tryz.underlying93 hf
  rw [cellsOr] at hlen
  match cs, hlen with
  | [c0, c1, c2, c3, c4, c5, c6, c7, c8, c9], _ =>
    have hx6 : xs.length = 6 := hxl
    match xs, hx6 with
    | [x0, x1, x2, x3, x4, x5], _ =>
      have h0 := hf 0 _ rfl
      have h1 := hf 1 _ rfl
      have h2 := hf 2 _ rfl
      have h3 := hf 3 _ rfl
      have h4 := hf 4 _ rfl
      have h5 := hf 5 _ rfl
      simp only [List.getElem?_cons_zero, List.getElem?_cons_succ] at h0 h1 h2 h3 h4 h5
      obtain ⟨s, e0, _, hs⟩ := DataW.trod_string Tryz.underlying9 h0
      obtain ⟨a, cap, ls, e1, hL, hl, hq⟩ := lns_cells_trod h1
      obtain ⟨g1, g2, g3, e2, q1, q2, q3⟩ := group_of_trod h2
      obtain ⟨t, e3, _, ht⟩ := DataW.trod_int Tryz.underlying2 h3
      obtain ⟨p', g', r', e4⟩ := saga_of_trod h4
      obtain ⟨b, e5, _⟩ := DataW.trod_int Tryz.underlying2 h5
      simp [cells9, cells2, cellsLs, cellsGr, cellsSg] at e0 e1 e2 e3 e4 e5
      obtain ⟨rfl, rfl, rfl⟩ := e2
      obtain ⟨rfl, rfl, rfl⟩ := e4
      subst e0 e1 e3 e5
      exact ⟨⟨⟨s, ls, g1, g2, g3, t, p', g', r', b⟩, a, cap⟩, rfl, ⟨hL, hl, hs, q1, q2, q3⟩, ht, hq⟩
theorem batch_cells {H : Type} {enc : TypeId × Value → H} {W : World} {n : Nat} {cs : List Value} {x : DataW H × List MemPlace}
    (hf : DataW.trod enc Tryz.prog W 0 (fun _ => true) true n 98 cs = some x) : ∃ r : BtR, cs = baL r ∧ BtP W r.a r.c r.b ∧ Wf r.b.wt := by
  obtain ⟨xs, m, _, _, hlen, hxl, hf⟩ := DataW.trod_struct Tryz.underlying98 hf
  rw [cellsBt] at hlen
  match cs, hlen with
  | [c0, c1, c2, c3, c4, c5, c6, c7, c8], _ =>
    have hx7 : xs.length = 7 := hxl
    match xs, hx7 with
    | [x0, x1, x2, x3, x4, x5, x6], _ =>
      have h0 := hf 0 _ rfl
      have h1 := hf 1 _ rfl
      have h2 := hf 2 _ rfl
      have h3 := hf 3 _ rfl
      have h4 := hf 4 _ rfl
      have h5 := hf 5 _ rfl
      have h6 := hf 6 _ rfl
      simp only [List.getElem?_cons_zero, List.getElem?_cons_succ] at h0 h1 h2 h3 h4 h5 h6
      obtain ⟨i, e0, _⟩ := DataW.trod_int Tryz.underlying2 h0
      obtain ⟨t, e1, _, ht⟩ := DataW.trod_int Tryz.underlying2 h1
      obtain ⟨f, e2, _⟩ := DataW.trod_int Tryz.underlying2 h2
      obtain ⟨k, e3, _⟩ := DataW.trod_int Tryz.underlying3 h3
      obtain ⟨q, e4, _⟩ := DataW.trod_int Tryz.underlying3 h4
      obtain ⟨g1, g2, g3, e5, q1, q2, q3⟩ := group_of_trod h5
      obtain ⟨a, cap, ls, e6, hL, hl, hs⟩ := strs_cells_trod h6
      simp [cells2, cellsI, cellsTs, cellsGr] at e0 e1 e2 e3 e4 e5 e6
      obtain ⟨rfl, rfl, rfl⟩ := e5
      subst e0 e1 e2 e3 e4 e6
      exact ⟨⟨⟨i, t, f, k, q, g1, g2, g3, ls⟩, a, cap⟩, rfl, ⟨hL, hs, q1, q2, q3⟩, ht⟩
theorem caps_cells {H : Type} {enc : TypeId × Value → H} {W : World} {base : Nat} {spare : Nat → Bool} {held : Bool} {n : Nat} {cs : List Value} {x : DataW H × List MemPlace}
    (hf : DataW.trod enc Tryz.prog W base spare held n 31 cs = some x) : ∃ c : Cp, cs = [.int .i64 c.count, .int .i64 c.wt] := by
  obtain ⟨xs, m, _, _, hlen, hxl, hf⟩ := DataW.trod_struct Tryz.underlying31 hf
  rw [cellsCp] at hlen
  match cs, hlen with
  | [c0, c1], _ =>
    have hx2 : xs.length = 2 := hxl
    match xs, hx2 with
    | [x0, x1], _ =>
      have h0 := hf 0 _ rfl
      have h1 := hf 1 _ rfl
      simp only [List.getElem?_cons_zero, List.getElem?_cons_succ] at h0 h1
      obtain ⟨n, e0, _⟩ := DataW.trod_int Tryz.underlying3 h0
      obtain ⟨t, e1, _⟩ := DataW.trod_int Tryz.underlying2 h1
      simp [cellsI, cells2] at e0 e1
      subst e0 e1
      exact ⟨⟨n, t⟩, rfl⟩
theorem ints_cells {H : Type} {enc : TypeId × Value → H} {W : World} {fuel : Nat} {cs : List Value} {x : DataW H × List MemPlace}
    (hf : DataW.trod enc Tryz.prog W 0 (fun _ => true) true fuel 32 cs = some x) : ∃ a cap l, cs = [.slice a (List.length l) cap] ∧ IntsP W a cap l ∧ l.length ≤ maxLen ∧ ∀ d ∈ l, Wf d := by
  rcases open_ints Tryz.underlying32 Tryz.underlying3 cellsI hf with ⟨hcs, hx⟩ | ⟨a, len, cap, zs, hcs, _, hl, hm, hz, hx, hcell, hws⟩
  · exact ⟨none, 0, [], hcs, IntsP.nil _ _ _, by simp, by simp⟩
  · simp only [if_true] at hz
    have hlen : (zs.take len).length = len := by rw [List.length_take]; omega
    refine ⟨_, cap, zs.take len, by rw [hlen]; exact hcs, ⟨by omega, fun hne => ?_⟩, by omega, fun d hd => hws d (List.mem_of_mem_take hd)⟩
    have hpos : 0 < len := by
      rcases Nat.eq_zero_or_pos len with h | h
      · subst h; simp at hne
      · exact h
    obtain ⟨b, off, spot⟩ := a
    have hspot : spot = none := by simpa [Addr.add] using World.cell?_spot (hcell 0 (by omega))
    subst hspot
    have hc0 := hcell 0 (by omega)
    refine ⟨b, off, rfl, ?_, fun j x hj => ?_⟩
    · have := World.block_lt_of_cell? W _ hc0
      simpa [Addr.add] using this
    · have hj2 := (List.getElem?_eq_some_iff.1 hj).1
      rw [List.length_take] at hj2
      rw [← Go.WideShapes.add_plain, hcell j (by omega)]
      rw [List.getElem?_take] at hj
      split at hj
      · rw [List.getD_eq_getElem?_getD, hj]; rfl
      · cases hj
theorem cellsSt : Tryz.prog.cellsOf 37 = 12 := by kernel_rfl
theorem cellsIs : Tryz.prog.cellsOf 32 = 1 := by kernel_rfl
theorem cellsOs : Tryz.prog.cellsOf 33 = 1 := by kernel_rfl
theorem cellsBs : Tryz.prog.cellsOf 34 = 1 := by kernel_rfl
theorem cellsEs : Tryz.prog.cellsOf 35 = 1 := by kernel_rfl
theorem keyed_cells {H : Type} {enc : TypeId × Value → H} {W : World} {base : Nat} {spare : Nat → Bool} {held : Bool} {n : Nat} {cs : List Value} {x : DataW H × List MemPlace}
    (h : DataW.trod enc Tryz.prog W base spare held n 138 cs = some x) : ∃ y : Ef, cs = efL y ∧ y.order.size ≤ maxLen ∧ Wf y.key := by
  obtain ⟨y, e, hs⟩ := effect_cells h
  refine ⟨y, e, hs, ?_⟩
  subst e
  obtain ⟨xs, m, _, _, hlen, hxl, hf⟩ := DataW.trod_struct Tryz.underlying138 h
  have hx : xs.length = 6 := hxl
  match xs, hx with
  | [x0, x1, x2, x3, x4, x5], _ =>
    have h0 := hf 0 _ rfl
    simp only [List.getElem?_cons_zero] at h0
    obtain ⟨q0, e0, _, hq⟩ := DataW.trod_int Tryz.underlying2 h0
    simp [cells2, efL] at e0
    subst e0
    exact hq
theorem state_of_trod {H : Type} {enc : TypeId × Value → H} {W : World} {base : Nat} {v : Value} {d : DataW H} {p : List MemPlace}
    (hv : Value.okWide Tryz.prog W .any base 37 v) (h : DataW.Trod enc Tryz.prog W 0 (fun _ => true) true 37 v d p) : ∃ r : StR, v = stV r ∧ StP W r ∧ WfS r := by
  obtain ⟨cs, rfl, hsz⟩ := okWide_struct Tryz.underlying37 hv
  obtain ⟨fuel, hf⟩ := h
  obtain ⟨xs, m, _, _, hlen, hxl, hf⟩ := DataW.trod_struct Tryz.underlying37 hf
  rw [cellsSt] at hlen
  simp only [Value.cells] at hlen hf
  obtain ⟨l⟩ := cs
  match l, hlen with
  | [c0, c1, c2, c3, c4, c5, c6, c7, c8, c9, c10, c11], _ =>
    have hx10 : xs.length = 10 := hxl
    match xs, hx10 with
    | [x0, x1, x2, x3, x4, x5, x6, x7, x8, x9], _ =>
      have h0 := hf 0 _ rfl
      have h1 := hf 1 _ rfl
      have h2 := hf 2 _ rfl
      have h3 := hf 3 _ rfl
      have h4 := hf 4 _ rfl
      have h5 := hf 5 _ rfl
      have h6 := hf 6 _ rfl
      have h7 := hf 7 _ rfl
      have h8 := hf 8 _ rfl
      have h9 := hf 9 _ rfl
      simp only [List.getElem?_cons_zero, List.getElem?_cons_succ] at h0 h1 h2 h3 h4 h5 h6 h7 h8 h9
      obtain ⟨w1, e0⟩ := caps_cells h0
      obtain ⟨w2, e1⟩ := caps_cells h1
      obtain ⟨lim, e2, _⟩ := DataW.trod_int Tryz.underlying3 h2
      obtain ⟨da, dc, ds, e3, hD, hDl, hDw⟩ := ints_cells h3
      obtain ⟨now, e4, _⟩ := DataW.trod_int Tryz.underlying2 h4
      obtain ⟨nb, e5, _⟩ := DataW.trod_int Tryz.underlying2 h5
      obtain ⟨nk, e6, _⟩ := DataW.trod_int Tryz.underlying2 h6
      obtain ⟨oa, oc, os, e7, hO, _, hOe⟩ := sl_cells_trod (L := LO) LO_ok cellsOr (P := fun r => OdP W r.a r.c r.o ∧ WfO r.o) (fun h => order_cells h) h7
      obtain ⟨ba, bc, bs, e8, hB, _, hBe⟩ := sl_cells_trod (L := LB) LB_ok cellsBt (P := fun r => BtP W r.a r.c r.b ∧ Wf r.b.wt) (fun h => batch_cells h) h8
      obtain ⟨ea, ec, es, e9, hE, _, hEe⟩ := sl_cells_trod (L := LE) LE_ok cellsEf (P := fun y => y.order.size ≤ maxLen ∧ Wf y.key) (fun h => keyed_cells h) h9
      simp [cells2, cellsI, cellsCp, cellsIs, cellsOs, cellsBs, cellsEs] at e0 e1 e2 e3 e4 e5 e6 e7 e8 e9
      obtain ⟨rfl, rfl⟩ := e0
      obtain ⟨rfl, rfl⟩ := e1
      subst e2 e3 e4 e5 e6 e7 e8 e9
      exact ⟨⟨w1, w2, lim, ds, da, dc, now, nb, nk, os, oa, oc, bs, ba, bc, es, ea, ec⟩, rfl, ⟨hD, hDl, ⟨hO, fun r hr => (hOe r hr).1⟩, ⟨hB, fun r hr => (hBe r hr).1⟩, hE, fun e he => (hEe e he).1⟩, fun r hr => (hOe r hr).2, fun r hr => (hBe r hr).2, fun e he => (hEe e he).2, hDw⟩
end

/- StGreat: The laws' bound on states. -/
section
set_option maxRecDepth 100000
open Go.RowKit Go.ChangeShapes Go.WideShapes Go.ChangeAt
attribute [local go_sem ↓] ldOr stOr alOr bxOr bdOr ldBa stBa alBa bxBa bdBa ldSt stSt alSt bxSt bdSt ldEf stEf alEf bxEf eqEf bdEf bsEf ldGr bxGr eqGr
attribute [local go_sem] al_or bx_or st_ornew bd_or al_ba bx_ba st_banew bd_ba al_sta bx_sta st_stnew bd_sta al_ef bx_ef st_new bd_ef bs_ef bs_ef0 bx_gr ne_gr

end

/- StHung: Plain facts on a state that hangs together: who is found, what is held. -/
section
set_option maxRecDepth 100000

end

/- StCon: What package state's calls answer, as the laws want it. -/
section
set_option maxRecDepth 100000
open Go.RowKit Go.ChangeShapes Go.WideShapes Go.ChangeAt

end

/- StAlive: The chapter's example. -/
section
set_option maxRecDepth 100000
open Go.RowKit Go.ChangeShapes Go.WideShapes Go.ChangeAt
attribute [local go_sem ↓] ldOr stOr alOr bxOr bdOr ldBa stBa alBa bxBa bdBa ldSt stSt alSt bxSt bdSt ldEf stEf alEf bxEf eqEf bdEf bsEf ldGr bxGr eqGr ldCa bxCa eqCa
attribute [local go_sem] al_or bx_or st_ornew bd_or al_ba bx_ba st_banew bd_ba al_sta bx_sta st_stnew bd_sta al_ef bx_ef st_new bd_ef bs_ef bs_ef0 bx_gr ne_gr bx_ca ne_ca eq_caX

section
variable (ev : Operand → Value) (d : Option Tmp) (ty : TypeId) (pos : String) (af : Array Edge) (gd : Option (Nat × Bool)) (w : World)
end
attribute [local go_sem ↓] bsOr
attribute [local go_sem] bd_odA bs_odA bd_efA

end

/- StMust: Plain facts on effects: what must be asked is just what is asked. -/
section
set_option maxRecDepth 100000

end

/- StCount: Plain facts on counting what is needed against what is asked. -/
section
set_option maxRecDepth 100000

end

/- StBreak: Plain facts: a state that hangs together doesn't any more without one of its effects, or with an order in the next phase. -/
section
set_option maxRecDepth 100000

end

/- StHeld: Rows of numbers of 64 bits of the call's own; what the document's Held of layer 15 answers. -/
section
set_option maxRecDepth 100000
open Go.RowKit Go.ChangeShapes Go.WideShapes Go.ChangeAt
attribute [local go_sem ↓] ldOr stOr alOr bxOr bdOr ldBa stBa alBa bxBa bdBa ldSt stSt alSt bxSt bdSt ldEf stEf alEf bxEf eqEf bdEf bsEf ldGr bxGr eqGr ldCa bxCa eqCa
attribute [local go_sem] al_or bx_or st_ornew bd_or al_ba bx_ba st_banew bd_ba al_sta bx_sta st_stnew bd_sta al_ef bx_ef st_new bd_ef bs_ef bs_ef0 bx_gr ne_gr bx_ca ne_ca eq_grX

end
end

/- SnPlain2: Plain facts on states as bytes. -/
section
set_option maxRecDepth 100000

theorem readO_back {l : List Nat} (hb : Bytes l) {st : St} (h : readO l = some st) : l = stateL st ∧ rightS st = true := readM_back hb h
theorem state_begins {a b : St} (ha : rightS a = true) (hb : rightS b = true) (hl : (stateL b).length ≤ 1000000) {r : List Nat} (e : stateL b = stateL a ++ r) : a = b ∧ r = [] := by
  have hla : (stateL a).length ≤ 1000000 := by rw [e, List.length_append] at hl; omega
  have ma := stateL_many a
  have mb := stateL_many b
  have e1 := readS_put 96 1048576 (by decide) ha (by omega) (by omega) r
  have e2 := readS_put 96 1048576 (by decide) hb (by omega) (by omega) []
  rw [List.append_nil, e, e1] at e2
  injection e2 with e2
  injection e2 with e3 e4
  exact ⟨e3, by injection e4⟩
/-- A state's bytes, cut off, or with more behind them, are none. -/
theorem readO_cut {s : St} (h : rightS s = true) (hl : (stateL s).length ≤ 1000000) {n : Nat} (hn : n < (stateL s).length) : readO ((stateL s).take n) = none := by
  cases e : readO ((stateL s).take n) with
  | none => rfl
  | some x =>
    exfalso
    obtain ⟨h1, h2⟩ := readO_back (fun y hy => stateL_bytes s y (List.mem_of_mem_take hy)) e
    have e1 : stateL s = stateL x ++ (stateL s).drop n := by rw [← h1, List.take_append_drop]
    have e2 := (state_begins h2 h hl e1).2
    have := congrArg List.length e2
    rw [List.length_drop, List.length_nil] at this
    omega
theorem readO_more {s : St} (h : rightS s = true) (hl : (stateL s).length < 1000000) {x : Nat} (hx : x < 256) : readO (stateL s ++ [x]) = none := by
  cases e : readO (stateL s ++ [x]) with
  | none => rfl
  | some y =>
    exfalso
    obtain ⟨h1, h2⟩ := readO_back (bytes_app (stateL_bytes s) (fun z hz => by rw [List.mem_singleton.1 hz]; exact hx)) e
    have e2 := (state_begins h h2 (by rw [← h1, List.length_append, List.length_singleton]; omega) h1.symm).2
    cases e2
end

/- SnRef3: The document's bytes of a command. -/
section
set_option maxRecDepth 100000
open Go.RowKit Go.ChangeShapes Go.WideShapes Go.ChangeAt
attribute [local go_sem ↓] ldCm stCm alCm bxCm bdCm ldGr bxGr eqGr
attribute [local go_sem] al_cm bx_cm st_cmnew bd_cm bd_cmKind bx_gr ne_gr eq_grX

theorem bytes_one (W : World) (x : Nat) (h : x < 256) : BytesP (W.alloc (.cells #[.int .u8 (x : Int)] 5)) (some ⟨W.heap.size, 0, none⟩) 1 [x] := by
  refine ⟨by simp, by simp, fun y hy => by rw [List.mem_singleton.1 hy]; exact h, fun _ => ⟨W.heap.size, 0, rfl, by simp, fun j y hj => ?_⟩⟩
  match j, hj with
  | 0, hj =>
    injection hj with hj
    subst hj
    exact (Row.new W #[.int .u8 (x : Int)] 5).cell 0
end

end Go.Proofs.YtfmpibmhhfmajaaGreatDoor
