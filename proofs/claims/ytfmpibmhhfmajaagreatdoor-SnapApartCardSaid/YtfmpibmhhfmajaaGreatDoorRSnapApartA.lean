/- What SnapApart wants besides: MgBase, MgLines, MgOrders, SnPlain, SnLay, SnRef, SnKinds, SnPt, SnRight, SnCon. -/
import Derived.Test.YtfmpibmhhfmajaaGreatDoorChecked
import Derived.WalkKit
import Derived.WalkSpells
import Derived.ProofKit
import Derived.Below
import Derived.IntWalk
import Derived.Lib.Hide
import Derived.Laws.BitsAllLaws
import Derived.OpenShut
import Derived.ChangeSlices
import Derived.OwnWalk
import Derived.Laws.AppendOwn
import Derived.Laws.AppendOwnNone
import Derived.Laws.BytesArg
import Derived.Deep.AppendSrc
import Derived.Lib.SlBytesConst
import Derived.Lib.AppendStr
import Derived.Lib.SliceRun
import Derived.Deep.QuietTactic
import Derived.BigQuiet
import Derived.ArgAppend
import Derived.Test.YtfmpibmhhfmajaaGreatDoorPLb
import Derived.Test.YtfmpibmhhfmajaaGreatDoorMgBase
import Derived.Laws.StructEq
import Derived.Test.YtfmpibmhhfmajaaGreatDoorRows
import Derived.Deep.Slices
import Derived.Deep.Strs
import Derived.Lib.SmallJoins
import Derived.Test.YtfmpibmhhfmajaaGreatDoorPSl
import Derived.Test.YtfmpibmhhfmajaaGreatDoorMgLines
import Derived.Test.YtfmpibmhhfmajaaGreatDoorMgState
import Derived.Test.YtfmpibmhhfmajaaGreatDoorSnPlain
import Derived.Test.YtfmpibmhhfmajaaGreatDoorSnLay
import Derived.Test.YtfmpibmhhfmajaaGreatDoorMgStates
import Derived.Deep.DeepCutAuto
import Derived.Test.YtfmpibmhhfmajaaGreatDoorPSc
import Derived.LaidLaws
import Derived.LaidSub
import Derived.MakeChecks
import Derived.Test.YtfmpibmhhfmajaaGreatDoorSnKinds
import Derived.Test.YtfmpibmhhfmajaaGreatDoorSnRef4
import Derived.Test.YtfmpibmhhfmajaaGreatDoorSnRef3
import Derived.Test.YtfmpibmhhfmajaaGreatDoorPOr
import Derived.Test.YtfmpibmhhfmajaaGreatDoorMgOrders
import Derived.Test.YtfmpibmhhfmajaaGreatDoorSnPlain2
import Derived.Test.YtfmpibmhhfmajaaGreatDoorMgCopy
import Derived.Test.YtfmpibmhhfmajaaGreatDoorLbShelf
import Derived.Test.YtfmpibmhhfmajaaGreatDoorMgBatches
import Derived.Test.YtfmpibmhhfmajaaGreatDoorMgEffects
import Derived.Test.YtfmpibmhhfmajaaGreatDoorPDy
import Derived.Test.YtfmpibmhhfmajaaGreatDoorDyShelf
import Derived.Test.YtfmpibmhhfmajaaGreatDoorMgRight
import Derived.Test.YtfmpibmhhfmajaaGreatDoorMgProg
import Derived.Test.YtfmpibmhhfmajaaGreatDoorPBt
import Derived.Test.YtfmpibmhhfmajaaGreatDoorPOb
import Derived.Test.YtfmpibmhhfmajaaGreatDoorSnLines
import Derived.Test.YtfmpibmhhfmajaaGreatDoorSnTold
import Derived.Test.YtfmpibmhhfmajaaGreatDoorSnRight
import Derived.Test.YtfmpibmhhfmajaaGreatDoorSnCon
import Derived.Test.YtfmpibmhhfmajaaGreatDoorSnRow
import Derived.Test.YtfmpibmhhfmajaaGreatDoorSnOwn
import Derived.Test.YtfmpibmhhfmajaaGreatDoorSnRead0
import Derived.Test.YtfmpibmhhfmajaaGreatDoorSnReadP
import Derived.Test.YtfmpibmhhfmajaaGreatDoorSnReadP2
import Derived.Test.YtfmpibmhhfmajaaGreatDoorSnReadP3
import Derived.Test.YtfmpibmhhfmajaaGreatDoorSnReadD
import Derived.Test.YtfmpibmhhfmajaaGreatDoorSnCmd
import Derived.Test.YtfmpibmhhfmajaaGreatDoorSnState
import Derived.Test.YtfmpibmhhfmajaaGreatDoorSnAlive
namespace Go.Proofs.YtfmpibmhhfmajaaGreatDoor

/- MgBase: Texts, blocks, books of what is the program's own: the base. -/
section
/- TxBase: Slices of texts: what they read as; tests that turn nothing that was there; worlds behind some draws. -/
section
set_option maxRecDepth 100000
open Go.ChangeShapes Go.WideShapes Go.ChangeAt Go.RowKit

end

/- TxMem: Slices of texts in memory: what they read as, rows of a call's own, append onto such rows and onto a slice without room. -/
section
set_option maxRecDepth 100000
open Go.RowKit

end

/- TxSame: What Same of package packhorseref01 answers of two slices of texts. -/
section
set_option maxRecDepth 100000
open Go.RowKit

end

/- BkPlain: Plain facts on bytes: numbers' bytes, in one way alone. -/
section
end

/- BkOwn: Slices of bytes in memory; bytes in a row of the call's own: put behind others, read as a text; parts of a slice of bytes; what Clone of package bytes answers. -/
section
set_option maxRecDepth 100000
open Go.ChangeShapes Go.WideShapes Go.ChangeAt Go.RowKit

theorem strB_inj {l m : List Nat} (hl : Bytes l) (hm : Bytes m) (e : strB l = strB m) : l = m := by rw [← strL_strB hl, ← strL_strB hm, e]

end

/- BkWrite: What Number and Text of package packet, and the document's, answer. -/
section
set_option maxRecDepth 100000
open Go.ChangeShapes Go.WideShapes Go.ChangeAt Go.RowKit

end

/- BkFar: Regions that draw their order, whose operations only read and whose callees may lay memory of their own: walked once, in the worlds that keep all that was there. -/
section
set_option maxRecDepth 100000
open Go.RowKit

end
end

/- MgLines: Lines, and what comes in. -/
section
/- LnPlain: Plain facts on lines, as lists: which can be, each thing once, without some pieces: no program is walked here. -/
section
end

/- LnMem: Slices of lines in memory; what isLine, find$1, Pieces$1 and Weight$1 of package lines answer of one line. -/
section
set_option maxRecDepth 100000
open Go.RowKit

end

/- LnRight: What Right of package lines answers, at every slice of lines. -/
section
set_option maxRecDepth 100000
open Go.RowKit

end

/- LnSum: What lines weigh: Weight of package lines, and the document's. -/
section
set_option maxRecDepth 100000
open Go.RowKit

end

/- LnOwn: Rows of lines that a call has made for itself; lines put behind lines in such a row. -/
section
set_option maxRecDepth 100000
open Go.RowKit Go.Lib

end

/- ScPlain: Plain facts on bytes that are read on, number by number and text by text: what is written is read, and what is read is as it would be written. -/
section
set_option maxRecDepth 100000

end

/- ScLeaf: What Right of package tally answers, the document's Right of numbers and Group; three texts in a block. -/
section
set_option maxRecDepth 100000
open Go.RowKit

end

/- ScArgs: What came in as bytes, as texts, as a group. -/
section
set_option maxRecDepth 100000
open Go.ChangeShapes Go.WideShapes Go.ChangeAt Go.RowKit

theorem laidOut : laidOutB Tryz.prog = true := by kernel_rfl
theorem cells9 : Tryz.prog.cellsOf 9 = 1 := by kernel_rfl
theorem cells2 : Tryz.prog.cellsOf 2 = 1 := by kernel_rfl
theorem cellsB4 : Tryz.prog.cellsOf 4 = 1 := by kernel_rfl
theorem cellsGr : Tryz.prog.cellsOf 24 = 3 := by kernel_rfl
theorem pick_list {α : Type} {P : Nat → α → Prop} : ∀ n, (∀ i, i < n → ∃ x, P i x) → ∃ l : List α, l.length = n ∧ ∀ i x, l[i]? = some x → P i x
  | 0, _ => ⟨[], rfl, fun i x h => by simp at h⟩
  | n + 1, h => by
    obtain ⟨l, hl, hp⟩ := pick_list n (fun i hi => h i (by omega))
    obtain ⟨x, hx⟩ := h n (by omega)
    refine ⟨l ++ [x], by simp [hl], fun i y hy => ?_⟩
    by_cases hi : i < l.length
    · rw [List.getElem?_append_left hi] at hy
      exact hp i y hy
    · rw [List.getElem?_append_right (by omega)] at hy
      have h0 : i - l.length = 0 := by
        have := (List.getElem?_eq_some_iff.1 hy).1
        simp at this
        omega
      rw [h0] at hy
      simp at hy
      subst hy
      rw [show i = n by omega]
      exact hx
theorem group_of_trod {H : Type} {enc : TypeId × Value → H} {W : World} {base : Nat} {spare : Nat → Bool} {held : Bool} {n : Nat} {cs : List Value} {x : DataW H × List MemPlace}
    (h : DataW.trod enc Tryz.prog W base spare held n 24 cs = some x) : ∃ a b c : ByteArray, cs = [.string a, .string b, .string c] ∧ a.size ≤ maxLen ∧ b.size ≤ maxLen ∧ c.size ≤ maxLen := by
  obtain ⟨xs, m, _, _, hlen, hxl, hf⟩ := DataW.trod_struct Tryz.underlying24 h
  rw [cellsGr] at hlen
  match cs, hlen with
  | [c0, c1, c2], _ =>
    have hx3 : xs.length = 3 := hxl
    match xs, hx3 with
    | [x0, x1, x2], _ =>
      have h0 := hf 0 _ rfl
      have h1 := hf 1 _ rfl
      have h2 := hf 2 _ rfl
      simp only [List.getElem?_cons_zero, List.getElem?_cons_succ] at h0 h1 h2
      obtain ⟨s, e0, _, hs⟩ := DataW.trod_string Tryz.underlying9 h0
      obtain ⟨q, e1, _, hq⟩ := DataW.trod_string Tryz.underlying9 h1
      obtain ⟨t, e2, _, ht⟩ := DataW.trod_string Tryz.underlying9 h2
      injection e0 with e0
      injection e1 with e1
      injection e2 with e2
      exact ⟨s, q, t, by rw [e0, e1, e2], hs, hq, ht⟩

end

/- SlArgs: Slices of structs that came in. -/
section
set_option maxRecDepth 100000
open Go.ChangeShapes Go.WideShapes Go.ChangeAt Go.RowKit

end
end

/- MgOrders: Orders. -/
section
/- OrPlain: Plain facts on orders: which can be, their bytes, and what bytes are read as; each order's bytes are read as that order, and none but these. -/
section
end

/- OrLeaf: What the small tests of package order, Right of package tally and the document's answer. -/
section
set_option maxRecDepth 100000
open Go.RowKit

end

/- OrRight: What Right of package order, and the document's, answer, at every order. -/
section
set_option maxRecDepth 100000
open Go.RowKit

end

/- OrArgs: What came in as bytes, lines, an order. -/
section
set_option maxRecDepth 100000
open Go.ChangeShapes Go.WideShapes Go.ChangeAt Go.RowKit

theorem cellsLs : Tryz.prog.cellsOf 22 = 1 := by kernel_rfl
theorem cellsLn : Tryz.prog.cellsOf 72 = 3 := by kernel_rfl
theorem line_of_trod {H : Type} {enc : TypeId × Value → H} {W : World} {base : Nat} {spare : Nat → Bool} {held : Bool} {n : Nat} {cs : List Value} {x : DataW H × List MemPlace}
    (h : DataW.trod enc Tryz.prog W base spare held n 72 cs = some x) : ∃ y : Ln, cs = [.string y.sku, .int .i64 y.qty, .int .i64 y.wt] ∧ y.sku.size ≤ maxLen ∧ (Lit.int .i64 y.qty).wf = true := by
  obtain ⟨xs, m, _, _, hlen, hxl, hf⟩ := DataW.trod_struct Tryz.underlying72 h
  rw [cellsLn] at hlen
  match cs, hlen with
  | [c0, c1, c2], _ =>
    have hx3 : xs.length = 3 := hxl
    match xs, hx3 with
    | [x0, x1, x2], _ =>
      have h0 := hf 0 _ rfl
      have h1 := hf 1 _ rfl
      have h2 := hf 2 _ rfl
      simp only [List.getElem?_cons_zero, List.getElem?_cons_succ] at h0 h1 h2
      obtain ⟨s, e0, _, hs⟩ := DataW.trod_string Tryz.underlying9 h0
      obtain ⟨q, e1, _, hq⟩ := DataW.trod_int Tryz.underlying2 h1
      obtain ⟨t, e2, _, _⟩ := DataW.trod_int Tryz.underlying2 h2
      injection e0 with e0
      injection e1 with e1
      injection e2 with e2
      exact ⟨⟨s, q, t⟩, by rw [e0, e1, e2], hs, hq⟩

theorem lns_cells_trod {H : Type} {enc : TypeId × Value → H} {W : World} {fuel : Nat} {cs : List Value} {x : DataW H × List MemPlace}
    (hf : DataW.trod enc Tryz.prog W 0 (fun _ => true) true fuel 22 cs = some x) : ∃ a cap l, cs = [.slice a (List.length l) cap] ∧ LnsP W a cap l ∧ l.length ≤ maxLen ∧ ∀ x ∈ l, (Lit.int .i64 x.qty).wf = true := by
  rcases Go.Deep.open_slice Tryz.underlying22 hf with ⟨hcs, hx⟩ | ⟨a, len, cap, m, n, D, Pl, hcs, _, hl, hm, hmm, hx, hi⟩
  · exact ⟨none, 0, [], hcs, LnsP.nil _ _ _, by simp, fun _ h => by simp at h⟩
  · subst hcs
    simp only [if_true] at hmm
    subst hmm
    rw [cellsLn] at hi
    have hpick : ∀ i, i < len → ∃ y : Ln, W.cells? 0 (a.add (i * 3)) 3 = some [.string y.sku, .int .i64 y.qty, .int .i64 y.wt] ∧ y.sku.size ≤ maxLen ∧ (Lit.int .i64 y.qty).wf = true := by
      intro i hil
      obtain ⟨cs', hc, ht⟩ := hi i (by omega)
      obtain ⟨y, rfl, hs⟩ := line_of_trod ht
      exact ⟨y, hc, hs⟩
    obtain ⟨l, hll, hlp⟩ := pick_list len hpick
    refine ⟨some a, m, l, by rw [hll], ⟨by omega, ?_, fun hne => ?_⟩, by omega, fun x hx => ?_⟩
    · intro x hx
      obtain ⟨i, hi, rfl⟩ := List.mem_iff_getElem.1 hx
      exact (hlp i _ (List.getElem?_eq_getElem hi)).2.1
    · have hcell : ∀ j x, l[j]? = some x → W.cell? ((a.add (j * 3)).add 0) = some (.string x.sku) ∧ W.cell? ((a.add (j * 3)).add 1) = some (.int .i64 x.qty) ∧ W.cell? ((a.add (j * 3)).add 2) = some (.int .i64 x.wt) := by
        intro j x hj
        obtain ⟨_, _, hat⟩ := World.cells?_some (hlp j x hj).1
        exact ⟨hat 0 (by omega), hat 1 (by omega), hat 2 (by omega)⟩
      obtain ⟨x0, hx0⟩ : ∃ x0, l[0]? = some x0 := by
        cases l with
        | nil => exact absurd rfl hne
        | cons y r => exact ⟨y, rfl⟩
      obtain ⟨b, off, spot⟩ := a
      have hc0 := (hcell 0 x0 hx0).1
      have hspot : spot = none := by simpa [Addr.add] using World.cell?_spot hc0
      subst hspot
      refine ⟨b, off, rfl, ?_, fun j x hj => ?_⟩
      · have := World.block_lt_of_cell? W _ hc0
        simpa [Addr.add] using this
      · obtain ⟨q1, q2, q3⟩ := hcell j x hj
        simp only [Addr.add_lit, Nat.add_zero] at q1 q2 q3
        exact ⟨q1, q2, q3⟩
    · obtain ⟨i, hi, rfl⟩ := List.mem_iff_getElem.1 hx
      exact (hlp i _ (List.getElem?_eq_getElem hi)).2.2

end

/- OrRight2: What the document's Right answers, at every order. -/
section
set_option maxRecDepth 100000
open Go.RowKit

end

/- OrSame: What Same of package order, and the document's, answer, at any two orders. -/
section
set_option maxRecDepth 100000
open Go.RowKit

end
end

/- SnPlain: Plain facts on commands and states as bytes: what can be, what is written, what is read. -/
section
set_option maxRecDepth 100000

/-- What is read, behind the kind. -/
def submitS (k : Nat) (s : Sc) : Cm × Sc :=
  let i := textS 32 s
  let n := numS 8 i.2
  let l := linesS n.1 n.2
  let g := groupS l.2
  let t := numS 1000000000000 g.2
  (⟨(k : Int), strB i.1, l.1, strB g.1.1, strB g.1.2.1, strB g.1.2.2, (t.1 : Int), 0, false⟩, t.2)
def idS (k : Nat) (s : Sc) : Cm × Sc := (⟨(k : Int), strB (textS 32 s).1, [], ⟨#[]⟩, ⟨#[]⟩, ⟨#[]⟩, 0, 0, false⟩, (textS 32 s).2)
def amendS (k : Nat) (s : Sc) : Cm × Sc :=
  let i := textS 32 s
  let g := groupS i.2
  (⟨(k : Int), strB i.1, [], strB g.1.1, strB g.1.2.1, strB g.1.2.2, 0, 0, false⟩, g.2)
def tickS (m k : Nat) (s : Sc) : Cm × Sc := (⟨(k : Int), ⟨#[]⟩, [], ⟨#[]⟩, ⟨#[]⟩, ⟨#[]⟩, 0, ((numS m s).1 : Int), false⟩, (numS m s).2)
def replyS (k : Nat) (s : Sc) : Cm × Sc :=
  let n := numS 1000000000000 s
  let y := numS 1 n.2
  (⟨(k : Int), ⟨#[]⟩, [], ⟨#[]⟩, ⟨#[]⟩, ⟨#[]⟩, 0, (n.1 : Int), decide (y.1 = 1)⟩, y.2)
def kindS (m k : Nat) (s : Sc) : Cm × Sc :=
  if k = 1 then submitS k s else if k = 2 ∨ k = 8 then idS k s else if k = 3 then amendS k s else if k = 4 then tickS m k s else if k = 5 then replyS k s
  else (⟨(k : Int), ⟨#[]⟩, [], ⟨#[]⟩, ⟨#[]⟩, ⟨#[]⟩, 0, 0, false⟩, s)
def toldS (m : Nat) (s : Sc) : Cm × Sc := kindS m (numS 8 s).1 (numS 8 s).2
theorem groupL_put {a b c : ByteArray} (h : groupB a b c = true) (r : List Nat) : groupS (some (textL a ++ (textL b ++ (textL c ++ r)))) = ((strL a, strL b, strL c), some r) := by
  obtain ⟨g1, g2, g3⟩ := groupB_of h
  exact groupS_put (right_32 g1) (right_32 g2) (right_32 g3) r
theorem commandL_eq (c : Cm) : commandL c = numL c.kind.toNat ++ restL c := rfl
theorem kindS_put (m : Nat) (hm : 96 ≤ m) {c : Cm} (h : rightC c = true) (r : List Nat) : kindS m c.kind.toNat (some (restL c ++ r)) = (c, some r) := by
  obtain ⟨h1, h2⟩ := rightC_of h
  have hk := rightC_kind h
  obtain ⟨kind, id, ls, car, zone, serv, total, number, yes⟩ := c
  simp only at hk h1 h2
  have hkk : kind = 1 ∨ kind = 2 ∨ kind = 3 ∨ kind = 4 ∨ kind = 5 ∨ kind = 6 ∨ kind = 7 ∨ kind = 8 := by omega
  rcases hkk with rfl | rfl | rfl | rfl | rfl | rfl | rfl | rfl
  · have h1 : (number = 0 ∧ yes = false) := by simpa [bareC] using h1
    obtain ⟨rfl, rfl⟩ := h1
    have h2 : rightT id = true ∧ rightLB ls = true ∧ groupB car zone serv = true ∧ 0 ≤ total ∧ total ≤ 1000000000000 := by simpa [fitsC, tallyB] using h2
    obtain ⟨i1, i2, i3, i4⟩ := h2
    obtain ⟨l1, l2, _⟩ := (rightLB_iff _).1 i2
    show submitS 1 (some ((textL id ++ (numL ls.length ++ (linesL ls ++ (textL car ++ (textL zone ++ (textL serv ++ numL total.toNat)))))) ++ r)) = _
    unfold submitS
    simp only [List.append_assoc]
    rw [textS_put (right_32 i1)]
    simp only
    rw [numS_put (by omega)]
    simp only
    rw [linesS_put _ l2]
    simp only
    rw [groupL_put i3]
    simp only
    rw [numS_put (by omega)]
    simp only [strB_strL]
    rw [Int.toNat_of_nonneg i4.1]
    rfl
  · have h1 : ls = [] ∧ car = ⟨#[]⟩ ∧ zone = ⟨#[]⟩ ∧ serv = ⟨#[]⟩ ∧ total = 0 ∧ number = 0 ∧ yes = false := by simpa [bareC] using h1
    obtain ⟨rfl, rfl, rfl, rfl, rfl, rfl, rfl⟩ := h1
    have h2 : rightT id = true := by simpa [fitsC] using h2
    show idS 2 (some (textL id ++ r)) = _
    unfold idS
    rw [textS_put (right_32 h2), strB_strL]
    rfl
  · have h1 : ls = [] ∧ total = 0 ∧ number = 0 ∧ yes = false := by simpa [bareC] using h1
    obtain ⟨rfl, rfl, rfl, rfl⟩ := h1
    have h2 : rightT id = true ∧ groupB car zone serv = true := by simpa [fitsC] using h2
    show amendS 3 (some ((textL id ++ (textL car ++ (textL zone ++ textL serv))) ++ r)) = _
    unfold amendS
    simp only [List.append_assoc]
    rw [textS_put (right_32 h2.1)]
    simp only
    rw [groupL_put h2.2]
    simp only [strB_strL]
    rfl
  · have h1 : id = ⟨#[]⟩ ∧ ls = [] ∧ car = ⟨#[]⟩ ∧ zone = ⟨#[]⟩ ∧ serv = ⟨#[]⟩ ∧ total = 0 ∧ yes = false := by simpa [bareC] using h1
    obtain ⟨rfl, rfl, rfl, rfl, rfl, rfl, rfl⟩ := h1
    have h2 : 1 ≤ number ∧ number ≤ 96 := by simpa [fitsC] using h2
    show tickS m 4 (some (numL number.toNat ++ r)) = _
    unfold tickS
    rw [numS_put (by omega)]
    simp only
    rw [Int.toNat_of_nonneg (by omega)]
    rfl
  · have h1 : id = ⟨#[]⟩ ∧ ls = [] ∧ car = ⟨#[]⟩ ∧ zone = ⟨#[]⟩ ∧ serv = ⟨#[]⟩ ∧ total = 0 := by simpa [bareC] using h1
    obtain ⟨rfl, rfl, rfl, rfl, rfl, rfl⟩ := h1
    have h2 : 1 ≤ number ∧ number ≤ 1000000000000 := by simpa [fitsC, aboveB] using h2
    show replyS 5 (some ((numL number.toNat ++ numL (givenN yes)) ++ r)) = _
    unfold replyS
    rw [List.append_assoc, numS_put (by omega)]
    simp only
    rw [numS_put (givenN_le _)]
    simp only [givenN_one]
    rw [Int.toNat_of_nonneg (by omega)]
    rfl
  · have h1 : id = ⟨#[]⟩ ∧ ls = [] ∧ car = ⟨#[]⟩ ∧ zone = ⟨#[]⟩ ∧ serv = ⟨#[]⟩ ∧ total = 0 ∧ number = 0 ∧ yes = false := by simpa [bareC] using h1
    obtain ⟨rfl, rfl, rfl, rfl, rfl, rfl, rfl, rfl⟩ := h1
    rfl
  · have h1 : id = ⟨#[]⟩ ∧ ls = [] ∧ car = ⟨#[]⟩ ∧ zone = ⟨#[]⟩ ∧ serv = ⟨#[]⟩ ∧ total = 0 ∧ number = 0 ∧ yes = false := by simpa [bareC] using h1
    obtain ⟨rfl, rfl, rfl, rfl, rfl, rfl, rfl, rfl⟩ := h1
    rfl
  · have h1 : ls = [] ∧ car = ⟨#[]⟩ ∧ zone = ⟨#[]⟩ ∧ serv = ⟨#[]⟩ ∧ total = 0 ∧ number = 0 ∧ yes = false := by simpa [bareC] using h1
    obtain ⟨rfl, rfl, rfl, rfl, rfl, rfl, rfl⟩ := h1
    have h2 : rightT id = true := by simpa [fitsC] using h2
    show idS 8 (some (textL id ++ r)) = _
    unfold idS
    rw [textS_put (right_32 h2), strB_strL]
    rfl
/-- What is written is read. -/
theorem toldS_put (m : Nat) (hm : 96 ≤ m) {c : Cm} (h : rightC c = true) (r : List Nat) : toldS m (some (commandL c ++ r)) = (c, some r) := by
  unfold toldS
  have hk := rightC_kind h
  rw [commandL_eq, List.append_assoc, numS_put (by omega)]
  exact kindS_put m hm h r
theorem restL_bytes (c : Cm) : Bytes (restL c) := by
  unfold restL
  repeat' split
  all_goals (repeat' (first | exact textL_bytes _ | exact numL_bytes _ | exact linesL_bytes _ | apply bytes_app))
  all_goals exact fun b hb => by simp at hb
theorem commandL_bytes (c : Cm) : Bytes (commandL c) := bytes_app (numL_bytes _) (restL_bytes c)
/-- Of two commands' bytes neither begins the other's, but they are the same. -/
theorem command_begins {a b : Cm} (ha : rightC a = true) (hb : rightC b = true) {r : List Nat} (e : commandL b = commandL a ++ r) : a = b ∧ r = [] := by
  have e1 := toldS_put 96 (Nat.le_refl _) ha r
  have e2 := toldS_put 96 (Nat.le_refl _) hb []
  rw [List.append_nil, e, e1] at e2
  injection e2 with e3 e4
  exact ⟨e3, by injection e4⟩
end

/- SnLay: A command as a value: how it lies, whole loads, stores and new variables told at once; a command that came in. -/
section
set_option maxRecDepth 100000
open Go.RowKit Go.ChangeShapes Go.WideShapes Go.ChangeAt

section
variable (ev : Operand → Value) (d : Option Tmp) (ty : TypeId) (pos : String) (af : Array Edge) (gd : Option (Nat × Bool)) (w : World)
end
theorem loadCm {W : World} {g : Nat} {r : CmR} (h : Row W g 26 (cmC r)) : (loadVar 26 ⟨g, 0, none⟩).run Tryz.prog W = .ok (.agg (cmC r)) W :=
  run_loadVar_row (P := Tryz.prog) W g 26 26 _ (0, 0) _ h Tryz.underlying26 rfl (sizeCm r)
theorem ld_cm {W : World} {g : Nat} {r : CmR} (h : Row W g 26 (cmC r)) : LdX 26 (.pointer (some ⟨g, 0, none⟩)) W = .ok (.value (cmV r)) W := by
  simp only [LdX, Instr.loadAt, Instr.sureAddr, Sem.run_bind, Sem.run_pure, Result.andThen_ok, loadCm h]
  rfl
theorem cellsI3 : Tryz.prog.cellsOf 3 = 1 := by kernel_rfl
theorem cellsCm : Tryz.prog.cellsOf 26 = 9 := by kernel_rfl
/-- A command that came in. -/
theorem command_of_trod {H : Type} {enc : TypeId × Value → H} {W : World} {base : Nat} {v : Value} {d : DataW H} {p : List MemPlace}
    (hv : Value.okWide Tryz.prog W .any base 26 v) (h : DataW.Trod enc Tryz.prog W 0 (fun _ => true) true 26 v d p) : ∃ r, v = cmV r ∧ CmP W r := by
  obtain ⟨cs, rfl, hsz⟩ := okWide_struct Tryz.underlying26 hv
  obtain ⟨fuel, hf⟩ := h
  obtain ⟨xs, m, _, _, hlen, hxl, hf⟩ := DataW.trod_struct Tryz.underlying26 hf
  rw [cellsCm] at hlen
  simp only [Value.cells] at hlen hf
  obtain ⟨l⟩ := cs
  match l, hlen with
  | [c0, c1, c2, c3, c4, c5, c6, c7, c8], _ =>
    have hx7 : xs.length = 7 := hxl
    match xs, hx7 with
    | [x0, x1, x2, x3, x4, x5, x6], _ =>
      have h0 := hf 0 _ rfl
      have h1 := hf 1 _ rfl
      have h2 := hf 2 _ rfl
      have h3 := hf 3 _ rfl
      have h4 := hf 4 _ rfl
      have h5 := hf 5 _ rfl
      have h6 := hf 6 _ rfl
      simp only [List.getElem?_cons_zero, List.getElem?_cons_succ] at h0 h1 h2 h3 h4 h5 h6
      obtain ⟨k, e0, _⟩ := DataW.trod_int Tryz.underlying3 h0
      obtain ⟨s, e1, _, hs⟩ := DataW.trod_string Tryz.underlying9 h1
      obtain ⟨a, cap, ls, e2, hL, hl, hq⟩ := lns_cells_trod h2
      obtain ⟨g1, g2, g3, e3, q1, q2, q3⟩ := group_of_trod h3
      obtain ⟨t, e4, _⟩ := DataW.trod_int Tryz.underlying2 h4
      obtain ⟨n, e5, _⟩ := DataW.trod_int Tryz.underlying2 h5
      obtain ⟨y, e6, _⟩ := DataW.trod_bool Tryz.underlying4 h6
      simp [cells9, cellsI3, cells2, cellsB4, cellsLs, cellsGr] at e0 e1 e2 e3 e4 e5 e6
      obtain ⟨rfl, rfl, rfl⟩ := e3
      subst e0 e1 e2 e4 e5 e6
      exact ⟨⟨⟨k, s, ls, g1, g2, g3, t, n, y⟩, a, cap⟩, rfl, hL, hl, hs, q1, q2, q3⟩
end

/- SnRef: The document's answers of layer 16 on commands: the same, bare, right. -/
section
set_option maxRecDepth 100000
open Go.RowKit Go.ChangeShapes Go.WideShapes Go.ChangeAt
attribute [local go_sem ↓] ldCm stCm alCm bxCm bdCm
attribute [local go_sem] al_cm bx_cm st_cmnew bd_cm bd_cmKind

/-- Two commands in their variables. -/
structure TwCm (w : World) (r s : CmR) (W : World) : Prop where
  one : Row W w.heap.size 26 (cmC r)
  two : Row W (w.heap.size + 1) 26 (cmC s)
  st : CmP W r
  su : CmP W s
  low : Below w.heap.size w W
theorem TwCm.below {w W W' : World} {r s : CmR} (h : TwCm w r s W) (b : Below W.heap.size W W') : TwCm w r s W' := ⟨h.one.below b, h.two.below b, h.st.below b, h.su.below b, h.low.trans (b.mono h.low.size)⟩
theorem TwCm.begin (w : World) (r s : CmR) (h : CmP w r) (hs : CmP w s) : TwCm w r s ((w.alloc (.cells (cmC r) 26)).alloc (.cells (cmC s) 26)) := by
  have b1 : Below w.heap.size w (w.alloc (.cells (cmC r) 26)) := (Below.refl _ _).alloc (Nat.le_refl _) _
  have b2 : Below w.heap.size w ((w.alloc (.cells (cmC r) 26)).alloc (.cells (cmC s) 26)) := b1.alloc b1.size _
  refine ⟨(Row.new w _ _).more _, ?_, h.below b2, hs.below b2, b2⟩
  have := Row.new (w.alloc (.cells (cmC r) 26)) (cmC s) 26
  rwa [show (w.alloc (.cells (cmC r) 26)).heap.size = w.heap.size + 1 by show (w.heap.push _).size = _; rw [Array.size_push]] at this

attribute [local go_sem ↓] ldGr bxGr eqGr
attribute [local go_sem] bx_gr ne_gr eq_grX
end

/- SnKinds: The table of what a command of each kind has, as the program's text lays it; partsOf, isKind, fits, isGroup and asNumber of package snap. -/
section
set_option maxRecDepth 100000
open Go.RowKit Go.ChangeShapes Go.WideShapes Go.ChangeAt

section
variable (ev : Operand → Value) (d : Option Tmp) (ty : TypeId) (pos : String) (af : Array Edge) (gd : Option (Nat × Bool)) (w : World)
end
attribute [local go_sem ↓] ldPt stPt alPt bdPt
attribute [local go_sem] al_pt st_ptnew bd_pt

theorem fits_any (a b c : Bool) (w : World) : Calls Tryz.prog 34 #[.bool a, .bool b, .bool c] w (BoolSame (if a then b else c) w) := by
  cases a
  all_goals
    go_enter Tryz.func34, Tryz.ntmps34
    go_wp2_with fail
    go_ret
    exact ⟨rfl, rfl⟩
set_option maxHeartbeats 2000000 in
theorem snIsGroup_any (a b c : ByteArray) (w : World) (ha : a.size ≤ maxLen) (hb : b.size ≤ maxLen) (hc : c.size ≤ maxLen) : Calls Tryz.prog 37 #[.agg #[.string a, .string b, .string c]] w (Tell (groupB a b c) w) := by
  have C1 : Hid (∀ w, Calls Tryz.prog 35 #[.string a] w (Tell (rightT a) w)) := Lib.hid (fun w => right_any a w ha)
  have C2 : Hid (∀ w, Calls Tryz.prog 35 #[.string b] w (Tell (rightT b) w)) := Lib.hid (fun w => right_any b w hb)
  have C3 : Hid (∀ w, Calls Tryz.prog 35 #[.string c] w (Tell (rightT c) w)) := Lib.hid (fun w => right_any c w hc)
  have D := Lib.hid (GrB.new w a b c)
  have B := Lib.hid ((Below.refl w.heap.size w).alloc (Nat.le_refl _) (Obj.cells #[Value.string a, Value.string b, Value.string c] 24))
  have HE := Lib.hid (show groupB a b c = (rightT a && (rightT b && rightT c)) from rfl)
  clear ha hb hc
  go_enter Tryz.func37, Tryz.ntmps37
  go_wp2_with fail
  refine (C1.out _).mono ?_
  rintro e w1 ⟨rfl, b1⟩
  generalize w.alloc (Obj.cells #[Value.string a, Value.string b, Value.string c] 24) = W at *
  have D1 := Lib.hid (D.out.below b1)
  have B1 := Lib.hid (B.out.trans (b1.mono B.out.size))
  obtain ⟨c0, c1, c2⟩ := D1.out.cells
  clear b1
  cases h1 : rightT a with
  | false =>
    go_wp2_with fail
    go_ret
    exact ⟨by rw [HE.out, h1]; rfl, B1.out⟩
  | true =>
    go_wp2_with fail
    refine (C2.out _).mono ?_
    rintro e w2 ⟨rfl, b2⟩
    have D2 := Lib.hid (D1.out.below b2)
    have B2 := Lib.hid (B1.out.trans (b2.mono B1.out.size))
    clear c0 c1 c2 b2
    obtain ⟨c0, c1, c2⟩ := D2.out.cells
    cases h2 : rightT b with
    | false =>
      go_wp2_with fail
      go_ret
      exact ⟨by rw [HE.out, h1, h2]; rfl, B2.out⟩
    | true =>
      go_wp2_with fail
      refine (C3.out _).mono ?_
      rintro e w3 ⟨rfl, b3⟩
      have B3 := Lib.hid (B2.out.trans (b3.mono B2.out.size))
      clear c0 c1 c2 b3
      go_wp2_with fail
      go_ret
      exact ⟨by rw [HE.out, h1, h2]; rfl, B3.out⟩
end

/- SnPt: A command can be: part by part, by what its kind has. -/
section
set_option maxRecDepth 100000

/-- Right, part by part. -/
def partB (has right zero : Bool) : Bool := if has then right else zero
def idB (p : Pt) (c : Cm) : Bool := partB p.id (rightT c.id) (c.id.toList == [])
def lnB (p : Pt) (c : Cm) : Bool := partB p.ln (rightLB c.ls) (((c.ls.length : Nat) : Int) == 0)
def grB (p : Pt) (c : Cm) : Bool := partB p.gr (groupB c.car c.zone c.serv) (sameG c.car c.zone c.serv ⟨#[]⟩ ⟨#[]⟩ ⟨#[]⟩)
def totB (p : Pt) (c : Cm) : Bool := partB p.tot (tallyB c.total) (c.total == 0)
def numB (p : Pt) (c : Cm) : Bool := partB (decide (0 < p.most)) (decide (1 ≤ c.number) && decide (c.number ≤ p.most)) (c.number == 0)
def yesB (p : Pt) (c : Cm) : Bool := p.yes || !c.yes
def rtB (p : Pt) (c : Cm) : Bool := cmdB c.kind && (idB p c && (lnB p c && (grB p c && (totB p c && (numB p c && yesB p c)))))
theorem str_empty (s : ByteArray) : (s.toList == []) = s.toList.isEmpty := by cases s.toList <;> rfl
theorem str_nil (s : ByteArray) : (s.toList == []) = true ↔ s = ⟨#[]⟩ := by
  have := toList_iff s ⟨#[]⟩
  rwa [show (⟨#[]⟩ : ByteArray).toList = [] from by decide +kernel] at this
theorem sameG_none (a b c : ByteArray) : sameG a b c ⟨#[]⟩ ⟨#[]⟩ ⟨#[]⟩ = true ↔ a = ⟨#[]⟩ ∧ b = ⟨#[]⟩ ∧ c = ⟨#[]⟩ := by
  simp only [sameG, Bool.and_eq_true, toList_iff]
theorem lenP (l : List Ln) : ((l.length : Nat) : Int) = 0 ↔ l = [] := by
  rw [← List.length_eq_zero_iff]
  omega
theorem strP (s : ByteArray) : s.toList = [] ↔ s = ⟨#[]⟩ := by rw [← str_nil, beq_iff_eq]
theorem right_parts (c : Cm) : rightC c = rtB (ptOf c.kind) c := by
  by_cases hk : 1 ≤ c.kind ∧ c.kind ≤ 8
  · rw [Bool.eq_iff_iff]
    unfold rightC
    rw [Bool.and_eq_true, sameCm_iff]
    obtain ⟨k, id, ls, car, zone, serv, tot, num, yes⟩ := c
    have hkk : k = 1 ∨ k = 2 ∨ k = 8 ∨ k = 3 ∨ k = 4 ∨ k = 5 ∨ k = 6 ∨ k = 7 := by
      have : 1 ≤ k ∧ k ≤ 8 := hk
      omega
    clear hk
    simp only [rtB, idB, lnB, grB, totB, numB, yesB, Bool.and_eq_true]
    rcases hkk with rfl | rfl | rfl | rfl | rfl | rfl | rfl | rfl
    all_goals simp only [bareC, fitsC, ptOf, partB, cmdB, Bool.and_eq_true, Cm.mk.injEq, sameG_none, beq_iff_eq, decide_eq_true_eq, aboveB_iff, Int.reduceEq, if_true, if_false, or_self, true_or, or_true, Int.reduceLT, Int.reduceLE, decide_true, decide_false, Bool.false_eq_true, Bool.true_or, Bool.false_or, Bool.not_eq_true', true_and, and_true, lenP, strP, and_assoc]
    all_goals constructor <;> intro h <;> simp_all only [and_self]
  · have h1 : rightC c = false := by
      cases h : rightC c with
      | false => rfl
      | true => exact absurd (rightC_kind h) hk
    have h2 : cmdB c.kind = false := by simpa [cmdB] using hk
    rw [h1, rtB, h2, Bool.false_and]
end

/- SnRight: What Right and Same of package snap answer. -/
section
set_option maxRecDepth 100000
open Go.RowKit Go.ChangeShapes Go.WideShapes Go.ChangeAt
attribute [local go_sem ↓] ldCm stCm alCm bxCm bdCm ldGr bxGr eqGr ldPt stPt alPt bdPt
attribute [local go_sem] al_cm bx_cm st_cmnew bd_cm bd_cmKind bx_gr ne_gr eq_grX al_pt st_ptnew bd_pt

set_option maxHeartbeats 4000000 in
theorem cmSame0 (r s : CmR) (w : World) (h : CmP w r) (hs : CmP w s) : Calls Tryz.prog 15 #[cmV r, cmV s] w (Tell (sameCm r.m s.m) w) := by
  have I := Lib.hid (TwCm.begin w r s h hs)
  have HE := Lib.hid (show sameCm r.m s.m = ((r.m.kind == s.m.kind) && ((r.m.id.toList == s.m.id.toList) && (sameL r.m.ls s.m.ls && (sameG r.m.car r.m.zone r.m.serv s.m.car s.m.zone s.m.serv && ((r.m.total == s.m.total) && ((r.m.number == s.m.number) && (r.m.yes == s.m.yes))))))) from rfl)
  generalize sameCm r.m s.m = res at *
  have hl := h.len
  have hls := hs.len
  obtain ⟨⟨c0, c1, c2, c3, c4⟩, c5, c6, c7, c8⟩ := I.out.one.m
  obtain ⟨⟨d0, d1, d2, d3, d4⟩, d5, d6, d7, d8⟩ := I.out.two.m
  clear h hs
  go_enter Tryz.func15, Tryz.ntmps15
  cases k1 : (r.m.kind == s.m.kind) with
  | false =>
    have HX := Lib.hid (show res = false by rw [HE.out]; simp only [k1, Bool.false_and])
    go_wp2_with fail
    go_ret
    exact ⟨by rw [HX.out]; try rfl, I.out.low⟩
  | true =>
    cases k2 : (r.m.id.toList == s.m.id.toList) with
    | false =>
      have HX := Lib.hid (show res = false by rw [HE.out]; simp only [k1, k2, Bool.true_and, Bool.false_and])
      go_wp2_with fail
      go_ret
      exact ⟨by rw [HX.out]; try rfl, I.out.low⟩
    | true =>
      go_wp2_with fail
      generalize (w.alloc (.cells (cmC r) 26)).alloc (.cells (cmC s) 26) = W0 at *
      have C := Lib.hid (equalL_any r.a s.a r.c s.c r.m.ls s.m.ls W0 I.out.st.lns I.out.su.lns hl hls)
      refine C.out.mono ?_
      rintro e W4 ⟨rfl, b1⟩
      replace I := Lib.hid (I.out.below b1)
      clear C b1 c0 c1 c2 c3 c4 c5 c6 c7 c8 d0 d1 d2 d3 d4 d5 d6 d7 d8
      obtain ⟨⟨_, _, _, c3, c4⟩, c5, c6, c7, c8⟩ := I.out.one.m
      obtain ⟨⟨_, _, _, d3, d4⟩, d5, d6, d7, d8⟩ := I.out.two.m
      have g1 := ld_grAt c3 c4 c5
      have g2 := ld_grAt d3 d4 d5
      clear c3 c4 c5 d3 d4 d5
      cases k3 : sameL r.m.ls s.m.ls with
      | false =>
        have HX := Lib.hid (show res = false by rw [HE.out]; simp only [k1, k2, k3, Bool.true_and, Bool.false_and])
        go_wp2_with fail
        go_ret
        exact ⟨by rw [HX.out]; try rfl, I.out.low⟩
      | true =>
        cases k4 : sameG r.m.car r.m.zone r.m.serv s.m.car s.m.zone s.m.serv with
        | false =>
          have HX := Lib.hid (show res = false by rw [HE.out]; simp only [k1, k2, k3, k4, Bool.true_and, Bool.false_and])
          go_wp2_with fail
          go_ret
          exact ⟨by rw [HX.out]; try rfl, I.out.low⟩
        | true =>
          cases k5 : (r.m.total == s.m.total) with
          | false =>
            have HX := Lib.hid (show res = false by rw [HE.out]; simp only [k1, k2, k3, k4, k5, Bool.true_and, Bool.false_and])
            go_wp2_with fail
            go_ret
            exact ⟨by rw [HX.out]; try rfl, I.out.low⟩
          | true =>
            cases k6 : (r.m.number == s.m.number) with
            | false =>
              have HX := Lib.hid (show res = false by rw [HE.out]; simp only [k1, k2, k3, k4, k5, k6, Bool.true_and, Bool.false_and])
              go_wp2_with fail
              go_ret
              exact ⟨by rw [HX.out]; try rfl, I.out.low⟩
            | true =>
              cases k7 : (r.m.yes == s.m.yes) with
              | false =>
                have HX := Lib.hid (show res = false by rw [HE.out]; simp only [k1, k2, k3, k4, k5, k6, k7, Bool.true_and])
                go_wp2_with fail
                go_ret
                exact ⟨by rw [HX.out]; try rfl, I.out.low⟩
              | true =>
                have HX := Lib.hid (show res = true by rw [HE.out]; simp only [k1, k2, k3, k4, k5, k6, k7, Bool.true_and])
                go_wp2_with fail
                go_ret
                exact ⟨by rw [HX.out]; try rfl, I.out.low⟩



section
variable (ev : Operand → Value) (d : Option Tmp) (ty : TypeId) (pos : String) (af : Array Edge) (gd : Option (Nat × Bool)) (w : World)
end
attribute [local go_sem ↓] bdGr
attribute [local go_sem] bd_gr

/-- A command in its variable, what its kind has in another. -/
structure RgI (w : World) (r : CmR) (g : Nat) (p : Pt) (W : World) : Prop where
  one : Row W w.heap.size 26 (cmC r)
  pt : Row W g 61 (ptC p)
  st : CmP W r
  low : Below w.heap.size w W
theorem RgI.below {w W W' : World} {r : CmR} {g : Nat} {p : Pt} (h : RgI w r g p W) (b : Below W.heap.size W W') : RgI w r g p W' := ⟨h.one.below b, h.pt.below b, h.st.below b, h.low.trans (b.mono h.low.size)⟩
theorem fits_at (a b c : Bool) (w : World) : Calls Tryz.prog 34 #[.bool a, .bool b, .bool c] w (BoolSame (partB a b c) w) := fits_any a b c w

set_option maxHeartbeats 16000000 in
theorem cmRight0 (r : CmR) (w : World) (hk : KdAt w) (h : CmP w r) : Calls Tryz.prog 13 #[cmV r] w (Tell (rightC r.m) w) := by
  have HE := Lib.hid (right_parts r.m)
  generalize rightC r.m = res at *
  have b0 := (Below.refl w.heap.size w).alloc (Nat.le_refl _) (.cells (cmC r) 26)
  have C0 := Lib.hid (partsOf_any r.m.kind _ (hk.below b0))
  have R0 := Lib.hid (Row.new w (cmC r) 26)
  have P0 := Lib.hid (h.below b0)
  have B0 := Lib.hid b0
  have CI := Lib.hid (fun w => right_any r.m.id w h.id)
  have CG := Lib.hid (fun w => show Calls Tryz.prog 37 #[grV r.m.car r.m.zone r.m.serv] w (Tell (groupB r.m.car r.m.zone r.m.serv) w) from snIsGroup_any r.m.car r.m.zone r.m.serv w h.car h.zone h.serv)
  have c0 := R0.out.m.1.1
  clear b0 hk h
  go_enter Tryz.func13, Tryz.ntmps13
  go_wp2_with fail
  generalize w.alloc (.cells (cmC r) 26) = W0 at *
  refine C0.out.mono ?_
  rintro e w1 ⟨rfl, b1⟩
  generalize ptOf r.m.kind = p at *
  have I : Hid (RgI w r w1.heap.size p (w1.alloc (.cells (ptC p) 61))) := Lib.hid (by
    have b := (Below.refl w1.heap.size w1).alloc (Nat.le_refl _) (.cells (ptC p) 61)
    have b2 := B0.out.trans (b1.mono B0.out.size)
    exact ⟨(R0.out.below b1).below b, Row.new _ _ _, (P0.out.below b1).below b, b2.trans (b.mono b2.size)⟩)
  clear b1 R0 P0 B0 C0 c0
  have CK := Lib.hid (fun w => isKind_any r.m.kind w)
  obtain ⟨t1, ht1⟩ : ∃ t, rightT r.m.id = t := ⟨_, rfl⟩
  obtain ⟨t2, ht2⟩ : ∃ t, rightLB r.m.ls = t := ⟨_, rfl⟩
  obtain ⟨t3, ht3⟩ : ∃ t, groupB r.m.car r.m.zone r.m.serv = t := ⟨_, rfl⟩
  obtain ⟨t4, ht4⟩ : ∃ t, tallyB r.m.total = t := ⟨_, rfl⟩
  obtain ⟨z1, hz1⟩ : ∃ z, r.m.id.toList.isEmpty = z := ⟨_, rfl⟩
  obtain ⟨z2, hz2⟩ : ∃ z, (((r.m.ls.length : Nat) : Int) == 0) = z := ⟨_, rfl⟩
  obtain ⟨z3, hz3⟩ : ∃ z, sameG r.m.car r.m.zone r.m.serv ⟨#[]⟩ ⟨#[]⟩ ⟨#[]⟩ = z := ⟨_, rfl⟩
  obtain ⟨z4, hz4⟩ : ∃ z, (r.m.total == 0) = z := ⟨_, rfl⟩
  obtain ⟨z5, hz5⟩ : ∃ z, (r.m.number == 0) = z := ⟨_, rfl⟩
  obtain ⟨d1, hd1⟩ : ∃ z, decide (0 < p.most) = z := ⟨_, rfl⟩
  obtain ⟨d2, hd2⟩ : ∃ z, decide (1 ≤ r.m.number) = z := ⟨_, rfl⟩
  obtain ⟨d3, hd3⟩ : ∃ z, decide (r.m.number ≤ p.most) = z := ⟨_, rfl⟩
  simp only [rtB, idB, lnB, grB, totB, numB, yesB, str_empty, ht1, ht2, ht3, ht4, hz1, hz2, hz3, hz4, hz5, hd1, hd2, hd3] at HE
  have CI : Hid (∀ w, Calls Tryz.prog 35 #[.string r.m.id] w (Tell t1 w)) := Lib.hid (fun w => by rw [← ht1]; exact CI.out w)
  have CG : Hid (∀ w, Calls Tryz.prog 37 #[grV r.m.car r.m.zone r.m.serv] w (Tell t3 w)) := Lib.hid (fun w => by rw [← ht3]; exact CG.out w)
  go_wp2_with fail
  generalize w1.alloc (.cells (ptC p) 61) = W at *
  generalize w1.heap.size = g at *
  have f0 := far_cell I.out.one.lt I.out.one.m.1.1
  have f1 := far_cell I.out.one.lt I.out.one.m.1.2.1
  have f2 := far_cell I.out.one.lt I.out.one.m.1.2.2.1
  have f6 := far_cell I.out.one.lt I.out.one.m.2.2.1
  have f7 := far_cell I.out.one.lt I.out.one.m.2.2.2.1
  have f8 := far_cell I.out.one.lt I.out.one.m.2.2.2.2
  have q0 := far_cell I.out.pt.lt I.out.pt.pt.1
  have q1 := far_cell I.out.pt.lt I.out.pt.pt.2.1
  have q2 := far_cell I.out.pt.lt I.out.pt.pt.2.2.1
  have q3 := far_cell I.out.pt.lt I.out.pt.pt.2.2.2.1
  have q4 := far_cell I.out.pt.lt I.out.pt.pt.2.2.2.2.1
  have q5 := far_cell I.out.pt.lt I.out.pt.pt.2.2.2.2.2
  have fg : ∀ z : Far W, LdX 24 (.pointer (some ⟨w.heap.size, 3, none⟩)) (farOf W z) = .ok (.value (grV r.m.car r.m.zone r.m.serv)) (farOf W z) := fun z => ld_grAt (far_cell I.out.one.lt I.out.one.m.1.2.2.2.1 z) (far_cell I.out.one.lt I.out.one.m.1.2.2.2.2 z) (far_cell I.out.one.lt I.out.one.m.2.1 z)
  have CL : Hid (∀ z : Far W, Calls Tryz.prog 36 #[.slice r.a r.m.ls.length r.c] (farOf W z) (Tell t2 (farOf W z))) := Lib.hid (fun z => by rw [← ht2]; exact right14_any r.a r.c r.m.ls _ (I.out.below (far_below W z)).st.lns I.out.st.len)
  have CT : Hid (∀ w, Calls Tryz.prog 38 #[.int .i64 r.m.total] w (BoolSame t4 w)) := Lib.hid (fun w => by rw [← ht4]; exact tally_any r.m.total w)
  clear ht1 ht2 ht3 ht4
  simp only [List.append_eq, List.cons_append, List.nil_append]
  refine wp_region_far (by kernel_rfl) (by kernel_rfl) ?_
  cases k0 : cmdB r.m.kind with
  | false =>
    rw [k0] at CK
    have HX := Lib.hid (show res = false by rw [HE.out]; simp only [k0, Bool.false_and]; try rfl)
    repeat (first | go_big_quiet_step (first | (go_at_call 34; with_reducible exact calls_far_same (fits_at _ _ _ _)) | (go_at_call 33; exact calls_far_same (CK.out _)) | (go_at_call 35; exact calls_far (CI.out _)) | (go_at_call 36; exact calls_far (CL.out _)) | (go_at_call 37; exact calls_far (CG.out _)) | (go_at_call 38; exact calls_far_same (CT.out _))) | quiet_step (first | (go_at_call 34; with_reducible exact calls_far_same (fits_at _ _ _ _)) | (go_at_call 33; exact calls_far_same (CK.out _)) | (go_at_call 35; exact calls_far (CI.out _)) | (go_at_call 36; exact calls_far (CL.out _)) | (go_at_call 37; exact calls_far (CG.out _)) | (go_at_call 38; exact calls_far_same (CT.out _))))
    refine wpQuiet_nil ?_
    intro _ hw'
    obtain ⟨z, hw''⟩ := hw'
    subst hw''
    go_wp2_with fail
    go_ret
    exact ⟨by rw [HX.out]; try rfl, (I.out.below (far_below W z)).low⟩
  | true =>
    rw [k0] at CK
    cases k1 : partB p.id t1 z1 with
    | false =>
      have HX := Lib.hid (show res = false by rw [HE.out]; simp only [k0, k1, Bool.true_and, Bool.false_and]; try rfl)
      repeat (first | go_big_quiet_step (first | (go_at_call 34; with_reducible exact calls_far_same (fits_at _ _ _ _)) | (go_at_call 33; exact calls_far_same (CK.out _)) | (go_at_call 35; exact calls_far (CI.out _)) | (go_at_call 36; exact calls_far (CL.out _)) | (go_at_call 37; exact calls_far (CG.out _)) | (go_at_call 38; exact calls_far_same (CT.out _))) | quiet_step (first | (go_at_call 34; with_reducible exact calls_far_same (fits_at _ _ _ _)) | (go_at_call 33; exact calls_far_same (CK.out _)) | (go_at_call 35; exact calls_far (CI.out _)) | (go_at_call 36; exact calls_far (CL.out _)) | (go_at_call 37; exact calls_far (CG.out _)) | (go_at_call 38; exact calls_far_same (CT.out _))))
      refine wpQuiet_nil ?_
      intro _ hw'
      obtain ⟨z, hw''⟩ := hw'
      subst hw''
      go_wp2_with fail
      go_ret
      exact ⟨by rw [HX.out]; try rfl, (I.out.below (far_below W z)).low⟩
    | true =>
      cases k2 : partB p.ln t2 z2 with
      | false =>
        have HX := Lib.hid (show res = false by rw [HE.out]; simp only [k0, k1, k2, Bool.true_and, Bool.false_and]; try rfl)
        repeat (first | go_big_quiet_step (first | (go_at_call 34; with_reducible exact calls_far_same (fits_at _ _ _ _)) | (go_at_call 33; exact calls_far_same (CK.out _)) | (go_at_call 35; exact calls_far (CI.out _)) | (go_at_call 36; exact calls_far (CL.out _)) | (go_at_call 37; exact calls_far (CG.out _)) | (go_at_call 38; exact calls_far_same (CT.out _))) | quiet_step (first | (go_at_call 34; with_reducible exact calls_far_same (fits_at _ _ _ _)) | (go_at_call 33; exact calls_far_same (CK.out _)) | (go_at_call 35; exact calls_far (CI.out _)) | (go_at_call 36; exact calls_far (CL.out _)) | (go_at_call 37; exact calls_far (CG.out _)) | (go_at_call 38; exact calls_far_same (CT.out _))))
        refine wpQuiet_nil ?_
        intro _ hw'
        obtain ⟨z, hw''⟩ := hw'
        subst hw''
        go_wp2_with fail
        go_ret
        exact ⟨by rw [HX.out]; try rfl, (I.out.below (far_below W z)).low⟩
      | true =>
        cases k3 : partB p.gr t3 z3 with
        | false =>
          have HX := Lib.hid (show res = false by rw [HE.out]; simp only [k0, k1, k2, k3, Bool.true_and, Bool.false_and]; try rfl)
          repeat (first | go_big_quiet_step (first | (go_at_call 34; with_reducible exact calls_far_same (fits_at _ _ _ _)) | (go_at_call 33; exact calls_far_same (CK.out _)) | (go_at_call 35; exact calls_far (CI.out _)) | (go_at_call 36; exact calls_far (CL.out _)) | (go_at_call 37; exact calls_far (CG.out _)) | (go_at_call 38; exact calls_far_same (CT.out _))) | quiet_step (first | (go_at_call 34; with_reducible exact calls_far_same (fits_at _ _ _ _)) | (go_at_call 33; exact calls_far_same (CK.out _)) | (go_at_call 35; exact calls_far (CI.out _)) | (go_at_call 36; exact calls_far (CL.out _)) | (go_at_call 37; exact calls_far (CG.out _)) | (go_at_call 38; exact calls_far_same (CT.out _))))
          refine wpQuiet_nil ?_
          intro _ hw'
          obtain ⟨z, hw''⟩ := hw'
          subst hw''
          go_wp2_with fail
          go_ret
          exact ⟨by rw [HX.out]; try rfl, (I.out.below (far_below W z)).low⟩
        | true =>
          cases k4 : partB p.tot t4 z4 with
          | false =>
            have HX := Lib.hid (show res = false by rw [HE.out]; simp only [k0, k1, k2, k3, k4, Bool.true_and, Bool.false_and]; try rfl)
            repeat (first | go_big_quiet_step (first | (go_at_call 34; with_reducible exact calls_far_same (fits_at _ _ _ _)) | (go_at_call 33; exact calls_far_same (CK.out _)) | (go_at_call 35; exact calls_far (CI.out _)) | (go_at_call 36; exact calls_far (CL.out _)) | (go_at_call 37; exact calls_far (CG.out _)) | (go_at_call 38; exact calls_far_same (CT.out _))) | quiet_step (first | (go_at_call 34; with_reducible exact calls_far_same (fits_at _ _ _ _)) | (go_at_call 33; exact calls_far_same (CK.out _)) | (go_at_call 35; exact calls_far (CI.out _)) | (go_at_call 36; exact calls_far (CL.out _)) | (go_at_call 37; exact calls_far (CG.out _)) | (go_at_call 38; exact calls_far_same (CT.out _))))
            refine wpQuiet_nil ?_
            intro _ hw'
            obtain ⟨z, hw''⟩ := hw'
            subst hw''
            go_wp2_with fail
            go_ret
            exact ⟨by rw [HX.out]; try rfl, (I.out.below (far_below W z)).low⟩
          | true =>
            cases d2 with
            | false =>
              cases k5 : partB d1 false z5 with
              | false =>
                have HX := Lib.hid (show res = false by rw [HE.out]; simp only [k0, k1, k2, k3, k4, k5, Bool.true_and, Bool.false_and]; try rfl)
                repeat (first | go_big_quiet_step (first | (go_at_call 34; with_reducible exact calls_far_same (fits_at _ _ _ _)) | (go_at_call 33; exact calls_far_same (CK.out _)) | (go_at_call 35; exact calls_far (CI.out _)) | (go_at_call 36; exact calls_far (CL.out _)) | (go_at_call 37; exact calls_far (CG.out _)) | (go_at_call 38; exact calls_far_same (CT.out _))) | quiet_step (first | (go_at_call 34; with_reducible exact calls_far_same (fits_at _ _ _ _)) | (go_at_call 33; exact calls_far_same (CK.out _)) | (go_at_call 35; exact calls_far (CI.out _)) | (go_at_call 36; exact calls_far (CL.out _)) | (go_at_call 37; exact calls_far (CG.out _)) | (go_at_call 38; exact calls_far_same (CT.out _))))
                refine wpQuiet_nil ?_
                intro _ hw'
                obtain ⟨z, hw''⟩ := hw'
                subst hw''
                go_wp2_with fail
                go_ret
                exact ⟨by rw [HX.out]; try rfl, (I.out.below (far_below W z)).low⟩
              | true =>
                cases k6 : p.yes with
                | true =>
                  have HX := Lib.hid (show res = true by rw [HE.out]; simp only [k0, k1, k2, k3, k4, k5, k6, Bool.true_or, Bool.true_and, Bool.false_and]; try rfl)
                  repeat (first | go_big_quiet_step (first | (go_at_call 34; with_reducible exact calls_far_same (fits_at _ _ _ _)) | (go_at_call 33; exact calls_far_same (CK.out _)) | (go_at_call 35; exact calls_far (CI.out _)) | (go_at_call 36; exact calls_far (CL.out _)) | (go_at_call 37; exact calls_far (CG.out _)) | (go_at_call 38; exact calls_far_same (CT.out _))) | quiet_step (first | (go_at_call 34; with_reducible exact calls_far_same (fits_at _ _ _ _)) | (go_at_call 33; exact calls_far_same (CK.out _)) | (go_at_call 35; exact calls_far (CI.out _)) | (go_at_call 36; exact calls_far (CL.out _)) | (go_at_call 37; exact calls_far (CG.out _)) | (go_at_call 38; exact calls_far_same (CT.out _))))
                  refine wpQuiet_nil ?_
                  intro _ hw'
                  obtain ⟨z, hw''⟩ := hw'
                  subst hw''
                  go_wp2_with fail
                  go_ret
                  exact ⟨by rw [HX.out]; try rfl, (I.out.below (far_below W z)).low⟩
                | false =>
                  have HX := Lib.hid (show res = (!r.m.yes) by rw [HE.out]; simp only [k0, k1, k2, k3, k4, k5, k6, Bool.false_or, Bool.true_and, Bool.false_and]; try rfl)
                  repeat (first | go_big_quiet_step (first | (go_at_call 34; with_reducible exact calls_far_same (fits_at _ _ _ _)) | (go_at_call 33; exact calls_far_same (CK.out _)) | (go_at_call 35; exact calls_far (CI.out _)) | (go_at_call 36; exact calls_far (CL.out _)) | (go_at_call 37; exact calls_far (CG.out _)) | (go_at_call 38; exact calls_far_same (CT.out _))) | quiet_step (first | (go_at_call 34; with_reducible exact calls_far_same (fits_at _ _ _ _)) | (go_at_call 33; exact calls_far_same (CK.out _)) | (go_at_call 35; exact calls_far (CI.out _)) | (go_at_call 36; exact calls_far (CL.out _)) | (go_at_call 37; exact calls_far (CG.out _)) | (go_at_call 38; exact calls_far_same (CT.out _))))
                  refine wpQuiet_nil ?_
                  intro _ hw'
                  obtain ⟨z, hw''⟩ := hw'
                  subst hw''
                  go_wp2_with fail
                  go_ret
                  exact ⟨by rw [HX.out]; try rfl, (I.out.below (far_below W z)).low⟩
            | true =>
              cases k5 : partB d1 d3 z5 with
              | false =>
                have HX := Lib.hid (show res = false by rw [HE.out]; simp only [k0, k1, k2, k3, k4, k5, Bool.true_and, Bool.false_and]; try rfl)
                repeat (first | go_big_quiet_step (first | (go_at_call 34; with_reducible exact calls_far_same (fits_at _ _ _ _)) | (go_at_call 33; exact calls_far_same (CK.out _)) | (go_at_call 35; exact calls_far (CI.out _)) | (go_at_call 36; exact calls_far (CL.out _)) | (go_at_call 37; exact calls_far (CG.out _)) | (go_at_call 38; exact calls_far_same (CT.out _))) | quiet_step (first | (go_at_call 34; with_reducible exact calls_far_same (fits_at _ _ _ _)) | (go_at_call 33; exact calls_far_same (CK.out _)) | (go_at_call 35; exact calls_far (CI.out _)) | (go_at_call 36; exact calls_far (CL.out _)) | (go_at_call 37; exact calls_far (CG.out _)) | (go_at_call 38; exact calls_far_same (CT.out _))))
                refine wpQuiet_nil ?_
                intro _ hw'
                obtain ⟨z, hw''⟩ := hw'
                subst hw''
                go_wp2_with fail
                go_ret
                exact ⟨by rw [HX.out]; try rfl, (I.out.below (far_below W z)).low⟩
              | true =>
                cases k6 : p.yes with
                | true =>
                  have HX := Lib.hid (show res = true by rw [HE.out]; simp only [k0, k1, k2, k3, k4, k5, k6, Bool.true_or, Bool.true_and]; try rfl)
                  repeat (first | go_big_quiet_step (first | (go_at_call 34; with_reducible exact calls_far_same (fits_at _ _ _ _)) | (go_at_call 33; exact calls_far_same (CK.out _)) | (go_at_call 35; exact calls_far (CI.out _)) | (go_at_call 36; exact calls_far (CL.out _)) | (go_at_call 37; exact calls_far (CG.out _)) | (go_at_call 38; exact calls_far_same (CT.out _))) | quiet_step (first | (go_at_call 34; with_reducible exact calls_far_same (fits_at _ _ _ _)) | (go_at_call 33; exact calls_far_same (CK.out _)) | (go_at_call 35; exact calls_far (CI.out _)) | (go_at_call 36; exact calls_far (CL.out _)) | (go_at_call 37; exact calls_far (CG.out _)) | (go_at_call 38; exact calls_far_same (CT.out _))))
                  refine wpQuiet_nil ?_
                  intro _ hw'
                  obtain ⟨z, hw''⟩ := hw'
                  subst hw''
                  go_wp2_with fail
                  go_ret
                  exact ⟨by rw [HX.out]; try rfl, (I.out.below (far_below W z)).low⟩
                | false =>
                  have HX := Lib.hid (show res = (!r.m.yes) by rw [HE.out]; simp only [k0, k1, k2, k3, k4, k5, k6, Bool.false_or, Bool.true_and]; try rfl)
                  repeat (first | go_big_quiet_step (first | (go_at_call 34; with_reducible exact calls_far_same (fits_at _ _ _ _)) | (go_at_call 33; exact calls_far_same (CK.out _)) | (go_at_call 35; exact calls_far (CI.out _)) | (go_at_call 36; exact calls_far (CL.out _)) | (go_at_call 37; exact calls_far (CG.out _)) | (go_at_call 38; exact calls_far_same (CT.out _))) | quiet_step (first | (go_at_call 34; with_reducible exact calls_far_same (fits_at _ _ _ _)) | (go_at_call 33; exact calls_far_same (CK.out _)) | (go_at_call 35; exact calls_far (CI.out _)) | (go_at_call 36; exact calls_far (CL.out _)) | (go_at_call 37; exact calls_far (CG.out _)) | (go_at_call 38; exact calls_far_same (CT.out _))))
                  refine wpQuiet_nil ?_
                  intro _ hw'
                  obtain ⟨z, hw''⟩ := hw'
                  subst hw''
                  go_wp2_with fail
                  go_ret
                  exact ⟨by rw [HX.out]; try rfl, (I.out.below (far_below W z)).low⟩
end

/- SnCon: What package snap's calls answer, as the laws want it; the laws' example. -/
section
set_option maxRecDepth 100000
open Go.RowKit Go.ChangeShapes Go.WideShapes Go.ChangeAt
attribute [local go_sem ↓] ldCm stCm alCm bxCm bdCm ldSt stSt alSt bxSt bdSt ldCa bxCa eqCa
attribute [local go_sem] al_cm bx_cm st_cmnew bd_cm bd_cmKind al_sta bx_sta st_stnew bd_sta

def CmRightC : Prop := ∀ (r : CmR) (w : World), KdAt w → CmP w r → Calls Tryz.prog 13 #[cmV r] w (Tell (rightC r.m) w)
def CmSameC : Prop := ∀ (r s : CmR) (w : World), CmP w r → CmP w s → Calls Tryz.prog 15 #[cmV r, cmV s] w (Tell (sameCm r.m s.m) w)
theorem commandL_len {c : Cm} (h : rightC c = true) : (commandL c).length ≤ 2000 := by
  obtain ⟨h1, h2⟩ := rightC_of h
  have hk := rightC_kind h
  have t0 := numL_ten (show c.kind.toNat < 18446744073709551616 by omega)
  unfold commandL restL
  unfold fitsC at h2
  rw [List.length_append]
  split
  · rename_i e
    rw [if_pos e] at h2
    simp only [Bool.and_eq_true, tallyB, decide_eq_true_eq] at h2
    obtain ⟨i1, i2, i3, i4⟩ := h2
    obtain ⟨g1, g2, g3⟩ := groupB_of i3
    obtain ⟨⟨_, k8⟩, k9, _⟩ := (rightLB_iff _).1 i2
    have t1 := textL_32 (right_32 i1)
    have t2 := textL_32 (right_32 g1)
    have t3 := textL_32 (right_32 g2)
    have t4 := textL_32 (right_32 g3)
    have t5 := linesL_len _ k9
    have t6 := numL_ten (show c.ls.length < 18446744073709551616 by omega)
    have t7 := numL_ten (show c.total.toNat < 18446744073709551616 by omega)
    simp only [List.length_append]
    omega
  · rename_i e
    rw [if_neg e] at h2
    split
    · rename_i e2
      rw [if_pos e2] at h2
      have t1 := textL_32 (right_32 h2)
      omega
    · rename_i e2
      rw [if_neg e2] at h2
      split
      · rename_i e3
        rw [if_pos e3] at h2
        simp only [Bool.and_eq_true] at h2
        obtain ⟨g1, g2, g3⟩ := groupB_of h2.2
        have t1 := textL_32 (right_32 h2.1)
        have t2 := textL_32 (right_32 g1)
        have t3 := textL_32 (right_32 g2)
        have t4 := textL_32 (right_32 g3)
        simp only [List.length_append]
        omega
      · rename_i e3
        rw [if_neg e3] at h2
        split
        · rename_i e4
          rw [if_pos e4] at h2
          simp only [decide_eq_true_eq] at h2
          have t1 := numL_ten (show c.number.toNat < 18446744073709551616 by omega)
          omega
        · rename_i e4
          rw [if_neg e4] at h2
          split
          · rename_i e5
            rw [if_pos e5] at h2
            have h3 := (aboveB_iff _).1 h2
            have t1 := numL_ten (show c.number.toNat < 18446744073709551616 by omega)
            have t2 := givenN_le c.yes
            have t3 := numL_ten (show givenN c.yes < 18446744073709551616 by omega)
            simp only [List.length_append]
            omega
          · simp only [List.length_nil]
            omega
end

end Go.Proofs.YtfmpibmhhfmajaaGreatDoor
