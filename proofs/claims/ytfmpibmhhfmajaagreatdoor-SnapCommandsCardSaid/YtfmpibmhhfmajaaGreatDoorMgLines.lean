/- Lines, and what comes in. -/
import Derived.Test.YtfmpibmhhfmajaaGreatDoorPLb
import Derived.Test.YtfmpibmhhfmajaaGreatDoorMgBase
import Derived.WalkKit
import Derived.WalkSpells
import Derived.ProofKit
import Derived.Below
import Derived.IntWalk
import Derived.Lib.Hide
import Derived.Laws.StructEq
import Derived.Deep.QuietTactic
import Derived.BigQuiet
import Derived.Test.YtfmpibmhhfmajaaGreatDoorRows
import Derived.OpenShut
import Derived.ChangeSlices
import Derived.Deep.Slices
import Derived.Deep.Strs
import Derived.Lib.SmallJoins
import Derived.Test.YtfmpibmhhfmajaaGreatDoorPSl
namespace Go.Proofs.YtfmpibmhhfmajaaGreatDoor
/- LnPlain: Plain facts on lines, as lists: which can be, each thing once, without some pieces: no program is walked here. -/
section
/-- A line: what it is called, how many pieces, how heavy one is. -/
structure Ln where
  sku : ByteArray
  qty : Int
  wt : Int

def kcmp (a b : ByteArray) : Int := cmpL a.data.toList b.data.toList

theorem kcmp_swap (a b : ByteArray) : kcmp b a = - kcmp a b := cmpL_swap _ _
theorem kcmp_zero (a b : ByteArray) : kcmp a b = 0 ↔ a = b := by
  unfold kcmp
  rw [cmpL_zero]
  constructor
  · intro h
    cases a; cases b
    simp only at h
    rw [Array.toList_inj] at h
    rw [h]
  · rintro rfl; rfl
theorem kcmp_self (a : ByteArray) : kcmp a a = 0 := (kcmp_zero a a).2 rfl
theorem kcmp_trans {a b c : ByteArray} (h1 : kcmp a b < 0) (h2 : kcmp b c < 0) : kcmp a c < 0 := by
  have h := cmpL_trans _ _ _ (Int.le_of_lt h1) (Int.le_of_lt h2)
  rcases Int.lt_or_eq_of_le h with h | h
  · exact h
  · have := (kcmp_zero a c).1 h
    subst this
    have := kcmp_swap a b
    omega

def lineB (x : Ln) : Bool := rightB x.sku.data.toList && decide (1 ≤ x.qty ∧ x.qty ≤ 1000 ∧ 0 ≤ x.wt ∧ x.wt ≤ 100000)
theorem lineB_of {x : Ln} (h : lineB x = true) : rightB x.sku.data.toList = true ∧ 1 ≤ x.qty ∧ x.qty ≤ 1000 ∧ 0 ≤ x.wt ∧ x.wt ≤ 100000 := by simpa [lineB] using h
def klt (a b : Ln) : Prop := kcmp a.sku b.sku < 0
abbrev sortedK (l : List Ln) : Prop := l.Pairwise klt

/-- Stands x behind the line p? -/
def behindB (p : Option Ln) (x : Ln) : Bool := match p with | none => true | some y => decide (kcmp y.sku x.sku < 0)
/-- The lines of l behind the line p. -/
def goodFrom (p : Option Ln) : List Ln → Bool
  | [] => true
  | x :: r => lineB x && behindB p x && goodFrom (some x) r
def rightLB (l : List Ln) : Bool := decide (1 ≤ l.length ∧ l.length ≤ 8) && goodFrom none l

theorem goodFrom_some : ∀ (l : List Ln) (p : Ln), goodFrom (some p) l = true ↔ (∀ x ∈ l, lineB x = true) ∧ sortedK (p :: l)
  | [], p => by simp [goodFrom, sortedK]
  | x :: r, p => by
    have ih := goodFrom_some r x
    simp only [goodFrom, behindB, Bool.and_eq_true, decide_eq_true_eq, ih]
    constructor
    · rintro ⟨⟨h1, h2⟩, h3, h4⟩
      refine ⟨?_, ?_⟩
      · intro y hy
        rcases List.mem_cons.1 hy with rfl | hy
        · exact h1
        · exact h3 y hy
      · rw [sortedK, List.pairwise_cons]
        refine ⟨?_, h4⟩
        intro y hy
        rcases List.mem_cons.1 hy with rfl | hy
        · exact h2
        · exact kcmp_trans h2 ((List.pairwise_cons.1 h4).1 y hy)
    · rintro ⟨h1, h2⟩
      obtain ⟨h3, h4⟩ := List.pairwise_cons.1 h2
      exact ⟨⟨h1 x (by simp), h3 x (by simp)⟩, fun y hy => h1 y (by simp [hy]), h4⟩

theorem goodFrom_none (l : List Ln) : goodFrom none l = true ↔ (∀ x ∈ l, lineB x = true) ∧ sortedK l := by
  cases l with
  | nil => simp [goodFrom, sortedK]
  | cons x r =>
    simp only [goodFrom, behindB, Bool.and_true, Bool.and_eq_true, goodFrom_some]
    constructor
    · rintro ⟨h1, h3, h4⟩
      refine ⟨?_, h4⟩
      intro y hy
      rcases List.mem_cons.1 hy with rfl | hy
      · exact h1
      · exact h3 y hy
    · rintro ⟨h1, h2⟩
      exact ⟨h1 x (by simp), fun y hy => h1 y (by simp [hy]), h2⟩

theorem rightLB_iff (l : List Ln) : rightLB l = true ↔ (1 ≤ l.length ∧ l.length ≤ 8) ∧ (∀ x ∈ l, lineB x = true) ∧ sortedK l := by
  simp only [rightLB, Bool.and_eq_true, decide_eq_true_eq, goodFrom_none]

/-- The line ahead of a place. -/
def prevAt (l : List Ln) (k : Nat) : Option Ln := if k = 0 then none else l[k - 1]?
theorem goodFrom_step (l : List Ln) (k : Nat) (h : k < l.length) : goodFrom (prevAt l k) (l.drop k) = (lineB l[k] && behindB (prevAt l k) l[k] && goodFrom (prevAt l (k + 1)) (l.drop (k + 1))) := by
  rw [List.drop_eq_getElem_cons h, goodFrom]
  have : prevAt l (k + 1) = some l[k] := by simp [prevAt, h]
  rw [this]
end

/- LnMem: Slices of lines in memory; what isLine, find$1, Pieces$1 and Weight$1 of package lines answer of one line. -/
section
set_option maxRecDepth 100000
open Go.RowKit

theorem bcell {W w1 : World} (hb : Below W.heap.size W w1) : (∀ b o, b < W.heap.size → w1.cell? ⟨b, o, none⟩ = W.cell? ⟨b, o, none⟩) ∧ (∀ b o, b < W.heap.size → w1.frozen? ⟨b, o, none⟩ = W.frozen? ⟨b, o, none⟩) :=
  ⟨fun b o h => hb.cell (p := ⟨b, o, none⟩) h, fun b o h => hb.frozen (p := ⟨b, o, none⟩) h⟩


set_option maxHeartbeats 1000000 in
theorem isLine_any (s : ByteArray) (q t : Int) (w : World) (hs : s.size ≤ maxLen) :
    Calls Tryz.prog 105 #[.agg #[.string s, .int .i64 q, .int .i64 t]] w fun e w' => e = .returned (.bool (lineB ⟨s, q, t⟩)) ∧ Below w.heap.size w w' := by
  have C := Lib.hid (fun w => right_any s w hs)
  have HL := Lib.hid (show lineB ⟨s, q, t⟩ = (rightB s.data.toList && decide (1 ≤ q ∧ q ≤ 1000 ∧ 0 ≤ t ∧ t ≤ 100000)) from rfl)
  rw [HL.out]
  generalize rightB s.data.toList = r at *
  cases r <;> by_cases h1 : 1 ≤ q <;> by_cases h2 : q ≤ 1000 <;> by_cases h3 : 0 ≤ t <;> by_cases h4 : t ≤ 100000
  all_goals try (exfalso; omega)
  all_goals
    go_enter Tryz.func105, Tryz.ntmps105
    go_wp2_with fail
    refine (C.out _).mono ?_
    rintro e w1 ⟨rfl, b1⟩
    obtain ⟨hc, hf⟩ := bcell b1
    go_wp2_with fail
    go_ret
    exact ⟨by simp [h1, h2, h3, h4], ((Below.refl _ w).alloc (Nat.le_refl _) _).trans (b1.mono (by simp))⟩

theorem cmp_any (a b : ByteArray) (w : World) : Calls Tryz.prog 106 #[.string a, .string b] w fun e w' => e = .returned (.int .i64 (kcmp a b)) ∧ w = w' := compare_any a b w
/-- A slice reads as these lines. -/
structure LnsP (w : World) (a : Option Addr) (cap : Nat) (ls : List Ln) : Prop where
  cap : ls.length ≤ cap
  size : ∀ x ∈ ls, x.sku.size ≤ maxLen
  cell : ls ≠ [] → ∃ b o, a = some ⟨b, o, none⟩ ∧ b < w.heap.size ∧ ∀ j x, ls[j]? = some x → w.cell? ⟨b, o + j * 3, none⟩ = some (.string x.sku) ∧ w.cell? ⟨b, o + j * 3 + 1, none⟩ = some (.int .i64 x.qty) ∧ w.cell? ⟨b, o + j * 3 + 2, none⟩ = some (.int .i64 x.wt)

theorem LnsP.below {w w' : World} {a cap ls} (h : LnsP w a cap ls) (hb : Below w.heap.size w w') : LnsP w' a cap ls := by
  refine ⟨h.cap, h.size, fun hne => ?_⟩
  obtain ⟨b, o, e, hlt, hc⟩ := h.cell hne
  refine ⟨b, o, e, Nat.lt_of_lt_of_le hlt hb.size, fun j x hx => ?_⟩
  obtain ⟨c1, c2, c3⟩ := hc j x hx
  exact ⟨(hb.cell (p := ⟨b, o + j * 3, none⟩) hlt).trans c1, (hb.cell (p := ⟨b, o + j * 3 + 1, none⟩) hlt).trans c2, (hb.cell (p := ⟨b, o + j * 3 + 2, none⟩) hlt).trans c3⟩

theorem LnsP.nil (w : World) (a : Option Addr) (cap : Nat) : LnsP w a cap [] := ⟨by simp, by simp, fun h => absurd rfl h⟩

/-- The line at a place. -/
theorem LnsP.at {w : World} {a : Option Addr} {cap : Nat} {ls : List Ln} (h : LnsP w a cap ls) (k : Nat) (hk : k < ls.length) :
    ∃ b o, a = some ⟨b, o, none⟩ ∧ b < w.heap.size ∧ w.cell? ⟨b, o + k * 3, none⟩ = some (.string ls[k].sku) ∧ w.cell? ⟨b, o + k * 3 + 1, none⟩ = some (.int .i64 ls[k].qty) ∧ w.cell? ⟨b, o + k * 3 + 2, none⟩ = some (.int .i64 ls[k].wt) ∧ ls[k].sku.size ≤ maxLen := by
  have hne : ls ≠ [] := by intro e; subst e; simp at hk
  obtain ⟨b, o, e, hlt, hc⟩ := h.cell hne
  obtain ⟨c1, c2, c3⟩ := hc k _ (List.getElem?_eq_getElem hk)
  exact ⟨b, o, e, hlt, c1, c2, c3, h.size _ (List.getElem_mem hk)⟩
end

/- LnRight: What Right of package lines answers, at every slice of lines. -/
section
set_option maxRecDepth 100000
open Go.RowKit

theorem prevAt_pos {l : List Ln} {j : Nat} (h : j < l.length) : prevAt l (j + 1) = some l[j] := by simp [prevAt, h]

set_option maxHeartbeats 2000000 in
theorem right14_any (a : Option Addr) (cap : Nat) (l : List Ln) (w : World) (h : LnsP w a cap l) (hm : l.length ≤ maxLen) :
    Calls Tryz.prog 36 #[.slice a l.length cap] w fun e w' => e = .returned (.bool (rightLB l)) ∧ Below w.heap.size w w' := by
  have H := Lib.hid h
  clear h
  unfold maxLen at hm
  by_cases h1 : 1 ≤ l.length
  · by_cases h8 : l.length ≤ 8
    · have HR := Lib.hid (show rightLB l = goodFrom (prevAt l 0) (l.drop 0) by simp [rightLB, h1, h8, prevAt])
      have e1 : decide ((l.length : Int) < 1) = false := by simp; omega
      have e2 : decide (8 < (l.length : Int)) = false := by simp; omega
      go_enter Tryz.func36, Tryz.ntmps36
      go_wp2_with fail
      go_loopw [15] (fun i wr => ∃ (k : Nat), k ≤ l.length ∧ i = .int .i64 k ∧ Hid (rightLB l = goodFrom (prevAt l k) (l.drop k)) ∧ Below w.heap.size w wr) (fun i _ => l.length - (intOf i).toNat)
      case atStart => exact ⟨0, Nat.zero_le _, rfl, HR, Below.refl _ _⟩
      case round =>
        obtain ⟨k, hk, rfl, HK, hbw⟩ := hrel
        by_cases hlt : k < l.length
        · have HL := Lib.hid (H.out.below hbw)
          obtain ⟨b, o, rfl, hb, c1, c2, c3, hsz⟩ := HL.out.at k hlt
          have p1 := H.out.cap
          have HS := Lib.hid (goodFrom_step l k hlt)
          have C := Lib.hid (fun w => isLine_any l[k].sku l[k].qty l[k].wt w hsz)
          have HX := Lib.hid (show ∀ j, k = j + 1 → ∃ hj : j < l.length, prevAt l k = some l[j] ∧ wr.cell? ⟨b, o + j * 3, none⟩ = some (.string l[j].sku) by
            intro j hj
            subst hj
            have hj' : j < l.length := by omega
            obtain ⟨b', o', e, _, q1, _⟩ := HL.out.at j hj'
            injection e with e
            injection e with ea eo
            subst ea eo
            exact ⟨hj', prevAt_pos hj', q1⟩)
          generalize l[k] = x at *
          have hbw1 := hbw.alloc hbw.size (Obj.cells #[Value.string x.sku, Value.int IntKind.i64 x.qty, Value.int IntKind.i64 x.wt] 72)
          have d1 : (wr.alloc (Obj.cells #[Value.string x.sku, Value.int IntKind.i64 x.qty, Value.int IntKind.i64 x.wt] 72)).cell? ⟨wr.heap.size, 0, none⟩ = some (.string x.sku) := by simp
          have d2 : (wr.alloc (Obj.cells #[Value.string x.sku, Value.int IntKind.i64 x.qty, Value.int IntKind.i64 x.wt] 72)).cell? ⟨wr.heap.size, 1, none⟩ = some (.int .i64 x.qty) := by simp
          have d3 : (wr.alloc (Obj.cells #[Value.string x.sku, Value.int IntKind.i64 x.qty, Value.int IntKind.i64 x.wt] 72)).cell? ⟨wr.heap.size, 2, none⟩ = some (.int .i64 x.wt) := by simp
          have hz : wr.heap.size < (wr.alloc (Obj.cells #[Value.string x.sku, Value.int IntKind.i64 x.qty, Value.int IntKind.i64 x.wt] 72)).heap.size := by simp
          have D := Lib.hid (And.intro d1 (And.intro d2 (And.intro d3 hz)))
          clear d1 d2 d3 hz
          cases hlb : lineB x with
          | false =>
            rw [show lineB ⟨x.sku, x.qty, x.wt⟩ = false from hlb] at C
            have HE := Lib.hid (show rightLB l = false by rw [HK.out, HS.out, hlb]; rfl)
            clear hlb
            go_wp2_with fail
            generalize wr.alloc (Obj.cells #[Value.string x.sku, Value.int IntKind.i64 x.qty, Value.int IntKind.i64 x.wt] 72) = W at *
            have f1 := far_cell D.out.2.2.2 D.out.1
            have f2 := far_cell D.out.2.2.2 D.out.2.1
            have f3 := far_cell D.out.2.2.2 D.out.2.2.1
            refine wp_region_far (by kernel_rfl) (by kernel_rfl) ?_
            repeat (first | go_big_quiet_step ((go_at_call 105; exact calls_far (C.out _))) | quiet_step ((go_at_call 105; exact calls_far (C.out _))))
            refine wpQuiet_nil ?_
            intro _ hw'
            obtain ⟨p, hw''⟩ := hw'
            subst hw''
            go_wp2_with fail
            go_ret
            exact ⟨by rw [HE.out]; rfl, hbw1.trans ((far_below _ _).mono hbw1.size)⟩
          | true =>
            rw [show lineB ⟨x.sku, x.qty, x.wt⟩ = true from hlb] at C
            by_cases hk0 : 0 < k
            · obtain ⟨j, rfl⟩ : ∃ j, k = j + 1 := ⟨k - 1, by omega⟩
              obtain ⟨hj, hp, hc⟩ := HX.out j rfl
              generalize l[j] = y at *
              have hb2 : b < (wr.alloc (Obj.cells #[Value.string x.sku, Value.int IntKind.i64 x.qty, Value.int IntKind.i64 x.wt] 72)).heap.size := by simp; omega
              have hc2 : (wr.alloc (Obj.cells #[Value.string x.sku, Value.int IntKind.i64 x.qty, Value.int IntKind.i64 x.wt] 72)).cell? ⟨b, o + j * 3, none⟩ = some (.string y.sku) := by
                rw [((Below.refl wr.heap.size wr).alloc (Nat.le_refl _) _).cell (p := ⟨b, o + j * 3, none⟩) hb]; exact hc
              have D2 := Lib.hid (And.intro hb2 hc2)
              have HQ : Hid (decide (0 ≤ kcmp y.sku x.sku) = ! decide (kcmp y.sku x.sku < 0)) := Lib.hid (by rw [Bool.eq_iff_iff]; simp)
              clear hb2 hc2 hc
              cases hq : decide (kcmp y.sku x.sku < 0) with
              | false =>
                have HE := Lib.hid (show rightLB l = false by rw [HK.out, HS.out, hlb, hp, behindB]; simp only [hq]; rfl)
                have hq2 : decide (0 ≤ kcmp y.sku x.sku) = true := by rw [HQ.out, hq]; rfl
                have hq3 : 0 ≤ kcmp y.sku x.sku := by simpa using hq2
                clear hlb hq hq2 hp
                go_wp2_with fail
                have f4 := far_cell D2.out.1 D2.out.2
                generalize wr.alloc (Obj.cells #[Value.string x.sku, Value.int IntKind.i64 x.qty, Value.int IntKind.i64 x.wt] 72) = W at *
                have f1 := far_cell D.out.2.2.2 D.out.1
                have f2 := far_cell D.out.2.2.2 D.out.2.1
                have f3 := far_cell D.out.2.2.2 D.out.2.2.1
                refine wp_region_far (by kernel_rfl) (by kernel_rfl) ?_
                repeat (first | go_big_quiet_step ((first | (go_at_call 105; exact calls_far (C.out _)) | (go_at_call 106; exact calls_far_same (cmp_any _ _ _)))) | quiet_step ((first | (go_at_call 105; exact calls_far (C.out _)) | (go_at_call 106; exact calls_far_same (cmp_any _ _ _)))))
                refine wpQuiet_nil ?_
                intro _ hw'
                obtain ⟨p, hw''⟩ := hw'
                subst hw''
                go_wp2_with fail
                go_ret
                exact ⟨by rw [HE.out]; rfl, hbw1.trans ((far_below _ _).mono hbw1.size)⟩
              | true =>
                have HE := Lib.hid (show rightLB l = goodFrom (prevAt l (j + 1 + 1)) (l.drop (j + 1 + 1)) by rw [HK.out, HS.out, hlb, hp, behindB]; simp only [hq]; rfl)
                have hq3 : kcmp y.sku x.sku < 0 := by simpa using hq
                clear hlb hq hp
                go_wp2_with fail
                have f4 := far_cell D2.out.1 D2.out.2
                generalize wr.alloc (Obj.cells #[Value.string x.sku, Value.int IntKind.i64 x.qty, Value.int IntKind.i64 x.wt] 72) = W at *
                have f1 := far_cell D.out.2.2.2 D.out.1
                have f2 := far_cell D.out.2.2.2 D.out.2.1
                have f3 := far_cell D.out.2.2.2 D.out.2.2.1
                refine wp_region_far (by kernel_rfl) (by kernel_rfl) ?_
                repeat (first | go_big_quiet_step ((first | (go_at_call 105; exact calls_far (C.out _)) | (go_at_call 106; exact calls_far_same (cmp_any _ _ _)))) | quiet_step ((first | (go_at_call 105; exact calls_far (C.out _)) | (go_at_call 106; exact calls_far_same (cmp_any _ _ _)))))
                refine wpQuiet_nil ?_
                intro _ hw'
                obtain ⟨p, hw''⟩ := hw'
                subst hw''
                go_wp2_with fail
                go_roundw
                case rel => exact ⟨j + 1 + 1, by omega, by go_num, HE, hbw1.trans ((far_below _ _).mono hbw1.size)⟩
                case measure => simp [intOf]; omega
            · have HP := Lib.hid (show prevAt l k = none by simp [prevAt]; omega)
              have HE := Lib.hid (show rightLB l = goodFrom (prevAt l (k + 1)) (l.drop (k + 1)) by rw [HK.out, HS.out, hlb, HP.out]; rfl)
              clear hlb
              go_wp2_with fail
              generalize wr.alloc (Obj.cells #[Value.string x.sku, Value.int IntKind.i64 x.qty, Value.int IntKind.i64 x.wt] 72) = W at *
              have f1 := far_cell D.out.2.2.2 D.out.1
              have f2 := far_cell D.out.2.2.2 D.out.2.1
              have f3 := far_cell D.out.2.2.2 D.out.2.2.1
              refine wp_region_far (by kernel_rfl) (by kernel_rfl) ?_
              repeat (first | go_big_quiet_step ((go_at_call 105; exact calls_far (C.out _))) | quiet_step ((go_at_call 105; exact calls_far (C.out _))))
              refine wpQuiet_nil ?_
              intro _ hw'
              obtain ⟨p, hw''⟩ := hw'
              subst hw''
              go_wp2_with fail
              go_roundw
              case rel => exact ⟨k + 1, by omega, by go_num, HE, hbw1.trans ((far_below _ _).mono hbw1.size)⟩
              case measure => simp [intOf]; omega
        · have HE := Lib.hid (show rightLB l = true by rw [HK.out, List.drop_eq_nil_of_le (by omega)]; rfl)
          go_wp2_with fail
          go_ret
          exact ⟨by rw [HE.out]; rfl, hbw⟩
    · have HE := Lib.hid (show rightLB l = false by simp [rightLB, h8])
      go_enter Tryz.func36, Tryz.ntmps36
      go_wp2_with fail
      go_ret
      exact ⟨by rw [HE.out]; rfl, Below.refl _ _⟩
  · have HE := Lib.hid (show rightLB l = false by simp [rightLB, h1])
    go_enter Tryz.func36, Tryz.ntmps36
    go_wp2_with fail
    go_ret
    exact ⟨by rw [HE.out]; rfl, Below.refl _ _⟩


end

/- LnSum: What lines weigh: Weight of package lines, and the document's. -/
section
set_option maxRecDepth 100000
open Go.RowKit

def sumW (l : List Ln) : Int := (l.map (fun x => x.qty * x.wt)).sum
theorem sumW_nil : sumW [] = 0 := rfl
theorem sumW_cons (x : Ln) (l : List Ln) : sumW (x :: l) = x.qty * x.wt + sumW l := by simp [sumW]
theorem sumW_append (a b : List Ln) : sumW (a ++ b) = sumW a + sumW b := by simp [sumW]
theorem prod_bound {x : Ln} (h : lineB x = true) : 0 ≤ x.qty * x.wt ∧ x.qty * x.wt ≤ 100000000 := by
  obtain ⟨_, h1, h2, h3, h4⟩ := lineB_of h
  refine ⟨Int.mul_nonneg (by omega) h3, ?_⟩
  have := Int.mul_le_mul h2 h4 h3 (by omega : (0 : Int) ≤ 1000)
  omega
theorem sumW_bound : ∀ (l : List Ln), (∀ x ∈ l, lineB x = true) → 0 ≤ sumW l ∧ sumW l ≤ 100000000 * l.length
  | [], _ => by simp [sumW]
  | x :: r, h => by
    have ih := sumW_bound r (fun y hy => h y (by simp [hy]))
    have h2 := prod_bound (h x (by simp))
    rw [sumW_cons, List.length_cons]
    omega
def weightV (l : List Ln) : Int := if rightLB l then sumW l else 0
theorem weightV_bound (l : List Ln) : 0 ≤ weightV l ∧ weightV l ≤ 800000000 := by
  unfold weightV
  cases hr : rightLB l with
  | false => exact ⟨by simp, by simp⟩
  | true =>
    obtain ⟨h1, h2, _⟩ := (rightLB_iff l).1 hr
    have := sumW_bound l h2
    rw [if_pos rfl]
    omega

theorem weight1_any (s : ByteArray) (q t : Int) (w : World) (h : 0 ≤ q * t) (h2 : q * t ≤ 100000000) :
    Calls Tryz.prog 184 #[.agg #[.string s, .int .i64 q, .int .i64 t]] w fun e w' => e = .returned (.int .i64 (q * t)) ∧ Below w.heap.size w w' := by
  go_enter Tryz.func184, Tryz.ntmps184
  go_wp2_with fail
  go_ret
  exact ⟨rfl, (Below.refl _ w).alloc (Nat.le_refl _) _⟩

set_option maxHeartbeats 2000000 in
theorem weightSum_any (a : Option Addr) (cap : Nat) (l : List Ln) (w : World) (h : LnsP w a cap l) (hm : l.length ≤ maxLen) :
    Calls Tryz.prog 183 #[.slice a l.length cap, .func (.func 184) #[] #[]] w fun e w' => e = .returned (.int .i64 (weightV l)) ∧ Below w.heap.size w w' := by
  have C := Lib.hid (right14_any a cap l w h hm)
  have H := Lib.hid h
  clear h
  unfold maxLen at hm
  cases hr : rightLB l with
  | false =>
    have HV := Lib.hid (show weightV l = 0 by unfold weightV; rw [hr]; rfl)
    rw [hr] at C
    clear hr
    go_enter Tryz.func183, Tryz.ntmps183
    go_wp2_with fail
    refine C.out.mono ?_
    rintro e w1 ⟨rfl, b1⟩
    go_wp2_with fail
    go_ret
    exact ⟨by rw [HV.out]; rfl, b1⟩
  | true =>
    have HV := Lib.hid (show weightV l = sumW l by unfold weightV; rw [hr]; rfl)
    have HL := Lib.hid ((rightLB_iff l).1 hr)
    rw [hr] at C
    clear hr
    go_enter Tryz.func183, Tryz.ntmps183
    go_wp2_with fail
    refine C.out.mono ?_
    rintro e w1 ⟨rfl, b1⟩
    go_wp2_with fail
    go_loopw [5, 13] (fun s i wr => ∃ (k : Nat), k ≤ l.length ∧ i = .int .i64 k ∧ s = .int .i64 (sumW (l.take k)) ∧ Below w.heap.size w wr) (fun _ i _ => l.length - (intOf i).toNat)
    case atStart => exact ⟨0, Nat.zero_le _, rfl, rfl, b1⟩
    case round =>
      obtain ⟨k, hk, rfl, rfl, hbw⟩ := hrel
      by_cases hlt : k < l.length
      · obtain ⟨b, o, rfl, hb, c1, c2, c3, hsz⟩ := (H.out.below hbw).at k hlt
        have p1 := H.out.cap
        have hb0 := sumW_bound (l.take k) (fun x hx => HL.out.2.1 x (List.mem_of_mem_take hx))
        have hlen : (l.take k).length ≤ 8 := by rw [List.length_take]; have := HL.out.1.2; omega
        have hx := HL.out.2.1 _ (List.getElem_mem hlt)
        have hp := prod_bound hx
        have hx2 := lineB_of hx
        have HT := Lib.hid (show sumW (l.take (k + 1)) = sumW (l.take k) + l[k].qty * l[k].wt by rw [List.take_succ_eq_append_getElem hlt, sumW_append, sumW_cons, sumW_nil]; omega)
        have q1 : 0 ≤ sumW (l.take k) := by omega
        have q2 : sumW (l.take k) ≤ 800000000 := by omega
        have q3 : 0 ≤ l[k].qty * l[k].wt := by omega
        have q4 : l[k].qty * l[k].wt ≤ 100000000 := by omega
        have CC := Lib.hid (fun w => weight1_any l[k].sku l[k].qty l[k].wt w q3 q4)
        clear hb0 hlen hx hp hx2
        generalize l[k] = x at *
        generalize sumW (l.take k) = s at *
        go_wp2_with fail
        refine (CC.out _).mono ?_
        rintro e w2 ⟨rfl, b2⟩
        have b3 := (hbw.alloc hbw.size (Obj.cells #[Value.string x.sku, Value.int IntKind.i64 x.qty, Value.int IntKind.i64 x.wt] 72)).trans (b2.mono (hbw.alloc hbw.size _).size)
        go_wp2_with fail
        go_roundw
        case rel => exact ⟨k + 1, by omega, by go_num, by rw [HT.out], b3⟩
        case measure => simp [intOf]; omega
      · have HT := Lib.hid (show sumW (l.take k) = sumW l by rw [List.take_of_length_le (by omega)])
        go_wp2_with fail
        go_ret
        exact ⟨by rw [HV.out, ← HT.out]; rfl, hbw⟩

theorem weight_any (a : Option Addr) (cap : Nat) (l : List Ln) (w : World) (h : LnsP w a cap l) (hm : l.length ≤ maxLen) :
    Calls Tryz.prog 177 #[.slice a l.length cap] w fun e w' => e = .returned (.int .i64 (weightV l)) ∧ Below w.heap.size w w' := by
  have C := Lib.hid (weightSum_any a cap l w h hm)
  clear h
  go_enter Tryz.func177, Tryz.ntmps177
  go_wp2_with fail
  refine C.out.mono ?_
  rintro e w1 ⟨rfl, b1⟩
  go_wp2_with fail
  go_ret
  exact ⟨rfl, b1⟩

end

/- LnOwn: Rows of lines that a call has made for itself; lines put behind lines in such a row. -/
section
set_option maxRecDepth 100000
open Go.RowKit Go.Lib

def cellsOf (x : Ln) : List Value := [.string x.sku, .int .i64 x.qty, .int .i64 x.wt]
/-- The cells of lines, one behind the other. -/
def cellsL (l : List Ln) : List Value := l.flatMap cellsOf
theorem cellsL_cons (x : Ln) (l : List Ln) : cellsL (x :: l) = .string x.sku :: .int .i64 x.qty :: .int .i64 x.wt :: cellsL l := rfl
theorem cellsL_append (a b : List Ln) : cellsL (a ++ b) = cellsL a ++ cellsL b := by simp [cellsL]
theorem cellsL_len : ∀ (l : List Ln), (cellsL l).length = l.length * 3
  | [] => rfl
  | x :: r => by
    have := cellsL_len r
    simp only [cellsL_cons, List.length_cons, this]
    omega
theorem cellsL_get : ∀ (l : List Ln) (j : Nat) (x : Ln), l[j]? = some x → (cellsL l)[j * 3]? = some (.string x.sku) ∧ (cellsL l)[j * 3 + 1]? = some (.int .i64 x.qty) ∧ (cellsL l)[j * 3 + 2]? = some (.int .i64 x.wt)
  | [], j, x, h => by simp at h
  | y :: r, 0, x, h => by simp at h; subst h; simp [cellsL_cons]
  | y :: r, j + 1, x, h => by
    have := cellsL_get r j x (by simpa using h)
    rw [show (j + 1) * 3 = j * 3 + 1 + 1 + 1 by omega]
    refine ⟨?_, ?_, ?_⟩
    · simpa only [cellsL_cons, List.getElem?_cons_succ] using this.1
    · rw [show j * 3 + 1 + 1 + 1 + 1 = (j * 3 + 1) + 1 + 1 + 1 by omega]
      simpa only [cellsL_cons, List.getElem?_cons_succ] using this.2.1
    · rw [show j * 3 + 1 + 1 + 1 + 2 = (j * 3 + 2) + 1 + 1 + 1 by omega]
      simpa only [cellsL_cons, List.getElem?_cons_succ] using this.2.2
theorem cellsL_one : ∀ (l : List Ln) (v : Value), v ∈ cellsL l → v.oneCell' = true := by
  intro l v hv
  obtain ⟨x, _, hx⟩ := List.mem_flatMap.1 hv
  simp only [cellsOf, List.mem_cons, List.not_mem_nil, or_false] at hx
  rcases hx with rfl | rfl | rfl <;> rfl
/-- A slice that is a row of its call's own, from block base on. -/
def OwnL (w : World) (base : Nat) (v : Value) (ls : List Ln) : Prop := w.ownsRow base 72 3 v ls.length (cellsL ls)

theorem OwnL.lns {w : World} {base : Nat} {v : Value} {ls : List Ln} (h : OwnL w base v ls) (hsz : ∀ x ∈ ls, x.sku.size ≤ maxLen) : ∃ a cap, v = .slice a ls.length cap ∧ LnsP w a cap ls := by
  rcases h.2 with ⟨rfl, h0⟩ | ⟨g, cap, cur, rfl, h1, h2, h3, h4, h5, h6⟩
  · have := List.eq_nil_of_length_eq_zero h0
    subst this
    exact ⟨none, 0, rfl, LnsP.nil _ _ _⟩
  · refine ⟨_, cap, rfl, h3, hsz, fun _ => ⟨g, 0, rfl, (Array.getElem?_eq_some_iff.1 h2).1, fun j x hx => ?_⟩⟩
    have hc : ∀ i u, (cellsL ls)[i]? = some u → w.cell? ⟨g, i, none⟩ = some u := by
      intro i u hi
      rw [← h6, List.getElem?_take] at hi
      split at hi
      · simp only [Array.getElem?_toList] at hi
        simp [World.cell?, h2, hi]
      · cases hi
    obtain ⟨c1, c2, c3⟩ := cellsL_get ls j x hx
    simp only [Nat.zero_add]
    exact ⟨hc _ _ c1, hc _ _ c2, hc _ _ c3⟩

theorem OwnL.below {w w' : World} {base : Nat} {v : Value} {ls : List Ln} (h : OwnL w base v ls) (hb : Below w.heap.size w w') : OwnL w' base v ls := own_below h hb
theorem OwnL.nil (w : World) (base : Nat) : OwnL w base (.slice none 0 0) [] := ⟨rfl, .inl ⟨rfl, rfl⟩⟩

theorem OwnL.grown {w w' : World} {base : Nat} {v : Value} {ls : List Ln} (h : OwnL w base v ls) (hb : ∀ k, base ≤ k → k < w.heap.size → w'.heap[k]? = w.heap[k]?) : OwnL w' base v ls := by
  refine ⟨h.1, ?_⟩
  rcases h.2 with h1 | ⟨g, cap, cur, e, h1, h2, h3⟩
  · exact .inl h1
  · exact .inr ⟨g, cap, cur, e, h1, (hb g h1 (Array.getElem?_eq_some_iff.1 h2).1).trans h2, h3⟩
theorem OwnL.shape {w : World} {base : Nat} {v : Value} {l : List Ln} (h : OwnL w base v l) : ∃ a cap, v = .slice a l.length cap := by
  rcases h.2 with ⟨e, h0⟩ | ⟨g, cap, cur, e, _⟩
  · exact ⟨none, 0, by rw [e, h0]⟩
  · exact ⟨_, cap, e⟩
theorem OwnL.base {w : World} {base base' : Nat} {v : Value} {l : List Ln} (h : OwnL w base v l) (hb : base' ≤ base) : OwnL w base' v l :=
  ⟨h.1, h.2.elim Or.inl (fun ⟨g, cap, cur, hv, hg, r⟩ => Or.inr ⟨g, cap, cur, hv, Nat.le_trans hb hg, r⟩)⟩
theorem OwnL.row {w : World} {base : Nat} {v : Value} {l : List Ln} (h : OwnL w base v l) : ∀ k, v.ownBlock = some k → base ≤ k := by
  intro k hk
  rcases h.2 with ⟨rfl, _⟩ | ⟨g, cap, cur, rfl, h1, _⟩
  · cases hk
  · simp [Value.ownBlock] at hk
    omega

theorem lns_cells {w : World} {b o : Nat} {l : List Ln} (hc : ∀ j x, l[j]? = some x → w.cell? ⟨b, o + j * 3, none⟩ = some (.string x.sku) ∧ w.cell? ⟨b, o + j * 3 + 1, none⟩ = some (.int .i64 x.qty) ∧ w.cell? ⟨b, o + j * 3 + 2, none⟩ = some (.int .i64 x.wt)) :
    ∀ j u, (cellsL l)[j]? = some u → w.cell? ⟨b, o + j, none⟩ = some u := by
  intro j u hj
  have hlt : j < l.length * 3 := by
    have := (List.getElem?_eq_some_iff.1 hj).1
    rwa [cellsL_len] at this
  have hk : j / 3 < l.length := by omega
  obtain ⟨c1, c2, c3⟩ := hc (j / 3) l[j / 3] (List.getElem?_eq_getElem hk)
  obtain ⟨d1, d2, d3⟩ := cellsL_get l (j / 3) l[j / 3] (List.getElem?_eq_getElem hk)
  rcases (by omega : j % 3 = 0 ∨ j % 3 = 1 ∨ j % 3 = 2) with h | h | h
  · rw [show j / 3 * 3 = j by omega] at d1
    rw [d1] at hj
    rw [← hj, ← c1, show o + j / 3 * 3 = o + j by omega]
  · rw [show j / 3 * 3 + 1 = j by omega] at d2
    rw [d2] at hj
    rw [← hj, ← c2, show o + j / 3 * 3 + 1 = o + j by omega]
  · rw [show j / 3 * 3 + 2 = j by omega] at d3
    rw [d3] at hj
    rw [← hj, ← c3, show o + j / 3 * 3 + 2 = o + j by omega]

theorem Tryz.infoLn : (Tryz.prog.info? 72).map (fun i => (i.zero, i.size, i.bytes)) = some (some (.agg #[.string ByteArray.empty, .int .i64 0, .int .i64 0]), 3, 32) := by kernel_rfl

theorem run_append_lines (w : World) (base : Nat) (v : Value) (xs ys : List Ln) (hown : OwnL w base v xs) (A : Option Addr) (cA : Nat) (hy : LnsP w A cA ys) (hlen : xs.length + ys.length ≤ 1000000) (hb : base ≤ w.heap.size) (ty : TypeId) :
    ∃ v' w', (Builtin.append_ #[22, 22] ty #[v, .slice A ys.length cA]).run Tryz.prog w = .ok v' w' ∧ OwnL w' base v' (xs ++ ys) ∧ w.grownBy w' v.ownBlock := by
  obtain ⟨i0, hi0, hz0, hzs, hzb⟩ := info_parts Tryz.infoLn
  cases A with
  | none =>
    have hy0 : ys = [] := by
      cases ys with
      | nil => rfl
      | cons y r =>
        obtain ⟨b, o, e, _⟩ := hy.cell (by simp)
        cases e
    subst hy0
    rcases hown.2 with ⟨e, h⟩ | ⟨g, cap, cur, e, h1, h2, h3, h4, h5, h6⟩
    · subst e
      have hx0 := List.eq_nil_of_length_eq_zero h
      subst hx0
      refine ⟨.slice none 0 0, w, ?_, OwnL.nil _ _, grown_refl _ _⟩
      simp [Builtin.append_, run_underlying Tryz.underlying22, sizeOf, typeInfo, hi0, Builtin.lenOf, Builtin.firstCells]
    · subst e
      have hsrc : Src Tryz.prog i0.size 22 (.slice none 0 cA) 0 [] w := Src.ofNil w Tryz.underlying22 cA
      have hr := run_append_room_src w 22 22 ty 72 i0 Tryz.underlying22 hi0 g 0 xs.length cap _ 0 [] hsrc (by omega) (by simp) (by simp)
      refine ⟨_, _, hr, ?_, grown_refl _ _⟩
      rw [List.append_nil]
      exact hown
  | some ad =>
    have hn : ∀ j u, (cellsL ys)[j]? = some u → w.cell? (ad.add j) = some u := by
      intro j u hj
      have hne : ys ≠ [] := by intro e; subst e; simp [cellsL] at hj
      obtain ⟨b, o, e, _, hc⟩ := hy.cell hne
      injection e with e
      subst e
      rw [Addr.add_lit]
      exact lns_cells hc j u hj
    obtain ⟨v', w', hr, h1, h2, h3⟩ := run_append_own w base 22 ty 72 i0 _ 3 32 Tryz.underlying22 hi0 hz0 hzs hzb rfl (by decide) v xs.length (cellsL xs) hown ad ys.length cA (cellsL ys) (cellsL_len ys) hn (cellsL_one ys) (by unfold maxLen; omega) (by omega) hb
    refine ⟨v', w', hr, ?_, h2⟩
    unfold OwnL
    rw [cellsL_append, List.length_append]
    exact h1

theorem wp_append_lines {o : Oper} {a : Act} {w : World} {K : Act → World → Prop} {Q : Exit → Act → World → Prop} (s x : Operand)
    (ho : o.op = .call { callee := .builtin .append, args := #[s, x], argTypes := #[22, 22] }) (base : Nat) (v : Value) (xs ys : List Ln) (hs : a.eval s = v) (hown : OwnL w base v xs) (A : Option Addr) (cA : Nat)
    (hx : a.eval x = .slice A ys.length cA) (hy : LnsP w A cA ys) (hlen : xs.length + ys.length ≤ 1000000) (hb : base ≤ w.heap.size)
    (h : ∀ v' w', OwnL w' base v' (xs ++ ys) → w.grownBy w' v.ownBlock → K (a.put o.dst v') w') : o.wp Tryz.prog a w K Q := by
  obtain ⟨v', w', hr, h1, h2⟩ := run_append_lines w base v xs ys hown A cA hy hlen hb o.type
  unfold Oper.wp execOp
  simp only [ho, resolve, invoke, builtin, Sem.run_bind, Sem.run_pure, Result.andThen_ok, List.map_toArray, List.map_cons, List.map_nil, hs, hx, hr]
  exact h v' w' h1 h2

theorem step_append_lines {w : World} {ops : Array Oper} {o : Oper} {a : Act} {K : Act → World → Prop} {Q : Exit → Act → World → Prop} {E : Prop} (hgd : o.guard = none) (s x : Operand)
    (ho : o.op = .call { callee := .builtin .append, args := #[s, x], argTypes := #[22, 22] }) (base : Nat) (v : Value) (xs ys : List Ln) (hs : a.eval s = v) (hown : OwnL w base v xs) (A : Option Addr) (cA : Nat)
    (hx : a.eval x = .slice A ys.length cA) (hy : LnsP w A cA ys) (hlen : xs.length + ys.length ≤ 1000000) (hb : base ≤ w.heap.size)
    (h : ∀ v' w', OwnL w' base v' (xs ++ ys) → w.grownBy w' v.ownBlock → K (a.put o.dst v') w') :
    if Region.wanted o (yielded ops a.tmps) = true then Oper.wp Tryz.prog o a w K Q else E := by
  have hw : Region.wanted o (yielded ops a.tmps) = true := by simp [Region.wanted, hgd]
  rw [if_pos hw]
  exact wp_append_lines s x ho base v xs ys hs hown A cA hx hy hlen hb h

/-- Lines laid out by a call itself. -/
theorem lns_block (w : World) (ls : List Ln) (hsz : ∀ x ∈ ls, x.sku.size ≤ maxLen) (hl : ls.length ≤ maxLen) : LnsP (w.alloc (.cells (cellsL ls).toArray 72)) (some ⟨w.heap.size, 0, none⟩) ls.length ls := by
  have h : OwnL (w.alloc (.cells (cellsL ls).toArray 72)) 0 (.slice (some ⟨w.heap.size, 0, none⟩) ls.length ls.length) ls :=
    ⟨cellsL_len ls, .inr ⟨w.heap.size, ls.length, _, rfl, Nat.zero_le _, heap_alloc_new w _, Nat.le_refl _, hl, by simp [cellsL_len], by simp; rw [← cellsL_len, List.take_length]⟩⟩
  exact (by obtain ⟨a, c, e, h⟩ := h.lns hsz; injection e with e1 e2 e3; subst e1 e3; exact h)

theorem cellsL_set : ∀ (l : List Ln) (k : Nat) (h : k < l.length) (q : Int), (cellsL l).set (k * 3 + 1) (.int .i64 q) = cellsL (l.set k { l[k] with qty := q })
  | [], k, h, _ => by simp at h
  | x :: r, 0, h, q => by simp [cellsL_cons]
  | x :: r, k + 1, h, q => by
    have ih := cellsL_set r k (by simpa using h) q
    rw [show (k + 1) * 3 + 1 = (k * 3 + 1) + 1 + 1 + 1 by omega]
    simp only [cellsL_cons, List.set_cons_succ, List.getElem_cons_succ, ih]

/-- The number of pieces of one line, turned. -/
theorem OwnL.set {w : World} {base g n cap : Nat} {l : List Ln} (h : OwnL w base (.slice (some ⟨g, 0, none⟩) n cap) l) (k : Nat) (hk : k < l.length) (q : Int) : OwnL (w.setCell ⟨g, k * 3 + 1, none⟩ (.int .i64 q)) base (.slice (some ⟨g, 0, none⟩) n cap) (l.set k { l[k] with qty := q }) := by
  rcases h.2 with ⟨e, _⟩ | ⟨g', cap', cur, e, h1, h2, h3, h4, h5, h6⟩
  · cases e
  · injection e with e1 e2 e3
    injection e1 with e1
    injection e1 with e1
    subst e1 e2 e3
    refine ⟨by rw [cellsL_len], .inr ⟨g, cap, cur.set! (k * 3 + 1) (.int .i64 q), by rw [List.length_set], h1, ?_, by rw [List.length_set]; exact h3, h4, by simpa using h5, ?_⟩⟩
    · simp [World.setCell, Array.getElem?_modify, h2]
    · rw [List.length_set, ← cellsL_set l k hk q, ← h6]
      simp only [Array.set!_eq_setIfInBounds, Array.toList_setIfInBounds]
      rw [List.take_set]

/-- The row of a slice that is not empty. -/
theorem OwnL.at {w : World} {base : Nat} {v : Value} {l : List Ln} (h : OwnL w base v l) (k : Nat) (hk : k < l.length) :
    ∃ g cap, v = .slice (some ⟨g, 0, none⟩) l.length cap ∧ base ≤ g ∧ g < w.heap.size ∧ l.length ≤ cap ∧ cap ≤ maxLen ∧ w.cell? ⟨g, k * 3, none⟩ = some (.string l[k].sku) ∧ w.cell? ⟨g, k * 3 + 1, none⟩ = some (.int .i64 l[k].qty) ∧ w.cell? ⟨g, k * 3 + 2, none⟩ = some (.int .i64 l[k].wt) ∧ (∀ j, w.frozen? ⟨g, j, none⟩ = false) := by
  rcases h.2 with ⟨rfl, h0⟩ | ⟨g, cap, cur, rfl, h1, h2, h3, h4, h5, h6⟩
  · omega
  · have hc : ∀ i u, (cellsL l)[i]? = some u → w.cell? ⟨g, i, none⟩ = some u := by
      intro i u hi
      rw [← h6, List.getElem?_take] at hi
      split at hi
      · simp only [Array.getElem?_toList] at hi
        simp [World.cell?, h2, hi]
      · cases hi
    obtain ⟨c1, c2, c3⟩ := cellsL_get l k l[k] (List.getElem?_eq_getElem hk)
    exact ⟨g, cap, rfl, h1, (Array.getElem?_eq_some_iff.1 h2).1, h3, h4, hc _ _ c1, hc _ _ c2, hc _ _ c3, fun j => by simp [World.frozen?, h2]⟩
end

/- ScPlain: Plain facts on bytes that are read on, number by number and text by text: what is written is read, and what is read is as it would be written. -/
section
set_option maxRecDepth 100000

def rightT (s : ByteArray) : Bool := rightB s.data.toList
def groupB (a b c : ByteArray) : Bool := rightT a && (rightT b && rightT c)
def tallyB (n : Int) : Bool := decide (0 ≤ n ∧ n ≤ 1000000000000)
/-- What is left of bytes that are read: nothing, once they could not be. -/
abbrev Sc := Option (List Nat)
def numS (most : Nat) (s : Sc) : Nat × Sc :=
  match s with
  | none => (0, none)
  | some r => if (numAt most 0 0 r).2.2 = 0 then ((numAt most 0 0 r).1, some (r.drop (numAt most 0 0 r).2.1)) else (0, none)
def textS (most : Nat) (s : Sc) : List Nat × Sc :=
  match numS most s with
  | (_, none) => ([], none)
  | (n, some r) => if r.length < n then ([], none) else (r.take n, some (r.drop n))
/-- A text's bytes tell the text. -/
theorem strL_inj {a b : ByteArray} (h : strL a = strL b) : a = b := by
  unfold strL at h
  have e : a.data.toList = b.data.toList := by
    refine List.map_inj_right (f := UInt8.toNat) (fun x y e => UInt8.toNat_inj.1 e) |>.1 h
  cases a; cases b
  simp only at e
  rw [Array.toList_inj] at e
  rw [e]
theorem strB_strL (s : ByteArray) : strB (strL s) = s := strL_inj (strL_strB (strL_bytes s))
theorem chunk_two {x : List UInt8} (h : isChunk x = true) : x.length ≤ 2 := by
  match x, h with
  | [], _ => simp
  | [_], _ => simp
  | [_, _], _ => simp
  | _ :: _ :: _ :: _, h => simp [isChunk] at h
theorem flat_two : ∀ (cs : List (List UInt8)), (∀ x ∈ cs, isChunk x = true) → cs.flatten.length ≤ 2 * cs.length
  | [], _ => by simp
  | x :: r, h => by
    have h1 := chunk_two (h x (by simp))
    have h2 := flat_two r (fun y hy => h y (by simp [hy]))
    rw [List.flatten_cons, List.length_append, List.length_cons]
    omega
/-- A label has no more than 32 bytes. -/
theorem right_32 {s : ByteArray} (h : rightT s = true) : s.size ≤ 32 := by
  unfold rightT rightB at h
  obtain ⟨cs, hc⟩ := Option.isSome_iff_exists.1 h
  obtain ⟨h1, _, h3, _⟩ := labOf_some.1 hc
  obtain ⟨h4, h5⟩ := chunks_some h1
  have h6 := flat_two cs h5
  rw [h4, Array.length_toList] at h6
  have : s.data.size = s.size := rfl
  omega
theorem numS_none (m : Nat) : numS m none = (0, none) := rfl
theorem textS_none (m : Nat) : textS m none = ([], none) := rfl
theorem numS_put {n m : Nat} (h : n ≤ m) (r : List Nat) : numS m (some (numL n ++ r)) = (n, some r) := by
  have e := numAt_numL m r n 0 0 (by simp; omega) (by simp)
  unfold numS
  simp only [e]
  simp
theorem textS_put {s : ByteArray} {m : Nat} (h : s.size ≤ m) (r : List Nat) : textS m (some (textL s ++ r)) = (strL s, some r) := by
  have e := numS_put h (strL s ++ r)
  unfold textS textL
  rw [List.append_assoc, e]
  have h2 := strL_len s
  simp [h2.symm]
theorem groupB_of {a b c : ByteArray} (h : groupB a b c = true) : rightT a = true ∧ rightT b = true ∧ rightT c = true := by
  simpa [groupB] using h
/-- Bytes are left, if anything is. -/
def BytesS (s : Sc) : Prop := ∀ b, s = some b → Bytes b
theorem numS_bytes {s : Sc} (h : BytesS s) (m : Nat) : BytesS (numS m s).2 := by
  cases s with
  | none => intro b e; cases e
  | some r =>
    intro b e
    unfold numS at e
    simp only at e
    split at e
    · cases e
      exact fun x hx => h r rfl x (List.mem_of_mem_drop hx)
    · cases e
theorem textS_eq (m : Nat) (s : Sc) : textS m s = match (numS m s).2 with | none => ([], none) | some r => if r.length < (numS m s).1 then ([], none) else (r.take (numS m s).1, some (r.drop (numS m s).1)) := by
  unfold textS
  rcases numS m s with ⟨n, _ | r⟩ <;> rfl
theorem textS_bytes {s : Sc} (h : BytesS s) (m : Nat) : BytesS (textS m s).2 ∧ Bytes (textS m s).1 := by
  have h1 := numS_bytes h m
  rw [textS_eq]
  cases e : (numS m s).2 with
  | none => exact ⟨fun b e => (by cases e), fun b hb => (by simp at hb)⟩
  | some r =>
    have hr := h1 r e
    simp only
    split
    · exact ⟨fun b e => (by cases e), fun b hb => (by simp at hb)⟩
    · exact ⟨fun b e => (by cases e; exact fun x hx => hr x (List.mem_of_mem_drop hx)), fun x hx => hr x (List.mem_of_mem_take hx)⟩
theorem numS_le (m : Nat) (s : Sc) (h : BytesS s) : (numS m s).1 ≤ m := by
  cases s with
  | none => exact Nat.zero_le _
  | some b =>
    unfold numS
    simp only
    split
    · rename_i he
      rcases hn : numAt m 0 0 b with ⟨v, k, e⟩
      rw [hn] at he
      simp only at he
      subst he
      obtain ⟨_, _, _, _, _, h4, _⟩ := numAt_alone m b 0 0 v k (h b rfl) (Nat.zero_le _) hn
      exact h4
    · exact Nat.zero_le _
/-- What is read is as it would be written. -/
theorem numS_back {s : Sc} (h : BytesS s) {m : Nat} {r : List Nat} (e : (numS m s).2 = some r) : s = some (numL (numS m s).1 ++ r) := by
  cases s with
  | none => cases e
  | some b =>
    unfold numS at e ⊢
    simp only at e ⊢
    split at e
    · rename_i he
      rw [if_pos he]
      cases e
      rcases hn : numAt m 0 0 b with ⟨v, k, e⟩
      rw [hn] at he
      simp only at he
      subst he
      obtain ⟨q, r, h1, h2, h3, _⟩ := numAt_alone m b 0 0 v k (h b rfl) (Nat.zero_le _) hn
      simp at h2 h3
      subst h2 h3
      simp only
      rw [h1]
      simp
    · cases e
theorem textS_back {s : Sc} (h : BytesS s) {m : Nat} {r : List Nat} (e : (textS m s).2 = some r) : s = some (textL (strB (textS m s).1) ++ r) := by
  have hb := (textS_bytes h m).2
  rw [textS_eq] at e hb ⊢
  cases e2 : (numS m s).2 with
  | none => rw [e2] at e; cases e
  | some t =>
    rw [e2] at e hb
    simp only at e hb ⊢
    split at e
    · cases e
    · rename_i hl
      rw [if_neg hl] at hb ⊢
      cases e
      have h1 := numS_back h e2
      simp only at hb ⊢
      rw [textL, strB_size, strL_strB hb, List.append_assoc, List.take_append_drop, List.length_take, Nat.min_eq_left (by omega)]
      exact h1

theorem textS_le (m : Nat) {s : Sc} (h : BytesS s) : (textS m s).1.length ≤ m := by
  have hn := numS_le m s h
  rw [textS_eq]
  cases (numS m s).2 with
  | none => simp
  | some r =>
    simp only
    split
    · simp
    · rw [List.length_take]; omega

/-- A group's texts, a saga's numbers. -/
def groupS (s : Sc) : (List Nat × List Nat × List Nat) × Sc :=
  (((textS 32 s).1, (textS 32 (textS 32 s).2).1, (textS 32 (textS 32 (textS 32 s).2).2).1), (textS 32 (textS 32 (textS 32 s).2).2).2)
end

/- ScLeaf: What Right of package tally answers, the document's Right of numbers and Group; three texts in a block. -/
section
set_option maxRecDepth 100000
open Go.RowKit

set_option maxHeartbeats 1000000 in
theorem tally_any (n : Int) (w : World) : Calls Tryz.prog 38 #[.int .i64 n] w (BoolSame (tallyB n) w) := by
  have HE := Lib.hid (show tallyB n = (decide (0 ≤ n) && decide (n ≤ 1000000000000)) by rw [Bool.eq_iff_iff]; simp [tallyB])
  cases h1 : decide (0 ≤ n) <;> cases h2 : decide (n ≤ 1000000000000)
  all_goals
    rw [h1, h2] at HE
    go_enter Tryz.func38, Tryz.ntmps38
    go_wp2_with fail
    go_ret
    exact ⟨by rw [HE.out]; rfl, rfl⟩
/-- Three texts in a block. -/
def GrB (w : World) (g : Nat) (a b c : ByteArray) : Prop := w.heap[g]? = some (.cells #[.string a, .string b, .string c] 24 (0, 0))
theorem GrB.cells {w : World} {g : Nat} {a b c : ByteArray} (h : GrB w g a b c) : w.cell? ⟨g, 0, none⟩ = some (.string a) ∧ w.cell? ⟨g, 1, none⟩ = some (.string b) ∧ w.cell? ⟨g, 2, none⟩ = some (.string c) := by
  unfold GrB at h
  simp [World.cell?, h]
theorem GrB.lt {w : World} {g : Nat} {a b c : ByteArray} (h : GrB w g a b c) : g < w.heap.size := (Array.getElem?_eq_some_iff.1 h).1
theorem GrB.below {w w' : World} {g : Nat} {a b c : ByteArray} (h : GrB w g a b c) (hb : Below w.heap.size w w') : GrB w' g a b c := (hb.block g h.lt).trans h
theorem GrB.new (w : World) (a b c : ByteArray) : GrB (w.alloc (.cells #[.string a, .string b, .string c] 24)) w.heap.size a b c := heap_alloc_new w _
end

/- ScArgs: What came in as bytes, as texts, as a group. -/
section
set_option maxRecDepth 100000
open Go.ChangeShapes Go.WideShapes Go.ChangeAt Go.RowKit

theorem own : ownKnob Tryz.prog.godebug = none := by kernel_rfl
end

/- SlArgs: Slices of structs that came in. -/
section
set_option maxRecDepth 100000
open Go.ChangeShapes Go.WideShapes Go.ChangeAt Go.RowKit

end
end Go.Proofs.YtfmpibmhhfmajaaGreatDoor
