/- Texts, blocks, books of what is the program's own: the base. -/
import Derived.Test.YtfmpibmhhfmajaaGreatDoorChecked
import Derived.WalkKit
import Derived.WalkSpells
import Derived.ProofKit
import Derived.Below
import Derived.IntWalk
import Derived.Lib.Hide
import Derived.Laws.BitsAllLaws
import Derived.OpenShut
import Derived.ChangeSlices
import Derived.OwnWalk
import Derived.Laws.AppendOwn
import Derived.Laws.AppendOwnNone
import Derived.Laws.BytesArg
import Derived.Deep.AppendSrc
import Derived.Lib.SlBytesConst
import Derived.Lib.AppendStr
import Derived.Lib.SliceRun
import Derived.Deep.QuietTactic
import Derived.BigQuiet
import Derived.ArgAppend
namespace Go.Proofs.YtfmpibmhhfmajaaGreatDoor
/- TxBase: Slices of texts: what they read as; tests that turn nothing that was there; worlds behind some draws. -/
section
set_option maxRecDepth 100000
open Go.ChangeShapes Go.WideShapes Go.ChangeAt Go.RowKit

/-- A test is answered, and nothing has turned. -/
def BoolSame (b : Bool) (w : World) (e : Ending) (w' : World) : Prop := e = .returned (.bool b) ∧ w = w'
/-- A test is answered; all that was there stays. -/
def BoolB (b : Bool) (w : World) (e : Ending) (w' : World) : Prop := e = .returned (.bool b) ∧ Below w.heap.size w w'

theorem below_drewN {B : Nat} {a w : World} (h : Below B a w) (q : Nat) : Below B a (w.drewN q) := ⟨h.os, h.tape, h.output, h.size, h.block⟩
theorem drewN_below (w : World) (q : Nat) : Below w.heap.size w (w.drewN q) := below_drewN (Below.refl _ _) q

theorem grown_refl (W : World) (row : Option Nat) : W.grownBy W row := ⟨rfl, rfl, rfl, Nat.le_refl _, fun _ _ _ => rfl⟩

/-- A slice reads as these texts. -/
structure StrsP (w : World) (a : Option Addr) (cap : Nat) (l : List ByteArray) : Prop where
  cap : l.length ≤ cap
  len : l.length ≤ 9223372036854775807
  cell : l ≠ [] → ∃ b o, a = some ⟨b, o, none⟩ ∧ b < w.heap.size ∧ ∀ (j : Nat) (x : ByteArray), l[j]? = some x → w.cell? ⟨b, o + j, none⟩ = some (.string x)

theorem StrsP.below {w w' : World} {a cap l} (h : StrsP w a cap l) (hb : Below w.heap.size w w') : StrsP w' a cap l := by
  refine ⟨h.cap, h.len, fun hne => ?_⟩
  obtain ⟨b, o, e, hlt, hc⟩ := h.cell hne
  exact ⟨b, o, e, Nat.lt_of_lt_of_le hlt hb.size, fun j x hx => (hb.cell (p := ⟨b, o + j, none⟩) hlt).trans (hc j x hx)⟩

theorem str_eq {a b : ByteArray} (h : a = b) : (a.toList == b.toList) = true := by rw [h]; simp
theorem str_ne {a b : ByteArray} (h : ¬ a = b) : (a.toList == b.toList) = false := by
  rw [beq_eq_false_iff_ne]
  intro e
  rw [ByteArray.toList_eq, ByteArray.toList_eq] at e
  apply h
  cases a; cases b
  simp only at e
  rw [Array.toList_inj] at e
  rw [e]
def hasT (l : List ByteArray) (x : ByteArray) : Bool := l.any fun y => y.toList == x.toList
theorem toList_iff (a b : ByteArray) : (a.toList == b.toList) = true ↔ a = b := by
  constructor
  · intro h
    by_cases e : a = b
    · exact e
    · rw [str_ne e] at h; cases h
  · intro h; exact str_eq h
theorem hasT_iff (l : List ByteArray) (x : ByteArray) : hasT l x = true ↔ x ∈ l := by
  unfold hasT
  rw [List.any_eq_true]
  constructor
  · rintro ⟨y, hy, e⟩; rw [toList_iff] at e; exact e ▸ hy
  · intro h; exact ⟨x, h, by simp⟩
theorem hasT_no (l : List ByteArray) (x : ByteArray) : hasT l x = false ↔ x ∉ l := by rw [← hasT_iff]; simp
/-- Texts in a row are the same. -/
def sameT : List ByteArray → List ByteArray → Bool
  | [], [] => true
  | x :: a, y :: b => (x.toList == y.toList) && sameT a b
  | _, _ => false
theorem sameT_iff : ∀ (a b : List ByteArray), sameT a b = true ↔ a = b
  | [], [] => by simp [sameT]
  | [], _ :: _ => by simp [sameT]
  | _ :: _, [] => by simp [sameT]
  | x :: a, y :: b => by
    simp only [sameT, Bool.and_eq_true, toList_iff, sameT_iff a b, List.cons.injEq]
theorem sameT_len {a b : List ByteArray} (h : a.length ≠ b.length) : sameT a b = false := by
  cases e : sameT a b with
  | false => rfl
  | true => rw [sameT_iff] at e; exact absurd (congrArg List.length e) h
theorem sameT_step (l m : List ByteArray) (k : Nat) (h1 : k < l.length) (h2 : k < m.length) : sameT (l.drop k) (m.drop k) = ((l[k].toList == m[k].toList) && sameT (l.drop (k + 1)) (m.drop (k + 1))) := by
  rw [List.drop_eq_getElem_cons h1, List.drop_eq_getElem_cons h2, sameT]
theorem same_rest {l m : List ByteArray} (hq : l.length = m.length) {k : Nat} (h : ¬ k < l.length) (e : sameT l m = sameT (l.drop k) (m.drop k)) : sameT l m = true := by
  rw [e, List.drop_eq_nil_of_le (by omega), List.drop_eq_nil_of_le (by omega)]; rfl

/-- A test is answered; all that was there stays. -/
def Tell (b : Bool) (w : World) (e : Ending) (w' : World) : Prop := e = .returned (.bool b) ∧ Below w.heap.size w w'
end

/- TxMem: Slices of texts in memory: what they read as, rows of a call's own, append onto such rows and onto a slice without room. -/
section
set_option maxRecDepth 100000
open Go.RowKit

theorem StrsP.nil (w : World) (a : Option Addr) (cap : Nat) : StrsP w a cap [] := ⟨by simp, by simp, fun h => absurd rfl h⟩

/-- The text at a place. -/
theorem StrsP.at {w : World} {a : Option Addr} {cap : Nat} {l : List ByteArray} (h : StrsP w a cap l) (k : Nat) (hk : k < l.length) :
    ∃ b o, a = some ⟨b, o, none⟩ ∧ b < w.heap.size ∧ w.cell? ⟨b, o + k, none⟩ = some (.string l[k]) := by
  have hne : l ≠ [] := by intro e; subst e; simp at hk
  obtain ⟨b, o, e, hlt, hc⟩ := h.cell hne
  exact ⟨b, o, e, hlt, hc k _ (List.getElem?_eq_getElem hk)⟩

theorem StrsP.take {w : World} {a : Option Addr} {cap : Nat} {l : List ByteArray} (h : StrsP w a cap l) (k c : Nat) (hk : k ≤ l.length) (hc : k ≤ c) : StrsP w a c (l.take k) := by
  refine ⟨by rw [List.length_take]; omega, by rw [List.length_take]; have := h.len; omega, fun hne => ?_⟩
  have hne' : l ≠ [] := by intro e; subst e; simp at hne
  obtain ⟨b, o, e, hlt, hcell⟩ := h.cell hne'
  refine ⟨b, o, e, hlt, fun j x hj => ?_⟩
  rw [List.getElem?_take] at hj
  split at hj
  · exact hcell j x hj
  · cases hj

/-- A slice that is a row of its call's own, from block base on. -/
def OwnT (w : World) (base : Nat) (v : Value) (ls : List ByteArray) : Prop := w.ownsRow base 9 1 v ls.length (ls.map .string)

theorem OwnT.strs {w : World} {base : Nat} {v : Value} {ls : List ByteArray} (h : OwnT w base v ls) : ∃ a cap, v = .slice a ls.length cap ∧ StrsP w a cap ls := by
  rcases h.2 with ⟨rfl, h0⟩ | ⟨g, cap, cur, rfl, h1, h2, h3, h4, h5, h6⟩
  · have := List.eq_nil_of_length_eq_zero h0
    subst this
    exact ⟨none, 0, rfl, StrsP.nil _ _ _⟩
  · refine ⟨_, cap, rfl, h3, by unfold maxLen at h4; omega, fun _ => ⟨g, 0, rfl, (Array.getElem?_eq_some_iff.1 h2).1, fun j x hx => ?_⟩⟩
    have hi : (ls.map Value.string)[j]? = some (.string x) := by rw [List.getElem?_map, hx]; rfl
    rw [← h6, List.getElem?_take] at hi
    split at hi
    · simp only [Array.getElem?_toList] at hi
      simp [World.cell?, h2, hi]
    · cases hi
theorem OwnT.reads {w : World} {base : Nat} {a : Option Addr} {n cap : Nat} {ls : List ByteArray} (h : OwnT w base (.slice a n cap) ls) : n = ls.length ∧ StrsP w a cap ls := by
  obtain ⟨a', c', e, hs⟩ := h.strs
  injection e with e1 e2 e3
  subst e1 e3
  exact ⟨e2, hs⟩

theorem OwnT.below {w w' : World} {base : Nat} {v : Value} {ls : List ByteArray} (h : OwnT w base v ls) (hb : Below w.heap.size w w') : OwnT w' base v ls := by
  refine ⟨h.1, ?_⟩
  rcases h.2 with h1 | ⟨g, cap, cur, e, h1, h2, h3⟩
  · exact .inl h1
  · exact .inr ⟨g, cap, cur, e, h1, (hb.block g (Array.getElem?_eq_some_iff.1 h2).1).trans h2, h3⟩
theorem OwnT.nil (w : World) (base : Nat) : OwnT w base (.slice none 0 0) [] := ⟨rfl, .inl ⟨rfl, rfl⟩⟩
theorem OwnT.grown {w w' : World} {base : Nat} {v : Value} {ls : List ByteArray} (h : OwnT w base v ls) (hb : ∀ k, base ≤ k → k < w.heap.size → w'.heap[k]? = w.heap[k]?) : OwnT w' base v ls := by
  refine ⟨h.1, ?_⟩
  rcases h.2 with h1 | ⟨g, cap, cur, e, h1, h2, h3⟩
  · exact .inl h1
  · exact .inr ⟨g, cap, cur, e, h1, (hb g h1 (Array.getElem?_eq_some_iff.1 h2).1).trans h2, h3⟩
theorem OwnT.shape {w : World} {base : Nat} {v : Value} {l : List ByteArray} (h : OwnT w base v l) : ∃ a cap, v = .slice a l.length cap := by
  rcases h.2 with ⟨e, h0⟩ | ⟨g, cap, cur, e, _⟩
  · exact ⟨none, 0, by rw [e, h0]⟩
  · exact ⟨_, cap, e⟩
theorem OwnT.base {w : World} {base base' : Nat} {v : Value} {l : List ByteArray} (h : OwnT w base v l) (hb : base' ≤ base) : OwnT w base' v l :=
  ⟨h.1, h.2.elim Or.inl (fun ⟨g, cap, cur, hv, hg, r⟩ => Or.inr ⟨g, cap, cur, hv, Nat.le_trans hb hg, r⟩)⟩
theorem OwnT.row {w : World} {base : Nat} {v : Value} {l : List ByteArray} (h : OwnT w base v l) : ∀ k, v.ownBlock = some k → base ≤ k := by
  intro k hk
  rcases h.2 with ⟨rfl, _⟩ | ⟨g, cap, cur, rfl, h1, _⟩
  · cases hk
  · simp [Value.ownBlock] at hk
    omega
/-- Texts that a call lays itself. -/
theorem OwnT.block (w : World) (base : Nat) (ls : List ByteArray) (hb : base ≤ w.heap.size) (hl : ls.length ≤ 1000000) : OwnT (w.alloc (.cells (ls.map Value.string).toArray 9)) base (.slice (some ⟨w.heap.size, 0, none⟩) ls.length ls.length) ls :=
  ⟨by simp, .inr ⟨w.heap.size, ls.length, _, rfl, hb, heap_alloc_new w _, Nat.le_refl _, by unfold maxLen; omega, by simp, by rw [List.take_of_length_le (by simp)]⟩⟩
theorem strs_block1 (W : World) (x : ByteArray) : StrsP (W.alloc (.cells #[.string x] 9)) (some ⟨W.heap.size, 0, none⟩) 1 [x] := (OwnT.block W 0 [x] (Nat.zero_le _) (by simp)).reads.2

theorem Tryz.infoT : (Tryz.prog.info? 9).map (fun i => (i.zero, i.size, i.bytes)) = some (some (.string ByteArray.empty), 1, 16) := by kernel_rfl

theorem strs_cells {w : World} {a : Option Addr} {cap : Nat} {l : List ByteArray} (h : StrsP w a cap l) : ∀ b, a = some b → ∀ j u, (l.map Value.string)[j]? = some u → w.cell? (b.add j) = some u := by
  intro ad hA j u hj
  have hne : l ≠ [] := by intro e; subst e; simp at hj
  obtain ⟨b, o, e, _, hc⟩ := h.cell hne
  rw [hA] at e
  injection e with e
  subst e
  rw [Addr.add_lit]
  rw [List.getElem?_map] at hj
  obtain ⟨x, hx, rfl⟩ := Option.map_eq_some_iff.1 hj
  exact hc j x hx

theorem run_append_texts (w : World) (base : Nat) (v : Value) (xs ys : List ByteArray) (hown : OwnT w base v xs) (A : Option Addr) (cA : Nat) (hy : StrsP w A cA ys) (hlen : xs.length + ys.length ≤ 1000000) (hb : base ≤ w.heap.size) (ty : TypeId) :
    ∃ v' w', (Builtin.append_ #[96, 96] ty #[v, .slice A ys.length cA]).run Tryz.prog w = .ok v' w' ∧ OwnT w' base v' (xs ++ ys) ∧ w.grownBy w' v.ownBlock := by
  obtain ⟨i0, hi0, hz0, hzs, hzb⟩ := info_parts Tryz.infoT
  cases A with
  | none =>
    have hy0 : ys = [] := by
      cases ys with
      | nil => rfl
      | cons y r =>
        obtain ⟨b, o, e, _⟩ := hy.cell (by simp)
        cases e
    subst hy0
    rcases hown.2 with ⟨e, h⟩ | ⟨g, cap, cur, e, h1, h2, h3, h4, h5, h6⟩
    · subst e
      have hx0 := List.eq_nil_of_length_eq_zero h
      subst hx0
      refine ⟨.slice none 0 0, w, ?_, OwnT.nil _ _, grown_refl _ _⟩
      simp [Builtin.append_, run_underlying Tryz.underlying96, sizeOf, typeInfo, hi0, Builtin.lenOf, Builtin.firstCells]
    · subst e
      have hsrc : Src Tryz.prog i0.size 96 (.slice none 0 cA) 0 [] w := Src.ofNil w Tryz.underlying96 cA
      have hr := run_append_room_src w 96 96 ty 9 i0 Tryz.underlying96 hi0 g 0 xs.length cap _ 0 [] hsrc (by omega) (by simp) (by simp)
      refine ⟨_, _, hr, ?_, grown_refl _ _⟩
      rw [List.append_nil]
      exact hown
  | some ad =>
    obtain ⟨v', w', hr, h1, h2, h3⟩ := run_append_own w base 96 ty 9 i0 _ 1 16 Tryz.underlying96 hi0 hz0 hzs hzb rfl (by decide) v xs.length (xs.map .string) hown ad ys.length cA (ys.map .string) (by simp) (strs_cells hy ad rfl) (fun v hv => by obtain ⟨x, _, rfl⟩ := List.mem_map.1 hv; rfl) (by unfold maxLen; omega) (by omega) hb
    refine ⟨v', w', hr, ?_, h2⟩
    unfold OwnT
    rw [List.map_append, List.length_append]
    exact h1

theorem wp_append_texts {o : Oper} {a : Act} {w : World} {K : Act → World → Prop} {Q : Exit → Act → World → Prop} (s x : Operand)
    (ho : o.op = .call { callee := .builtin .append, args := #[s, x], argTypes := #[96, 96] }) (base : Nat) (v : Value) (xs ys : List ByteArray) (hs : a.eval s = v) (hown : OwnT w base v xs) (A : Option Addr) (cA : Nat)
    (hx : a.eval x = .slice A ys.length cA) (hy : StrsP w A cA ys) (hlen : xs.length + ys.length ≤ 1000000) (hb : base ≤ w.heap.size)
    (h : ∀ v' w', OwnT w' base v' (xs ++ ys) → w.grownBy w' v.ownBlock → K (a.put o.dst v') w') : o.wp Tryz.prog a w K Q := by
  obtain ⟨v', w', hr, h1, h2⟩ := run_append_texts w base v xs ys hown A cA hy hlen hb o.type
  unfold Oper.wp execOp
  simp only [ho, resolve, invoke, builtin, Sem.run_bind, Sem.run_pure, Result.andThen_ok, List.map_toArray, List.map_cons, List.map_nil, hs, hx, hr]
  exact h v' w' h1 h2

theorem step_append_texts {w : World} {ops : Array Oper} {o : Oper} {a : Act} {K : Act → World → Prop} {Q : Exit → Act → World → Prop} {E : Prop} (hgd : o.guard = none) (s x : Operand)
    (ho : o.op = .call { callee := .builtin .append, args := #[s, x], argTypes := #[96, 96] }) (base : Nat) (v : Value) (xs ys : List ByteArray) (hs : a.eval s = v) (hown : OwnT w base v xs) (A : Option Addr) (cA : Nat)
    (hx : a.eval x = .slice A ys.length cA) (hy : StrsP w A cA ys) (hlen : xs.length + ys.length ≤ 1000000) (hb : base ≤ w.heap.size)
    (h : ∀ v' w', OwnT w' base v' (xs ++ ys) → w.grownBy w' v.ownBlock → K (a.put o.dst v') w') :
    if Region.wanted o (yielded ops a.tmps) = true then Oper.wp Tryz.prog o a w K Q else E := by
  have hw : Region.wanted o (yielded ops a.tmps) = true := by simp [Region.wanted, hgd]
  rw [if_pos hw]
  exact wp_append_texts s x ho base v xs ys hs hown A cA hx hy hlen hb h

/-- s[:j] of a slice of texts. -/
theorem slice_toT {a : Option Addr} {cap : Nat} {l : List ByteArray} (hc : l.length ≤ cap) (k : Nat) (i : Int) (hi : i = (k : Int)) (hk : k ≤ l.length) :
    ∃ a' c', (∀ W, (Instr.slice 96 (.slice a l.length cap) none (some (.int .i64 i)) none).run Tryz.prog W = .ok (.slice a' (l.take k).length c') W) ∧ ∀ W, StrsP W a cap l → StrsP W a' c' (l.take k) := by
  subst hi
  obtain ⟨i0, hi0, hz0, hzs, hzb⟩ := info_parts Tryz.infoT
  refine ⟨if cap = 0 then a else a.map (·.add 0), cap, fun W => ?_, fun W h => ⟨by rw [List.length_take]; omega, by have := h.len; rw [List.length_take]; omega, fun hne => ?_⟩⟩
  · have hz : (Go.sizeOf 9).run Tryz.prog W = .ok 1 W := by simp [Go.sizeOf, typeInfo, hi0, hzs]
    have h2 : (k : Int) ≤ (cap : Int) := by omega
    have h3 : min k l.length = k := by omega
    simp [Instr.slice, run_underlying Tryz.underlying96, Instr.sliceBounds, run_sliceBound, h2, h3]
  · have hlt : 0 < l.length := by
      rcases Nat.eq_zero_or_pos l.length with h | h
      · rw [List.eq_nil_of_length_eq_zero h] at hne; simp at hne
      · exact h
    obtain ⟨b, o, rfl, hb, hcl⟩ := h.cell (by intro e; subst e; simp at hlt)
    refine ⟨b, o, by rw [if_neg (by omega), Option.map_some, Addr.add_lit]; rfl, hb, fun j x hj => ?_⟩
    rw [List.getElem?_take] at hj
    split at hj
    · exact hcl _ _ hj
    · cases hj

end

/- TxSame: What Same of package packhorseref01 answers of two slices of texts. -/
section
set_option maxRecDepth 100000
open Go.RowKit

end

/- BkPlain: Plain facts on bytes: numbers' bytes, in one way alone. -/
section
/-- Bytes: numbers below 256. -/
def Bytes (l : List Nat) : Prop := ∀ b ∈ l, b < 256

/-- A number's bytes. -/
def numL (n : Nat) : List Nat := if n < 128 then [n] else (n % 128 + 128) :: numL (n / 128)
termination_by n
decreasing_by omega

theorem numL_small {n : Nat} (h : n < 128) : numL n = [n] := by rw [numL, if_pos h]
theorem numL_great {n : Nat} (h : 128 ≤ n) : numL n = (n % 128 + 128) :: numL (n / 128) := by rw [numL, if_neg (by omega)]

theorem numL_pos (n : Nat) : 0 < (numL n).length := by
  rw [numL]
  split <;> simp

theorem numL_bytes (n : Nat) : Bytes (numL n) := by
  induction n using Nat.strongRecOn with
  | ind n ih =>
    by_cases h : n < 128
    · rw [numL_small h]; intro b hb; simp at hb; omega
    · rw [numL_great (by omega)]
      intro b hb
      rcases List.mem_cons.1 hb with rfl | hb
      · omega
      · exact ih _ (by omega) b hb

theorem pow7 (i : Nat) : 2 ^ (7 * i + 7) = 128 * 2 ^ (7 * i) := by rw [Nat.pow_add]; omega
theorem pow7s (i : Nat) : 2 ^ (7 * (i + 1)) = 128 * 2 ^ (7 * i) := by rw [Nat.mul_add, Nat.mul_one, pow7]
theorem pow7_pos (i : Nat) : 0 < 2 ^ (7 * i) := Nat.pos_of_ne_zero (by simp)

theorem numL_len (n k : Nat) (h : n < 2 ^ (7 * k)) (hk : 0 < k) : (numL n).length ≤ k := by
  induction n using Nat.strongRecOn generalizing k with
  | ind n ih =>
    by_cases hn : n < 128
    · rw [numL_small hn]; exact hk
    · rw [numL_great (by omega), List.length_cons]
      match k, hk, h with
      | 1, _, h => simp at h; omega
      | k + 2, _, h =>
        rw [pow7s] at h
        have := ih (n / 128) (by omega) (k + 1) (by omega) (by omega)
        omega

theorem numL_ten {n : Nat} (h : n < 18446744073709551616) : (numL n).length ≤ 10 := numL_len n 10 (by simp; omega) (by decide)

/-- The number at the beginning of bytes, of which i were taken in already: the number, how many bytes it has, the error's number. -/
def numAt (most : Nat) : Nat → Nat → List Nat → Nat × Nat × Nat
  | _, _, [] => (0, 0, 61)
  | i, n, x :: l =>
    if (most - n) / 2 ^ (7 * i) < x % 128 then (0, 0, 62)
    else if x < 128 then (if x = 0 ∧ 0 < i then (0, 0, 62) else (n + x % 128 * 2 ^ (7 * i), i + 1, 0))
    else if (most - (n + x % 128 * 2 ^ (7 * i))) / 2 ^ (7 * i + 7) = 0 then (0, 0, 62)
    else numAt most (i + 1) (n + x % 128 * 2 ^ (7 * i)) l

theorem numAt_cons (most i n x : Nat) (l : List Nat) : numAt most i n (x :: l) =
    if (most - n) / 2 ^ (7 * i) < x % 128 then (0, 0, 62)
    else if x < 128 then (if x = 0 ∧ 0 < i then (0, 0, 62) else (n + x % 128 * 2 ^ (7 * i), i + 1, 0))
    else if (most - (n + x % 128 * 2 ^ (7 * i))) / 2 ^ (7 * i + 7) = 0 then (0, 0, 62)
    else numAt most (i + 1) (n + x % 128 * 2 ^ (7 * i)) l := rfl

/-- What was written is read. -/
theorem numAt_numL (most : Nat) (r : List Nat) (m : Nat) : ∀ (i acc : Nat), acc + m * 2 ^ (7 * i) ≤ most → (0 < i → 0 < m) →
    numAt most i acc (numL m ++ r) = (acc + m * 2 ^ (7 * i), i + (numL m).length, 0) := by
  induction m using Nat.strongRecOn with
  | ind m ih =>
    intro i acc h hi
    have hp := pow7_pos i
    by_cases hm : m < 128
    · rw [numL_small hm]
      have e : m % 128 = m := Nat.mod_eq_of_lt hm
      rw [List.singleton_append, numAt_cons, e, if_neg, if_pos hm, if_neg]
      · rfl
      · rintro ⟨rfl, h0⟩; exact absurd (hi h0) (by decide)
      · rw [Nat.not_lt, Nat.le_div_iff_mul_le hp]; omega
    · have e : (m % 128 + 128) % 128 = m % 128 := by omega
      have hs : m * 2 ^ (7 * i) = m % 128 * 2 ^ (7 * i) + m / 128 * (128 * 2 ^ (7 * i)) := by
        rw [← Nat.mul_assoc, ← Nat.add_mul]
        congr 1
        omega
      have h1 : 1 * (128 * 2 ^ (7 * i)) ≤ m / 128 * (128 * 2 ^ (7 * i)) := Nat.mul_le_mul_right _ (by omega)
      rw [numL_great (by omega), List.cons_append, numAt_cons, e, if_neg, if_neg (by omega), if_neg, ih (m / 128) (by omega) (i + 1) (acc + m % 128 * 2 ^ (7 * i))]
      · rw [pow7s, List.length_cons]
        simp only [Prod.mk.injEq, and_true]
        omega
      · rw [pow7s]; omega
      · intro _; omega
      · rw [pow7]
        intro h0
        rw [Nat.div_eq_zero_iff_lt (by omega)] at h0
        omega
      · rw [Nat.not_lt, Nat.le_div_iff_mul_le hp]; omega

/-- What is read is as it would be written. -/
theorem numAt_alone (most : Nat) (l : List Nat) : ∀ (i acc v s : Nat), Bytes l → acc ≤ most → numAt most i acc l = (v, s, 0) →
    ∃ m r, l = numL m ++ r ∧ v = acc + m * 2 ^ (7 * i) ∧ s = i + (numL m).length ∧ v ≤ most ∧ (0 < i → 0 < m) := by
  induction l with
  | nil => intro i acc v s _ _ h; simp [numAt] at h
  | cons x l ih =>
    intro i acc v s hb ha h
    have hp := pow7_pos i
    have hx : x < 256 := hb x (by simp)
    rw [numAt_cons] at h
    split at h
    · simp at h
    · rename_i h1
      rw [Nat.not_lt, Nat.le_div_iff_mul_le hp] at h1
      split at h
      · rename_i h2
        have e : x % 128 = x := Nat.mod_eq_of_lt h2
        split at h
        · simp at h
        · rename_i h3
          rw [e] at h h1
          simp only [Prod.mk.injEq, and_true] at h
          refine ⟨x, l, by rw [numL_small h2]; rfl, h.1.symm, by rw [numL_small h2]; exact h.2.symm, by omega, fun hi => ?_⟩
          rcases Nat.eq_zero_or_pos x with h0 | h0
          · exact absurd ⟨h0, hi⟩ h3
          · exact h0
      · rename_i h2
        split at h
        · simp at h
        · obtain ⟨m, r, e1, e2, e3, e4, e5⟩ := ih (i + 1) _ v s (fun b hb' => hb b (by simp [hb'])) (by omega) h
          have hm := e5 (by omega)
          have hg : 128 ≤ x % 128 + 128 * m := by omega
          refine ⟨x % 128 + 128 * m, r, ?_, ?_, ?_, e4, fun _ => by omega⟩
          · rw [numL_great hg, show (x % 128 + 128 * m) % 128 = x % 128 by omega, show (x % 128 + 128 * m) / 128 = m by omega, e1, List.cons_append]
            congr 1
            omega
          · rw [e2, pow7s, Nat.add_mul, Nat.add_assoc, Nat.mul_comm 128 m, Nat.mul_assoc]
          · rw [e3, numL_great hg, show (x % 128 + 128 * m) / 128 = m by omega, List.length_cons]
            omega

theorem numAt_errs (most : Nat) (l : List Nat) : ∀ (i acc : Nat), numAt most i acc l = (0, 0, 61) ∨ numAt most i acc l = (0, 0, 62) ∨ ∃ v s, numAt most i acc l = (v, s, 0) ∧ i < s ∧ s ≤ i + l.length := by
  induction l with
  | nil => intro i acc; exact .inl rfl
  | cons x l ih =>
    intro i acc
    rw [numAt_cons, List.length_cons]
    split
    · exact .inr (.inl rfl)
    · split
      · split
        · exact .inr (.inl rfl)
        · exact .inr (.inr ⟨_, _, rfl, by omega, by omega⟩)
      · split
        · exact .inr (.inl rfl)
        · rcases ih (i + 1) (acc + x % 128 * 2 ^ (7 * i)) with h | h | ⟨v, s, h, h1, h2⟩
          · exact .inl h
          · exact .inr (.inl h)
          · exact .inr (.inr ⟨v, s, h, by omega, by omega⟩)

theorem bytes_app {a b : List Nat} (ha : Bytes a) (hb : Bytes b) : Bytes (a ++ b) := fun x hx => by
  rcases List.mem_append.1 hx with h | h
  · exact ha x h
  · exact hb x h
end

/- BkOwn: Slices of bytes in memory; bytes in a row of the call's own: put behind others, read as a text; parts of a slice of bytes; what Clone of package bytes answers. -/
section
set_option maxRecDepth 100000
open Go.ChangeShapes Go.WideShapes Go.ChangeAt Go.RowKit

/-- A slice reads as these bytes. -/
structure BytesP (w : World) (a : Option Addr) (cap : Nat) (l : List Nat) : Prop where
  cap : l.length ≤ cap
  len : l.length ≤ 9223372036854775807
  byte : Bytes l
  cell : l ≠ [] → ∃ b o, a = some ⟨b, o, none⟩ ∧ b < w.heap.size ∧ ∀ (j x : Nat), l[j]? = some x → w.cell? ⟨b, o + j, none⟩ = some (.int .u8 (x : Int))

theorem BytesP.below {w w' : World} {a cap l} (h : BytesP w a cap l) (hb : Below w.heap.size w w') : BytesP w' a cap l := by
  refine ⟨h.cap, h.len, h.byte, fun hne => ?_⟩
  obtain ⟨b, o, e, hlt, hc⟩ := h.cell hne
  exact ⟨b, o, e, Nat.lt_of_lt_of_le hlt hb.size, fun j x hx => (hb.cell (p := ⟨b, o + j, none⟩) hlt).trans (hc j x hx)⟩

theorem BytesP.nil (w : World) (a : Option Addr) (cap : Nat) : BytesP w a cap [] := ⟨by simp, by simp, fun _ h => by simp at h, fun h => absurd rfl h⟩


abbrev bv (x : Nat) : Value := .int .u8 (x : Int)

/-- Bytes that a call lays out itself. -/
theorem bytes_block (l : List Nat) (hl : Bytes l) (h : l.length ≤ 10000000) (W : World) (T : TypeId) (z : Nat × Nat) : BytesP (W.alloc (.cells (l.map bv).toArray T z)) (some ⟨W.heap.size, 0, none⟩) l.length l := by
  refine ⟨Nat.le_refl _, by omega, hl, fun _ => ⟨_, _, rfl, by simp, fun j x hj => ?_⟩⟩
  rw [cell_of_row _ _ _ _ _ z (heap_alloc_new W _)]
  simp [hj]

/-- A slice that is a row of bytes of the call's own, from block base on. -/
def OwnB (w : World) (base : Nat) (v : Value) (l : List Nat) : Prop := w.ownsRow base 5 1 v l.length (l.map bv)

theorem OwnB.bytes {w : World} {base : Nat} {v : Value} {l : List Nat} (h : OwnB w base v l) (hb : Bytes l) : ∃ a cap, v = .slice a l.length cap ∧ BytesP w a cap l := by
  rcases h.2 with ⟨rfl, h0⟩ | ⟨g, cap, cur, rfl, h1, h2, h3, h4, h5, h6⟩
  · have := List.eq_nil_of_length_eq_zero h0
    subst this
    exact ⟨none, 0, rfl, BytesP.nil _ _ _⟩
  · refine ⟨_, cap, rfl, h3, by unfold maxLen at h4; omega, hb, fun _ => ⟨g, 0, rfl, ?_, fun j x hx => ?_⟩⟩
    · exact (Array.getElem?_eq_some_iff.1 h2).1
    · have hj : (cur.toList.take (l.length * 1))[j]? = some (bv x) := by rw [h6, List.getElem?_map, hx]; rfl
      rw [List.getElem?_take] at hj
      split at hj
      · simp only [Array.getElem?_toList] at hj
        simp [World.cell?, h2, hj]
      · cases hj

theorem OwnB.below {w w' : World} {base : Nat} {v : Value} {l : List Nat} (h : OwnB w base v l) (hb : Below w.heap.size w w') : OwnB w' base v l := by
  refine ⟨h.1, ?_⟩
  rcases h.2 with h1 | ⟨g, cap, cur, e, h1, h2, h3⟩
  · exact .inl h1
  · exact .inr ⟨g, cap, cur, e, h1, (hb.block g (Array.getElem?_eq_some_iff.1 h2).1).trans h2, h3⟩

theorem OwnB.base {w : World} {base base' : Nat} {v : Value} {l : List Nat} (h : OwnB w base v l) (hb : base' ≤ base) : OwnB w base' v l :=
  ⟨h.1, h.2.elim Or.inl (fun ⟨g, cap, cur, hv, hg, r⟩ => Or.inr ⟨g, cap, cur, hv, Nat.le_trans hb hg, r⟩)⟩

theorem OwnB.row {w : World} {base : Nat} {v : Value} {l : List Nat} (h : OwnB w base v l) : ∀ k, v.ownBlock = some k → base ≤ k := by
  intro k hk
  rcases h.2 with ⟨rfl, _⟩ | ⟨g, cap, cur, rfl, h1, _⟩
  · cases hk
  · simp [Value.ownBlock] at hk
    omega

theorem own_fresh (w : World) (base : Nat) (hb : base ≤ w.heap.size) : OwnB (w.alloc (.cells #[] 5)) base (.slice (some ⟨w.heap.size, 0, none⟩) 0 0) [] := World.ownsRow_made w #[] 0 hb (Nat.zero_le _) (by simp)
theorem own_nil (w : World) (base : Nat) : OwnB w base (.slice none 0 0) [] := World.ownsRow_nil w base 5 1

theorem Tryz.info5 : (Tryz.prog.info? 5).map (fun i => (i.zero, i.size, i.bytes)) = some (some (.int .u8 0), 1, 1) := by kernel_rfl

theorem run_append_bytes (w : World) (base : Nat) (v : Value) (xs ys : List Nat) (hown : OwnB w base v xs) (A : Option Addr) (cA : Nat) (hy : BytesP w A cA ys) (hlen : xs.length + ys.length ≤ 10000000) (hb : base ≤ w.heap.size) (ty : TypeId) :
    ∃ v' w', (Builtin.append_ #[40, 40] ty #[v, .slice A ys.length cA]).run Tryz.prog w = .ok v' w' ∧ OwnB w' base v' (xs ++ ys) ∧ w.grownBy w' v.ownBlock := by
  obtain ⟨i0, hi0, hz0, hzs, hzb⟩ := info_parts Tryz.info5
  cases A with
  | none =>
    have hy0 : ys = [] := by
      cases ys with
      | nil => rfl
      | cons y r =>
        obtain ⟨b, o, e, _⟩ := hy.cell (by simp)
        cases e
    subst hy0
    rcases hown.2 with ⟨e, h0⟩ | ⟨g, cap, cur, e, h1, h2, h3, h4, h5, h6⟩
    · subst e
      have hx0 := List.eq_nil_of_length_eq_zero h0
      subst hx0
      refine ⟨.slice none 0 0, w, ?_, own_nil _ _, grown_refl _ _⟩
      simp [Builtin.append_, run_underlying Tryz.underlying40, sizeOf, typeInfo, hi0, Builtin.lenOf, Builtin.firstCells]
    · subst e
      have hsrc : Src Tryz.prog i0.size 40 (.slice none 0 cA) 0 [] w := Src.ofNil w Tryz.underlying40 cA
      have hr := run_append_room_src w 40 40 ty 5 i0 Tryz.underlying40 hi0 g 0 xs.length cap _ 0 [] hsrc (by omega) (by simp) (by simp)
      refine ⟨_, _, hr, ?_, grown_refl _ _⟩
      rw [List.append_nil]
      exact hown
  | some ad =>
    have hn : ∀ j u, (ys.map bv)[j]? = some u → w.cell? (ad.add j) = some u := by
      intro j u hj
      have hne : ys ≠ [] := by intro e; subst e; simp at hj
      obtain ⟨b, o, e, _, hc⟩ := hy.cell hne
      injection e with e
      subst e
      rw [Addr.add_lit]
      rw [List.getElem?_map] at hj
      obtain ⟨x, hx, rfl⟩ := Option.map_eq_some_iff.1 hj
      exact hc j x hx
    obtain ⟨v', w', hr, h1, h2, h3⟩ := run_append_own w base 40 ty 5 i0 _ 1 1 Tryz.underlying40 hi0 hz0 hzs hzb rfl (by decide) v xs.length (xs.map bv) hown ad ys.length cA (ys.map bv) (by simp) hn (fun u hu => by obtain ⟨x, _, rfl⟩ := List.mem_map.1 hu; rfl) (by unfold maxLen; omega) (by omega) hb
    refine ⟨v', w', hr, ?_, h2⟩
    unfold OwnB
    rw [List.map_append, List.length_append]
    exact h1

theorem wpList_append_bytes {w : World} {ops : Array Oper} {rest : List Oper} {o : Oper} {a : Act} {Q : Exit → Act → World → Prop} (hgd : o.guard = none) (s x : Operand)
    (ho : o.op = .call { callee := .builtin .append, args := #[s, x], argTypes := #[40, 40] }) (base : Nat) (v : Value) (xs ys : List Nat) (hs : a.eval s = v) (hown : OwnB w base v xs) (A : Option Addr) (cA : Nat)
    (hx : a.eval x = .slice A ys.length cA) (hy : BytesP w A cA ys) (hlen : xs.length + ys.length ≤ 10000000) (hb : base ≤ w.heap.size)
    (h : ∀ v' w', OwnB w' base v' (xs ++ ys) → w.grownBy w' v.ownBlock → wpList Tryz.prog ops Q rest (a.put o.dst v') w') : wpList Tryz.prog ops Q (o :: rest) a w := by
  refine wpList_plain hgd fun K hK => ?_
  obtain ⟨v', w', hr, h1, h2⟩ := run_append_bytes w base v xs ys hown A cA hy hlen hb o.type
  unfold Oper.wp execOp
  simp only [ho, resolve, invoke, builtin, Sem.run_bind, Sem.run_pure, Result.andThen_ok, List.map_toArray, List.map_cons, List.map_nil, hs, hx, hr]
  exact hK _ _ (h v' w' h1 h2)

/-- A text's bytes. -/
def strL (s : ByteArray) : List Nat := s.data.toList.map UInt8.toNat
theorem strL_len (s : ByteArray) : (strL s).length = s.size := by
  unfold strL
  rw [List.length_map, Array.length_toList]
  rfl
theorem strL_bytes (s : ByteArray) : Bytes (strL s) := by
  intro b hb
  obtain ⟨x, _, rfl⟩ := List.mem_map.1 hb
  exact x.toNat_lt
theorem strL_cells (s : ByteArray) : Lib.strCells s = (strL s).map bv := by
  unfold Lib.strCells strL
  rw [List.map_map]
  rfl

theorem wpList_append_text {w : World} {ops : Array Oper} {rest : List Oper} {o : Oper} {a : Act} {Q : Exit → Act → World → Prop} (hgd : o.guard = none) (s x : Operand)
    (ho : o.op = .call { callee := .builtin .append, args := #[s, x], argTypes := #[40, 9] }) (base : Nat) (v : Value) (xs : List Nat) (t : ByteArray) (hs : a.eval s = v) (hown : OwnB w base v xs)
    (hx : a.eval x = .string t) (hlen : xs.length + t.size ≤ 10000000) (hb : base ≤ w.heap.size)
    (h : ∀ v' w', OwnB w' base v' (xs ++ strL t) → w.grownBy w' v.ownBlock → wpList Tryz.prog ops Q rest (a.put o.dst v') w') : wpList Tryz.prog ops Q (o :: rest) a w := by
  obtain ⟨i0, hi0, hz0, hzs, hzb⟩ := info_parts Tryz.info5
  refine Lib.wpList_append_own_string w hgd s x 40 9 ho base 5 i0 Tryz.underlying40 Tryz.underlying9 hi0 hz0 hzs hzb v xs.length (xs.map bv) hs hown t hx (by unfold maxLen; omega) (by omega) hb fun v' w' h1 h2 _ => h v' w' ?_ h2
  unfold OwnB
  rw [List.map_append, List.length_append, strL_len, ← strL_cells]
  exact h1

/-- Bytes as a text. -/
def strB (l : List Nat) : ByteArray := strOfNums (l.map fun n : Nat => (n : Int))

theorem strB_size (l : List Nat) : (strB l).size = l.length := by rw [strB, strOfNums_size, List.length_map]

theorem strL_strB {l : List Nat} (h : Bytes l) : strL (strB l) = l := by
  unfold strL strB
  rw [strOfNums_data, List.map_map, List.map_map]
  conv => rhs; rw [← List.map_id l]
  apply List.map_congr_left
  intro x hx
  have := h x hx
  simp
  omega

theorem run_text {w : World} {a : Option Addr} {cap : Nat} {l : List Nat} (h : BytesP w a cap l) : (convert 40 9 (.slice a l.length cap)).run Tryz.prog w = .ok (.string (strB l)) w := by
  cases l with
  | nil =>
    rw [List.length_nil, run_convert_bytes_string w 40 9 5 _ 0 cap Tryz.underlying40 Tryz.underlying5 Tryz.underlying9]
    have e : strB [] = ByteArray.empty := rfl
    rw [e]
    cases a <;> simp [Conv.bytesToString, loadCells, loadCellsFrom]
  | cons x r =>
    obtain ⟨b, o, rfl, _, hc⟩ := h.cell (by simp)
    refine run_convert_bytes_arg w 40 5 Tryz.underlying40 Tryz.underlying5 b o _ cap ((x :: r).map fun n : Nat => (n : Int)) (by simp) (fun i hi => ?_) 9 Tryz.underlying9
    rw [hc i _ (List.getElem?_eq_getElem hi), List.getD_eq_getElem?_getD, List.getElem?_map, List.getElem?_eq_getElem hi]
    rfl

/-- s[i:]. -/
theorem slice_from {a : Option Addr} {cap : Nat} {l : List Nat} (hc : l.length ≤ cap) (k : Nat) (i : Int) (hi : i = (k : Int)) (hk : k ≤ l.length) :
    ∃ a' c', (∀ W, (Instr.slice 40 (.slice a l.length cap) (some (.int .i64 i)) none none).run Tryz.prog W = .ok (.slice a' (l.drop k).length c') W) ∧ ∀ W, BytesP W a cap l → BytesP W a' c' (l.drop k) := by
  subst hi
  obtain ⟨i0, hi0, hz0, hzs, hzb⟩ := info_parts Tryz.info5
  refine ⟨if cap = k then a else a.map (·.add k), cap - k, fun W => ?_, fun W h => ⟨by rw [List.length_drop]; omega, by have := h.len; rw [List.length_drop]; omega, fun b hb => h.byte b (List.mem_of_mem_drop hb), fun hne => ?_⟩⟩
  · have hz : (Go.sizeOf 5).run Tryz.prog W = .ok 1 W := by simp [Go.sizeOf, typeInfo, hi0, hzs]
    have h0 : ¬ ((k : Int) < 0) := by omega
    simp [Instr.slice, run_underlying Tryz.underlying40, Instr.sliceBounds, run_sliceBound, hk]
  · have hlt : k < l.length := by
      rcases Nat.lt_or_ge k l.length with h | h
      · exact h
      · exact absurd (List.drop_eq_nil_of_le h) hne
    obtain ⟨b, o, rfl, hb, hcl⟩ := h.cell (by intro e; subst e; simp at hlt)
    refine ⟨b, o + k, by rw [if_neg (by omega), Option.map_some, Addr.add_lit], hb, fun j x hj => ?_⟩
    rw [Nat.add_assoc]
    exact hcl _ _ (by rw [← List.getElem?_drop]; exact hj)

/-- s[i:j]. -/
theorem slice_part {a : Option Addr} {cap : Nat} {l : List Nat} (hc : l.length ≤ cap) (k m : Nat) (i j : Int) (hi : i = (k : Int)) (hj : j = (m : Int)) (hk : k ≤ m) (hm : m ≤ l.length) :
    ∃ a' c', (∀ W, (Instr.slice 40 (.slice a l.length cap) (some (.int .i64 i)) (some (.int .i64 j)) none).run Tryz.prog W = .ok (.slice a' ((l.drop k).take (m - k)).length c') W) ∧ ∀ W, BytesP W a cap l → BytesP W a' c' ((l.drop k).take (m - k)) := by
  subst hi hj
  obtain ⟨i0, hi0, hz0, hzs, hzb⟩ := info_parts Tryz.info5
  refine ⟨if cap = k then a else a.map (·.add k), cap - k, fun W => ?_, fun W h => ⟨by rw [List.length_take, List.length_drop]; omega, by have := h.len; rw [List.length_take, List.length_drop]; omega, fun b hb => h.byte b (List.mem_of_mem_drop (List.mem_of_mem_take hb)), fun hne => ?_⟩⟩
  · have hz : (Go.sizeOf 5).run Tryz.prog W = .ok 1 W := by simp [Go.sizeOf, typeInfo, hi0, hzs]
    have h2 : (m : Int) ≤ (cap : Int) := by omega
    have h1 : (k : Int) ≤ (m : Int) := by omega
    have h3 : min (m - k) (l.length - k) = m - k := by omega
    simp [Instr.slice, run_underlying Tryz.underlying40, Instr.sliceBounds, run_sliceBound, h2, h1, h3]
  · have hlt : k < m ∧ k < l.length := by
      rcases Nat.lt_or_ge k m with h | h
      · exact ⟨h, by omega⟩
      · rw [show m - k = 0 by omega] at hne; simp at hne
    obtain ⟨b, o, rfl, hb, hcl⟩ := h.cell (by intro e; subst e; simp at hlt)
    refine ⟨b, o + k, by rw [if_neg (by omega), Option.map_some, Addr.add_lit], hb, fun j x hj => ?_⟩
    rw [List.getElem?_take] at hj
    split at hj
    · rw [Nat.add_assoc]
      exact hcl _ _ (by rw [← List.getElem?_drop]; exact hj)
    · cases hj

/-- Bytes in memory of the call's own are answered; all that was there stays. -/
def OwnPost (l : List Nat) (w : World) (e : Ending) (w' : World) : Prop := ∃ v, e = .returned v ∧ OwnB w' w.heap.size v l ∧ Below w.heap.size w w'

set_option maxHeartbeats 2000000 in
theorem clone_any (a : Option Addr) (cap : Nat) (l : List Nat) (w : World) (h : BytesP w a cap l) (hl : l.length ≤ 1000000) : Calls Tryz.prog 88 #[.slice a l.length cap] w (OwnPost l w) := by
  have q := fun (w : World) (a : Option Addr) (n c n' c' : Nat) => Lib.run_eql_slice_nil (P := Tryz.prog) w 40 5 a n c n' c' Tryz.underlying40
  have H := Lib.hid h
  cases a with
  | none =>
    have hy0 : l = [] := by
      cases l with
      | nil => rfl
      | cons y r =>
        obtain ⟨b, o, e, _⟩ := h.cell (by simp)
        cases e
    subst hy0
    clear h
    go_enter Tryz.func88, Tryz.ntmps88
    go_wp2_with fail
    go_ret
    exact ⟨_, rfl, own_nil _ _, Below.refl _ _⟩
  | some ad =>
    have OE := Lib.hid (own_fresh w w.heap.size (Nat.le_refl _))
    have bw := (Below.refl w.heap.size w).alloc (Nat.le_refl _) (.cells #[] 5)
    have G1 := Lib.hid (H.out.below bw)
    clear h
    go_enter Tryz.func88, Tryz.ntmps88
    go_wp2_with (at_builtin; go_must (refine wpList_append_bytes rfl _ _ rfl w.heap.size (.slice (some ⟨w.heap.size, 0, none⟩) 0 0) [] l rfl OE.out (some ad) cap rfl G1.out (by simp; omega) bw.size ?_))
    rintro v2 w2 o2 g2
    have bw2 := bw.grown g2 bw.size OE.out.row
    go_wp2_with fail
    go_ret
    exact ⟨_, rfl, o2, bw2⟩
end

/- BkWrite: What Number and Text of package packet, and the document's, answer. -/
section
set_option maxRecDepth 100000
open Go.ChangeShapes Go.WideShapes Go.ChangeAt Go.RowKit

theorem or_128 (n : Nat) : n % 256 ||| 128 = n % 128 + 128 := by
  have h1 : n % 128 < 2 ^ 7 := by omega
  have h2 : n % 256 ||| 128 = n % 128 ||| 128 := by
    apply Nat.eq_of_testBit_eq
    intro i
    rw [Nat.testBit_or, Nat.testBit_or, show 256 = 2 ^ 8 from rfl, show 128 = 2 ^ 7 from rfl, Nat.testBit_mod_two_pow, Nat.testBit_mod_two_pow, Nat.testBit_two_pow]
    by_cases hi : 7 = i
    · simp [hi]
    · by_cases h7 : i < 7
      · simp [h7, show i < 8 by omega]
      · simp [hi, h7, show ¬ i < 8 by omega]
  rw [h2, Nat.or_comm, show 128 = 2 ^ 7 * 1 from rfl, ← Nat.two_pow_add_eq_or_of_lt h1]
  omega

theorem byte_of (m : Nat) : IntKind.u8.wrap (m : Int) = ((m % 256 : Nat) : Int) := by rw [IntKind.wrap_u8]; omega

/-- Bytes put behind those that are the call's own from base on. -/
def PutPost (l : List Nat) (base : Nat) (w : World) (e : Ending) (w' : World) : Prop := ∃ v, e = .returned v ∧ OwnB w' base v l ∧ Below base w w'

theorem one_block (x : Nat) (hx : x < 256) (W : World) : BytesP (W.alloc (.cells #[.int .u8 (x : Int)] 5)) (some ⟨W.heap.size, 0, none⟩) 1 [x] := bytes_block [x] (by intro b hb; simp at hb; omega) (by simp) W 5 (0, 0)

theorem own_alloc {w : World} {base : Nat} {v : Value} {l : List Nat} (h : OwnB w base v l) (o : Obj) : OwnB (w.alloc o) base v l := h.below ((Below.refl _ _).alloc (Nat.le_refl _) o)

set_option maxHeartbeats 4000000 in
theorem appendNumber_any (v : Value) (n base : Nat) (l : List Nat) (w : World) (h : OwnB w base v l) (hn : n < 18446744073709551616) (hl : l.length ≤ 1000000) (hb : base ≤ w.heap.size) : Calls Tryz.prog 108 #[v, .int .u64 (n : Int)] w (PutPost (l ++ numL n) base w) := by
  have H := Lib.hid h
  have hten := numL_ten hn
  clear h
  go_enter Tryz.func108, Tryz.ntmps108
  go_wp2_with fail
  go_loopw [0, 1] (fun s i wr => ∃ (m : Nat) (acc : List Nat), i = .int .u64 m ∧ m < 18446744073709551616 ∧ Hid (OwnB wr base s acc) ∧ Hid (acc ++ numL m = l ++ numL n) ∧ Below base w wr) (fun _ i _ => (intOf i).toNat)
  case atStart => exact ⟨n, l, rfl, hn, H, Lib.hid rfl, Below.refl _ _⟩
  case round =>
    obtain ⟨m, acc, rfl, hm, HO, HS, hbw⟩ := hrel
    have hac : acc.length ≤ 1000010 := by
      have := congrArg List.length HS.out
      rw [List.length_append, List.length_append] at this
      omega
    have hbs := Nat.le_trans hb hbw.size
    by_cases hlt : 128 ≤ m
    · have HN := Lib.hid (show (acc ++ [m % 128 + 128]) ++ numL (m / 128) = l ++ numL n by rw [← HS.out, numL_great hlt, List.append_assoc]; rfl)
      obtain ⟨x, c, hw8, hor, hc, HC⟩ : ∃ x c : Nat, IntKind.u8.wrap (m : Int) = (x : Int) ∧ bits .or .u8 (x : Int) 128 = (c : Int) ∧ c < 256 ∧ Hid (m % 128 + 128 = c) := by
        refine ⟨m % 256, m % 128 + 128, byte_of m, ?_, by omega, rfl⟩
        have := u8_or_nat (m % 256) 128 (by omega) (by decide)
        rw [or_128] at this
        exact this
      rw [HC.out] at HN
      have O1 := Lib.hid (own_alloc HO.out (.cells #[.int .u8 (c : Int)] 5))
      have B1 := Lib.hid (one_block c hc wr)
      have bw := hbw.alloc hbs (.cells #[.int .u8 (c : Int)] 5)
      have hbs1 := Nat.le_trans hb bw.size
      have hlt' : decide (128 ≤ (m : Int)) = true := by simp; omega
      go_wp2_with (at_builtin; go_must (refine wpList_append_bytes rfl _ _ rfl base _ acc [c] rfl O1.out _ 1 rfl B1.out (by simp; omega) hbs1 ?_))
      rintro v2 w2 o2 g2
      have bw2 := bw.grown g2 hbs1 O1.out.row
      have O2 := Lib.hid o2
      clear o2 g2
      go_wp2_with fail
      go_roundw
      case rel => exact ⟨m / 128, acc ++ [c], by go_num, by omega, O2, HN, bw2⟩
      case measure => simp [intOf]; omega
    · have HN := Lib.hid (show l ++ numL n = acc ++ [m] by rw [← HS.out, numL_small (by omega)])
      have hw8 : IntKind.u8.wrap (m : Int) = (m : Int) := by rw [IntKind.wrap_u8]; omega
      have O1 := Lib.hid (own_alloc HO.out (.cells #[.int .u8 (m : Int)] 5))
      have B1 := Lib.hid (one_block m (by omega) wr)
      have bw := hbw.alloc hbs (.cells #[.int .u8 (m : Int)] 5)
      have hbs1 := Nat.le_trans hb bw.size
      have hlt' : decide (128 ≤ (m : Int)) = false := by simp; omega
      go_wp2_with (at_builtin; go_must (refine wpList_append_bytes rfl _ _ rfl base _ acc [m] rfl O1.out _ 1 rfl B1.out (by simp; omega) hbs1 ?_))
      rintro v2 w2 o2 g2
      have bw2 := bw.grown g2 hbs1 O1.out.row
      go_wp2_with fail
      go_ret
      exact ⟨_, rfl, by rw [HN.out]; exact o2, bw2⟩

/-- A slice reads as these numbers of 64 bits. -/
structure NumsP (w : World) (a : Option Addr) (cap : Nat) (l : List Nat) : Prop where
  cap : l.length ≤ cap
  len : l.length ≤ 9223372036854775807
  num : ∀ n ∈ l, n < 18446744073709551616
  cell : l ≠ [] → ∃ b o, a = some ⟨b, o, none⟩ ∧ b < w.heap.size ∧ ∀ (j x : Nat), l[j]? = some x → w.cell? ⟨b, o + j, none⟩ = some (.int .u64 (x : Int))

theorem NumsP.below {w w' : World} {a cap l} (h : NumsP w a cap l) (hb : Below w.heap.size w w') : NumsP w' a cap l := by
  refine ⟨h.cap, h.len, h.num, fun hne => ?_⟩
  obtain ⟨b, o, e, hlt, hc⟩ := h.cell hne
  exact ⟨b, o, e, Nat.lt_of_lt_of_le hlt hb.size, fun j x hx => (hb.cell (p := ⟨b, o + j, none⟩) hlt).trans (hc j x hx)⟩

theorem nums_one (n : Nat) (hn : n < 18446744073709551616) (W : World) : NumsP (W.alloc (.cells #[.int .u64 (n : Int)] 74)) (some ⟨W.heap.size, 0, none⟩) 1 [n] := by
  refine ⟨by simp, by simp, fun b hb => by simp at hb; omega, fun _ => ⟨_, _, rfl, by simp, fun j x hj => ?_⟩⟩
  match j, hj with
  | 0, hj => simp at hj; subst hj; simp
  | _ + 1, hj => simp at hj

/-- Numbers' bytes. -/
def numsL (l : List Nat) : List Nat := (l.map numL).flatten
/-- A text's bytes, with how many they are ahead. -/
def textL (s : ByteArray) : List Nat := numL s.size ++ strL s
def textsL (l : List ByteArray) : List Nat := (l.map textL).flatten

theorem numsL_drop {l : List Nat} {k : Nat} (h : k < l.length) : numsL (l.drop k) = numL l[k] ++ numsL (l.drop (k + 1)) := by
  unfold numsL
  rw [List.drop_eq_getElem_cons h, List.map_cons, List.flatten_cons]
theorem textsL_drop {l : List ByteArray} {k : Nat} (h : k < l.length) : textsL (l.drop k) = textL l[k] ++ textsL (l.drop (k + 1)) := by
  unfold textsL
  rw [List.drop_eq_getElem_cons h, List.map_cons, List.flatten_cons]
theorem numsL_bytes (l : List Nat) : Bytes (numsL l) := by
  intro b hb
  obtain ⟨x, hx, hb⟩ := List.mem_flatten.1 hb
  obtain ⟨n, _, rfl⟩ := List.mem_map.1 hx
  exact numL_bytes n b hb
theorem textL_bytes (s : ByteArray) : Bytes (textL s) := bytes_app (numL_bytes _) (strL_bytes _)
theorem textsL_bytes (l : List ByteArray) : Bytes (textsL l) := by
  intro b hb
  obtain ⟨x, hx, hb⟩ := List.mem_flatten.1 hb
  obtain ⟨n, _, rfl⟩ := List.mem_map.1 hx
  exact textL_bytes n b hb

set_option maxHeartbeats 4000000 in
theorem number_any (a a2 : Option Addr) (cap cap2 : Nat) (l ns : List Nat) (w : World) (h : BytesP w a cap l) (h2 : NumsP w a2 cap2 ns) (hl : l.length ≤ 100000) (hn : ns.length ≤ 1000) :
    Calls Tryz.prog 46 #[.slice a l.length cap, .slice a2 ns.length cap2] w (OwnPost (l ++ numsL ns) w) := by
  have H := Lib.hid h
  have H2 := Lib.hid h2
  have C := Lib.hid (clone_any a cap l w h (by omega))
  clear h h2
  go_enter Tryz.func46, Tryz.ntmps46
  go_wp2_with fail
  refine C.out.mono ?_
  rintro e w1 ⟨v1, rfl, o1, b1⟩
  have O1 := Lib.hid o1
  clear o1
  go_wp2_with fail
  go_loopw [5, 12] (fun s i wr => ∃ (k : Nat) (acc : List Nat), k ≤ ns.length ∧ i = .int .i64 k ∧ Hid (OwnB wr w.heap.size s acc) ∧ Hid (acc ++ numsL (ns.drop k) = l ++ numsL ns) ∧ acc.length ≤ l.length + 10 * k ∧ Below w.heap.size w wr) (fun _ i _ => ns.length - (intOf i).toNat)
  case atStart => exact ⟨0, l, Nat.zero_le _, rfl, O1, Lib.hid rfl, by omega, b1⟩
  case round =>
    obtain ⟨k, acc, hk, rfl, HO, HS, hac, hbw⟩ := hrel
    by_cases hlt : k < ns.length
    · obtain ⟨b, o, rfl, hb, hc⟩ := (H2.out.below hbw).cell (by intro e; subst e; simp at hlt)
      have g1 := hc k _ (List.getElem?_eq_getElem hlt)
      have p1 := H2.out.cap
      have hx := H2.out.num _ (List.getElem_mem hlt)
      have HD := Lib.hid (numsL_drop hlt)
      generalize ns[k] = x at *
      have hten := numL_ten hx
      have HN := Lib.hid (show (acc ++ numL x) ++ numsL (ns.drop (k + 1)) = l ++ numsL ns by rw [← HS.out, HD.out, List.append_assoc])
      have HL := Lib.hid (show (acc ++ numL x).length ≤ l.length + 10 * (k + 1) by rw [List.length_append]; omega)
      have C2 := Lib.hid (appendNumber_any _ x w.heap.size acc wr HO.out hx (by omega) hbw.size)
      clear hc
      go_wp2_with fail
      refine C2.out.mono ?_
      rintro e w2 ⟨v2, rfl, o2, b2⟩
      have O2 := Lib.hid o2
      have bb := hbw.trans b2
      clear o2 b2
      go_wp2_with fail
      go_roundw
      case rel => exact ⟨k + 1, _, by omega, by go_num, O2, HN, HL.out, bb⟩
      case measure => simp [intOf]; omega
    · have HE := Lib.hid (show l ++ numsL ns = acc by rw [← HS.out, List.drop_eq_nil_of_le (by omega)]; exact List.append_nil _)
      go_wp2_with fail
      go_ret
      exact ⟨_, rfl, by rw [HE.out]; exact HO.out, hbw⟩

set_option maxHeartbeats 4000000 in
theorem text_any (a a2 : Option Addr) (cap cap2 : Nat) (l : List Nat) (ns : List ByteArray) (w : World) (h : BytesP w a cap l) (h2 : StrsP w a2 cap2 ns) (hl : l.length ≤ 100000) (hn : ns.length ≤ 1000) (hs : ∀ s ∈ ns, s.size ≤ 800) :
    Calls Tryz.prog 47 #[.slice a l.length cap, .slice a2 ns.length cap2] w (OwnPost (l ++ textsL ns) w) := by
  have H := Lib.hid h
  have H2 := Lib.hid h2
  have HZ := Lib.hid hs
  have C := Lib.hid (clone_any a cap l w h (by omega))
  clear h h2 hs
  go_enter Tryz.func47, Tryz.ntmps47
  go_wp2_with fail
  refine C.out.mono ?_
  rintro e w1 ⟨v1, rfl, o1, b1⟩
  have O1 := Lib.hid o1
  clear o1
  go_wp2_with fail
  go_loopw [5, 12] (fun s i wr => ∃ (k : Nat) (acc : List Nat), k ≤ ns.length ∧ i = .int .i64 k ∧ Hid (OwnB wr w.heap.size s acc) ∧ Hid (acc ++ textsL (ns.drop k) = l ++ textsL ns) ∧ acc.length ≤ l.length + 810 * k ∧ Below w.heap.size w wr) (fun _ i _ => ns.length - (intOf i).toNat)
  case atStart => exact ⟨0, l, Nat.zero_le _, rfl, O1, Lib.hid rfl, by omega, b1⟩
  case round =>
    obtain ⟨k, acc, hk, rfl, HO, HS, hac, hbw⟩ := hrel
    by_cases hlt : k < ns.length
    · obtain ⟨b, o, rfl, hb, hc⟩ := (H2.out.below hbw).cell (by intro e; subst e; simp at hlt)
      have g1 := hc k _ (List.getElem?_eq_getElem hlt)
      have p1 := H2.out.cap
      have hx := HZ.out _ (List.getElem_mem hlt)
      have HD := Lib.hid (textsL_drop hlt)
      generalize ns[k] = x at *
      have hten := numL_ten (show x.size < 18446744073709551616 by omega)
      have HX := Lib.hid (strL_len x)
      have HN := Lib.hid (show ((acc ++ numL x.size) ++ strL x) ++ textsL (ns.drop (k + 1)) = l ++ textsL ns by rw [← HS.out, HD.out, textL, List.append_assoc, List.append_assoc, List.append_assoc])
      have HL1 := Lib.hid (show (acc ++ numL x.size).length ≤ l.length + 810 * k + 10 by rw [List.length_append]; omega)
      have HL := Lib.hid (show ((acc ++ numL x.size) ++ strL x).length ≤ l.length + 810 * (k + 1) by rw [List.length_append, HX.out]; have := HL1.out; omega)
      have C2 := Lib.hid (appendNumber_any _ x.size w.heap.size acc wr HO.out (by omega) (by omega) hbw.size)
      have hwz : IntKind.u64.wrap (x.size : Int) = (x.size : Int) := by rw [IntKind.wrap_u64]; omega
      clear hc
      go_wp2_with fail
      refine C2.out.mono ?_
      rintro e w2 ⟨v2, rfl, o2, b2⟩
      have O2 := Lib.hid o2
      have bb := hbw.trans b2
      clear o2 b2
      go_wp2_with (at_builtin; go_must (refine wpList_append_text rfl _ _ rfl w.heap.size _ _ x rfl O2.out rfl (by have := HL1.out; omega) bb.size ?_))
      rintro v3 w3 o3 g3
      have bw3 := bb.grown g3 bb.size O2.out.row
      have O3 := Lib.hid o3
      clear o3 g3
      go_wp2_with fail
      go_roundw
      case rel => exact ⟨k + 1, _, by omega, by go_num, O3, Lib.hid (by rw [← List.append_assoc]; exact HN.out), by rw [← List.append_assoc]; exact HL.out, bw3⟩
      case measure => simp [intOf]; omega
    · have HE := Lib.hid (show l ++ textsL ns = acc by rw [← HS.out, List.drop_eq_nil_of_le (by omega)]; exact List.append_nil _)
      go_wp2_with fail
      go_ret
      exact ⟨_, rfl, by rw [HE.out]; exact HO.out, hbw⟩

end

/- BkFar: Regions that draw their order, whose operations only read and whose callees may lay memory of their own: walked once, in the worlds that keep all that was there. -/
section
set_option maxRecDepth 100000
open Go.RowKit

/-- What another world has that keeps all of w. -/
structure Far (w : World) where
  heap : Array Obj
  drawn : Nat
  size : w.heap.size ≤ heap.size
  block : ∀ k, k < w.heap.size → heap[k]? = w.heap[k]?
instance farHas (w : World) : Inhabited (Far w) := ⟨⟨w.heap, w.drawn, Nat.le_refl _, fun _ _ => rfl⟩⟩
def farOf (w : World) (p : Far w) : World := { w with heap := p.heap, drawn := p.drawn }
theorem far_below (w : World) (p : Far w) : Below w.heap.size w (farOf w p) := ⟨rfl, rfl, rfl, p.size, p.block⟩
theorem far_cell {w : World} {a : Addr} {v : Value} (hb : a.block < w.heap.size) (h : w.cell? a = some v) (p : Far w) : (farOf w p).cell? a = some v := ((far_below w p).cell hb).trans h
theorem far_of_below {w w' : World} (h : Below w.heap.size w w') : ∃ p : Far w, w' = farOf w p := by
  refine ⟨⟨w'.heap, w'.drawn, h.size, h.block⟩, ?_⟩
  obtain ⟨h1, h2, h3, _, _⟩ := h
  cases w'; cases w
  simp only at h1 h2 h3
  subst h1 h2 h3
  rfl
theorem calls_far {P : Program} {f : FuncId} {args : Array Value} {w : World} {p : Far w} {v : Value}
    (h : Calls P f args (farOf w p) fun e w' => e = .returned v ∧ Below (farOf w p).heap.size (farOf w p) w') : Calls P f args (farOf w p) fun e w'' => e = .returned v ∧ ∃ p, w'' = farOf w p :=
  h.mono fun _ _ ⟨he, hb⟩ => ⟨he, far_of_below ((far_below w p).trans (hb.mono (far_below w p).size))⟩
theorem calls_far_same {P : Program} {f : FuncId} {args : Array Value} {w : World} {p : Far w} {v : Value}
    (h : Calls P f args (farOf w p) fun e w' => e = .returned v ∧ farOf w p = w') : Calls P f args (farOf w p) fun e w'' => e = .returned v ∧ ∃ p, w'' = farOf w p :=
  h.mono fun _ _ ⟨he, hb⟩ => ⟨he, p, hb.symm⟩
theorem wp_region_far {P : Program} {id : Nat} {Q : Exit → Act → World → Prop} {a : Act} {w : World} {l : List Oper} (hm : P.follows .mixedOrders = true) (hB : Region.lexB .any l.toArray = true)
    (h : wpQuiet P l.toArray (fun w' => ∃ p : Far w, w' = farOf w p) (fun a' => ∀ w', (∃ p : Far w, w' = farOf w p) → Q .normal a' w') l a) : (Code.region id l.toArray true).wp P Q a w :=
  wp_region_quiet (C := fun w' => ∃ p : Far w, w' = farOf w p) hm hB (far_of_below ⟨rfl, rfl, rfl, Nat.le_refl _, fun _ _ => rfl⟩) (by simpa using h)
end
end Go.Proofs.YtfmpibmhhfmajaaGreatDoor
