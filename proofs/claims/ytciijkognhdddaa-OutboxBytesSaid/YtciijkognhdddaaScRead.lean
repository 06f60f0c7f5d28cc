/- What Number and Text of a Reader of package packet answer, as one state that is read on. -/
import Derived.Test.YtciijkognhdddaaRw
import Derived.Test.YtciijkognhdddaaScPlain
import Derived.Test.YtciijkognhdddaaScLeaf
import Derived.Test.YtciijkognhdddaaBkReader
namespace Go.Proofs.Ytciijkognhdddaa
set_option maxRecDepth 100000
open Go.RowKit Go.ChangeShapes Go.WideShapes Go.ChangeAt

/-- A Reader at block g of which this is left. -/
def RdS (w : World) (g : Nat) (s : Sc) : Prop := (s = none ∧ RdP w g [] 0 true) ∨ ∃ l pos, s = some (l.drop pos) ∧ RdP w g l pos false
/-- This is answered, and the Reader is further on. -/
def ReadS (g : Nat) (v : Value) (s : Sc) (w : World) (e : Ending) (w' : World) : Prop := e = .returned v ∧ RdS w' g s ∧ But g w w'
theorem RdS.lt {w : World} {g : Nat} {s : Sc} (h : RdS w g s) : g < w.heap.size := by
  rcases h with ⟨_, h⟩ | ⟨_, _, _, h⟩ <;> exact h.lt
theorem RdS.below {w w' : World} {g : Nat} {s : Sc} (h : RdS w g s) (hb : Below w.heap.size w w') : RdS w' g s := by
  rcases h with ⟨e, h⟩ | ⟨l, p, e, h⟩
  · exact .inl ⟨e, h.below hb⟩
  · exact .inr ⟨l, p, e, h.below hb⟩
theorem RdP.bytes {w : World} {g : Nat} {l : List Nat} {pos : Nat} {bad : Bool} (h : RdP w g l pos bad) : Bytes l := by
  obtain ⟨_, _, _, h, _⟩ := h.mem
  exact h.byte
theorem RdS.bytes {w : World} {g : Nat} {s : Sc} (h : RdS w g s) : BytesS s := by
  rcases h with ⟨e, h⟩ | ⟨l, p, e, h⟩
  · subst e; intro b e; cases e
  · subst e; intro b e; cases e
    exact fun x hx => h.bytes x (List.mem_of_mem_drop hx)
/-- What turns in other blocks that came later, is nothing to it. -/
theorem RdP.other {w w' : World} {g k : Nat} {l : List Nat} {pos : Nat} {bad : Bool} (h : RdP w g l pos bad) (hk : g < k) (hb : But k w w') : RdP w' g l pos bad := by
  obtain ⟨a, c, h1, h2, h3⟩ := h.mem
  exact ⟨h.le, h.len, a, c, (hb.block g h.lt (Nat.ne_of_lt hk)).trans h1, h2.but (fun b o e => Nat.lt_trans (h3 b o e) hk) hb, h3⟩
theorem RdS.other {w w' : World} {g k : Nat} {s : Sc} (h : RdS w g s) (hk : g < k) (hb : But k w w') : RdS w' g s := by
  rcases h with ⟨e, h⟩ | ⟨l, p, e, h⟩
  · exact .inl ⟨e, h.other hk hb⟩
  · exact .inr ⟨l, p, e, h.other hk hb⟩
theorem But.new {g k : Nat} {w w' w'' : World} (h : But g w w') (hk : w.heap.size ≤ k) (hb : But k w' w'') : But g w w'' :=
  ⟨hb.os.trans h.os, hb.tape.trans h.tape, hb.output.trans h.output, Nat.le_trans h.size hb.size, fun i hi hg => (hb.block i (Nat.lt_of_lt_of_le hi h.size) (by omega)).trans (h.block i hi hg)⟩
theorem numAt_in {m : Nat} {l : List Nat} {pos v k : Nat} (hp : pos ≤ l.length) (h : numAt m 0 0 (l.drop pos) = (v, k, 0)) : pos + k ≤ l.length := by
  rcases numAt_errs m (l.drop pos) 0 0 with h1 | h1 | ⟨v', k', h1, _, h3⟩
  · rw [h] at h1; simp at h1
  · rw [h] at h1; simp at h1
  · rw [h] at h1
    simp only [Prod.mk.injEq, and_true] at h1
    rw [List.length_drop] at h3
    omega
theorem rd_num (w : World) (g : Nat) (s : Sc) (most : Nat) (h : RdS w g s) (hm : most < 18446744073709551616) :
    Calls Try.prog 37 #[.pointer (some ⟨g, 0, none⟩), .int .u64 (most : Int)] w (ReadS g (.int .u64 ((numS most s).1 : Int)) (numS most s).2 w) := by
  rcases h with ⟨rfl, h⟩ | ⟨l, pos, rfl, h⟩
  · exact (rdNumber_bad w g [] 0 _ h).mono fun e w' ⟨he, hw⟩ => ⟨he, .inl ⟨rfl, hw ▸ h⟩, hw ▸ But.refl _ _⟩
  · rcases hn : numAt most 0 0 (l.drop pos) with ⟨v, k, e⟩
    by_cases he : e = 0
    · subst he
      have hs := numAt_in h.le hn
      have hq : numS most (some (l.drop pos)) = (v, some (l.drop (pos + k))) := by simp [numS, hn]
      rw [hq]
      exact (rdNumber_ok w g l pos most v k h hm hn hs).mono fun e w' ⟨he, hr, hb⟩ => ⟨he, .inr ⟨l, pos + k, rfl, hr⟩, hb⟩
    · have hq : numS most (some (l.drop pos)) = (0, none) := by simp [numS, hn, he]
      rw [hq]
      exact (rdNumber_err w g l pos most h hm (by rw [hn]; exact he)).mono fun e w' ⟨he, hr, hb⟩ => ⟨he, .inl ⟨rfl, hr⟩, hb⟩
theorem rd_text (w : World) (g : Nat) (s : Sc) (most : Nat) (h : RdS w g s) (hm : most ≤ 9223372036854775807) :
    Calls Try.prog 55 #[.pointer (some ⟨g, 0, none⟩), .int .i64 (most : Int)] w (ReadS g (.string (strB (textS most s).1)) (textS most s).2 w) := by
  rcases h with ⟨rfl, h⟩ | ⟨l, pos, rfl, h⟩
  · exact (rdText_bad w g _ h (by omega)).mono fun e w' ⟨he, hr, hb⟩ => ⟨he, .inl ⟨rfl, hr⟩, hb⟩
  · rcases hn : numAt most 0 0 (l.drop pos) with ⟨v, k, e⟩
    by_cases he : e = 0
    · subst he
      have hs := numAt_in h.le hn
      have hq : numS most (some (l.drop pos)) = (v, some (l.drop (pos + k))) := by simp [numS, hn]
      have hl : (l.drop (pos + k)).length = l.length - (pos + k) := List.length_drop
      by_cases hf : l.length - (pos + k) < v
      · have ht : textS most (some (l.drop pos)) = ([], none) := by rw [textS_eq, hq]; simp only; rw [if_pos (by omega)]
        rw [ht]
        exact (rdText_few w g l pos most v k h hm hn hs hf).mono fun e w' ⟨he, hr, hb⟩ => ⟨he, .inl ⟨rfl, hr⟩, hb⟩
      · have ht : textS most (some (l.drop pos)) = ((l.drop (pos + k)).take v, some (l.drop (pos + k + v))) := by rw [textS_eq, hq]; simp only; rw [if_neg (by omega), List.drop_drop]
        rw [ht]
        exact (rdText_ok w g l pos most v k h hm hn hs hf).mono fun e w' ⟨he, hr, hb⟩ => ⟨he, .inr ⟨l, pos + k + v, rfl, hr⟩, hb⟩
    · have hq : numS most (some (l.drop pos)) = (0, none) := by simp [numS, hn, he]
      have ht : textS most (some (l.drop pos)) = ([], none) := by rw [textS_eq, hq]
      rw [ht]
      exact (rdText_err w g l pos most h hm (by rw [hn]; exact he)).mono fun e w' ⟨he, hr, hb⟩ => ⟨he, .inl ⟨rfl, hr⟩, hb⟩
theorem rd_bad_any (w : World) (g : Nat) (s : Sc) (h : RdS w g s) : Calls Try.prog 39 #[.pointer (some ⟨g, 0, none⟩)] w (BoolSame s.isNone w) := by
  rcases h with ⟨rfl, h⟩ | ⟨l, pos, rfl, h⟩ <;> exact bad_any w g _ _ _ h
theorem rd_done_any (w : World) (g : Nat) (s : Sc) (h : RdS w g s) : Calls Try.prog 30 #[.pointer (some ⟨g, 0, none⟩)] w (BoolB (s == some []) w) := by
  rcases h with ⟨rfl, h⟩ | ⟨l, pos, rfl, h⟩
  · exact done_any w g _ _ _ h
  · have e : (some (l.drop pos) == some []) = (!false && decide (pos = l.length)) := by
      rw [Bool.eq_iff_iff]
      have := h.le
      simp
      omega
    rw [e]
    exact done_any w g _ _ _ h
theorem Row.but {w w' : World} {g k : Nat} {T : TypeId} {cs : Array Value} (h : Row w k T cs) (hb : But g w w') (hk : k ≠ g) : Row w' k T cs := (hb.block k h.lt hk).trans h
/-- A call that reads into a variable of its own: its result's block, then the variable's. -/
structure Rin (w : World) (g : Nat) (T : TypeId) (z cs : Array Value) (s : Sc) (w' : World) : Prop where
  rd : RdS w' g s
  but : But g w w'
  res : Row w' w.heap.size T z
  var : Row w' (w.heap.size + 1) T cs
theorem Rin.begin {w : World} {g : Nat} {s : Sc} (h : RdS w g s) (T : TypeId) (z : Array Value) : Rin w g T z z s ((w.alloc (.cells z T)).alloc (.cells z T)) := by
  have b : Below w.heap.size w ((w.alloc (.cells z T)).alloc (.cells z T)) := ((Below.refl _ _).alloc (Nat.le_refl _) _).alloc (by simp) _
  refine ⟨h.below b, .of b, ?_, heap_alloc2_new _ _ _⟩
  show _ = _
  rw [heap_alloc_old _ _ (by simp)]
  exact heap_alloc_new _ _
theorem Rin.call {w w1 w2 : World} {g : Nat} {T : TypeId} {z cs : Array Value} {s t : Sc} (h : Rin w g T z cs s w1) (hg : g < w.heap.size) (r : RdS w2 g t) (b : But g w1 w2) : Rin w g T z cs t w2 :=
  ⟨r, h.but.trans b, h.res.but b (by omega), h.var.but b (by omega)⟩
theorem Rin.set {w w1 : World} {g : Nat} {T : TypeId} {z cs : Array Value} {s : Sc} (h : Rin w g T z cs s w1) (hg : g < w.heap.size) (o : Nat) (v : Value) : Rin w g T z (cs.setIfInBounds o v) s (w1.setCell ⟨w.heap.size + 1, o, none⟩ v) :=
  ⟨h.rd.other (k := w.heap.size + 1) (by omega) ((But.refl _ _).set o v), h.but.new (k := w.heap.size + 1) (by omega) ((But.refl _ _).set o v), h.res.but (g := w.heap.size + 1) ((But.refl _ _).set o v) (by omega), h.var.set o v⟩
theorem Rin.fin {w w1 : World} {g : Nat} {T : TypeId} {z cs : Array Value} {s : Sc} (h : Rin w g T z cs s w1) (hg : g < w.heap.size) (ds : Array Value) : RdS (w1.setRow w.heap.size ds) g s ∧ But g w (w1.setRow w.heap.size ds) :=
  ⟨h.rd.other (k := w.heap.size) hg ((But.refl _ _).setRow ds), h.but.new (Nat.le_refl _) ((But.refl _ _).setRow ds)⟩
/-- What turns in a later block is nothing to it. -/
theorem Rin.far {w w1 w2 : World} {g k : Nat} {T : TypeId} {z cs : Array Value} {s : Sc} (h : Rin w g T z cs s w1) (hg : g < w.heap.size) (hk : w.heap.size + 2 ≤ k) (b : But k w1 w2) : Rin w g T z cs s w2 :=
  ⟨h.rd.other (by omega) b, h.but.new (by omega) b, h.res.but b (by omega), h.var.but b (by omega)⟩
theorem But.drew (k : Nat) (w : World) : But k w w.drew := ⟨rfl, rfl, rfl, Nat.le_refl _, fun _ _ _ => rfl⟩
theorem But.alloc (k : Nat) (w : World) (o : Obj) : But k w (w.alloc o) := .of ((Below.refl _ _).alloc (Nat.le_refl _) _)
theorem But.grown {w w' : World} {row : Option Nat} (h : w.grownBy w' row) {B : Nat} (hr : ∀ k, row = some k → B ≤ k) : ∃ k, B ≤ k ∧ But k w w' := by
  cases row with
  | none => exact ⟨B, Nat.le_refl _, h.os, h.tape, h.output, h.size, fun i hi _ => h.block i hi (by simp)⟩
  | some k => exact ⟨k, hr k rfl, h.os, h.tape, h.output, h.size, fun i hi hk => h.block i hi (by simpa using hk)⟩
theorem cellsR3 {w : World} {g : Nat} {T : TypeId} {p q r : Value} (h : Row w g T #[p, q, r]) : (w.cell? ⟨g, 0, none⟩ = some p ∧ w.cell? ⟨g, 1, none⟩ = some q ∧ w.cell? ⟨g, 2, none⟩ = some r) ∧ w.frozen? ⟨g, 0, none⟩ = false ∧ w.frozen? ⟨g, 1, none⟩ = false ∧ w.frozen? ⟨g, 2, none⟩ = false :=
  ⟨⟨h.cell 0, h.cell 1, h.cell 2⟩, h.free 0, h.free 1, h.free 2⟩
def groupV (t : List Nat × List Nat × List Nat) : Value := .agg #[.string (strB t.1), .string (strB t.2.1), .string (strB t.2.2)]


end Go.Proofs.Ytciijkognhdddaa
