/- What Number and Text of a Reader of package packet answer, as one state that is read on; what readLine, readGroup and readSaga of package order answer. -/
import Derived.Test.YtpmgafmbmjokhaaDoorOrPlain
import Derived.Test.YtpmgafmbmjokhaaDoorBkReader
import Derived.Test.YtpmgafmbmjokhaaDoorLnRight
namespace Go.Proofs.YtpmgafmbmjokhaaDoor
open Go.RowKit Go.ChangeShapes Go.WideShapes Go.ChangeAt

/-- A Reader at block g of which this is left. -/
def RdS (w : World) (g : Nat) (s : Sc) : Prop := (s = none ∧ RdP w g [] 0 true) ∨ ∃ l pos, s = some (l.drop pos) ∧ RdP w g l pos false

/-- This is answered, and the Reader is further on. -/
def ReadS (g : Nat) (v : Value) (s : Sc) (w : World) (e : Ending) (w' : World) : Prop := e = .returned v ∧ RdS w' g s ∧ But g w w'

theorem RdS.lt {w : World} {g : Nat} {s : Sc} (h : RdS w g s) : g < w.heap.size := by
  rcases h with ⟨_, h⟩ | ⟨_, _, _, h⟩ <;> exact h.lt
theorem RdS.below {w w' : World} {g : Nat} {s : Sc} (h : RdS w g s) (hb : Below w.heap.size w w') : RdS w' g s := by
  rcases h with ⟨e, h⟩ | ⟨l, p, e, h⟩
  · exact .inl ⟨e, h.below hb⟩
  · exact .inr ⟨l, p, e, h.below hb⟩
theorem RdP.bytes {w : World} {g : Nat} {l : List Nat} {pos : Nat} {bad : Bool} (h : RdP w g l pos bad) : Bytes l := by
  obtain ⟨_, _, _, h, _⟩ := h.mem
  exact h.byte
theorem RdS.bytes {w : World} {g : Nat} {s : Sc} (h : RdS w g s) : BytesS s := by
  rcases h with ⟨e, h⟩ | ⟨l, p, e, h⟩
  · subst e; intro b e; cases e
  · subst e; intro b e; cases e
    exact fun x hx => h.bytes x (List.mem_of_mem_drop hx)
/-- What turns in other blocks that came later, is nothing to it. -/
theorem RdP.other {w w' : World} {g k : Nat} {l : List Nat} {pos : Nat} {bad : Bool} (h : RdP w g l pos bad) (hk : g < k) (hb : But k w w') : RdP w' g l pos bad := by
  obtain ⟨a, c, h1, h2, h3⟩ := h.mem
  exact ⟨h.le, h.len, a, c, (hb.block g h.lt (Nat.ne_of_lt hk)).trans h1, h2.but (fun b o e => Nat.lt_trans (h3 b o e) hk) hb, h3⟩
theorem RdS.other {w w' : World} {g k : Nat} {s : Sc} (h : RdS w g s) (hk : g < k) (hb : But k w w') : RdS w' g s := by
  rcases h with ⟨e, h⟩ | ⟨l, p, e, h⟩
  · exact .inl ⟨e, h.other hk hb⟩
  · exact .inr ⟨l, p, e, h.other hk hb⟩
theorem But.new {g k : Nat} {w w' w'' : World} (h : But g w w') (hk : w.heap.size ≤ k) (hb : But k w' w'') : But g w w'' :=
  ⟨hb.os.trans h.os, hb.tape.trans h.tape, hb.output.trans h.output, Nat.le_trans h.size hb.size, fun i hi hg => (hb.block i (Nat.lt_of_lt_of_le hi h.size) (by omega)).trans (h.block i hi hg)⟩

theorem numAt_in {m : Nat} {l : List Nat} {pos v k : Nat} (hp : pos ≤ l.length) (h : numAt m 0 0 (l.drop pos) = (v, k, 0)) : pos + k ≤ l.length := by
  rcases numAt_errs m (l.drop pos) 0 0 with h1 | h1 | ⟨v', k', h1, _, h3⟩
  · rw [h] at h1; simp at h1
  · rw [h] at h1; simp at h1
  · rw [h] at h1
    simp only [Prod.mk.injEq, and_true] at h1
    rw [List.length_drop] at h3
    omega

theorem rd_num (w : World) (g : Nat) (s : Sc) (most : Nat) (h : RdS w g s) (hm : most < 18446744073709551616) :
    Calls Tryd.prog 31 #[.pointer (some ⟨g, 0, none⟩), .int .u64 (most : Int)] w (ReadS g (.int .u64 ((numS most s).1 : Int)) (numS most s).2 w) := by
  rcases h with ⟨rfl, h⟩ | ⟨l, pos, rfl, h⟩
  · exact (rdNumber_bad w g [] 0 _ h).mono fun e w' ⟨he, hw⟩ => ⟨he, .inl ⟨rfl, hw ▸ h⟩, hw ▸ But.refl _ _⟩
  · rcases hn : numAt most 0 0 (l.drop pos) with ⟨v, k, e⟩
    by_cases he : e = 0
    · subst he
      have hs := numAt_in h.le hn
      have hq : numS most (some (l.drop pos)) = (v, some (l.drop (pos + k))) := by simp [numS, hn]
      rw [hq]
      exact (rdNumber_ok w g l pos most v k h hm hn hs).mono fun e w' ⟨he, hr, hb⟩ => ⟨he, .inr ⟨l, pos + k, rfl, hr⟩, hb⟩
    · have hq : numS most (some (l.drop pos)) = (0, none) := by simp [numS, hn, he]
      rw [hq]
      exact (rdNumber_err w g l pos most h hm (by rw [hn]; exact he)).mono fun e w' ⟨he, hr, hb⟩ => ⟨he, .inl ⟨rfl, hr⟩, hb⟩

theorem rd_text (w : World) (g : Nat) (s : Sc) (most : Nat) (h : RdS w g s) (hm : most ≤ 9223372036854775807) :
    Calls Tryd.prog 30 #[.pointer (some ⟨g, 0, none⟩), .int .i64 (most : Int)] w (ReadS g (.string (strB (textS most s).1)) (textS most s).2 w) := by
  rcases h with ⟨rfl, h⟩ | ⟨l, pos, rfl, h⟩
  · exact (rdText_bad w g _ h (by omega)).mono fun e w' ⟨he, hr, hb⟩ => ⟨he, .inl ⟨rfl, hr⟩, hb⟩
  · rcases hn : numAt most 0 0 (l.drop pos) with ⟨v, k, e⟩
    by_cases he : e = 0
    · subst he
      have hs := numAt_in h.le hn
      have hq : numS most (some (l.drop pos)) = (v, some (l.drop (pos + k))) := by simp [numS, hn]
      have hl : (l.drop (pos + k)).length = l.length - (pos + k) := List.length_drop
      by_cases hf : l.length - (pos + k) < v
      · have ht : textS most (some (l.drop pos)) = ([], none) := by rw [textS_eq, hq]; simp only; rw [if_pos (by omega)]
        rw [ht]
        exact (rdText_few w g l pos most v k h hm hn hs hf).mono fun e w' ⟨he, hr, hb⟩ => ⟨he, .inl ⟨rfl, hr⟩, hb⟩
      · have ht : textS most (some (l.drop pos)) = ((l.drop (pos + k)).take v, some (l.drop (pos + k + v))) := by rw [textS_eq, hq]; simp only; rw [if_neg (by omega), List.drop_drop]
        rw [ht]
        exact (rdText_ok w g l pos most v k h hm hn hs hf).mono fun e w' ⟨he, hr, hb⟩ => ⟨he, .inr ⟨l, pos + k + v, rfl, hr⟩, hb⟩
    · have hq : numS most (some (l.drop pos)) = (0, none) := by simp [numS, hn, he]
      have ht : textS most (some (l.drop pos)) = ([], none) := by rw [textS_eq, hq]
      rw [ht]
      exact (rdText_err w g l pos most h hm (by rw [hn]; exact he)).mono fun e w' ⟨he, hr, hb⟩ => ⟨he, .inl ⟨rfl, hr⟩, hb⟩

theorem rd_bad_any (w : World) (g : Nat) (s : Sc) (h : RdS w g s) : Calls Tryd.prog 20 #[.pointer (some ⟨g, 0, none⟩)] w (BoolSame s.isNone w) := by
  rcases h with ⟨rfl, h⟩ | ⟨l, pos, rfl, h⟩ <;> exact bad_any w g _ _ _ h

/-- A block of cells. -/
def Row (w : World) (g : Nat) (T : TypeId) (cs : Array Value) : Prop := w.heap[g]? = some (.cells cs T (0, 0))
theorem Row.lt {w : World} {g : Nat} {T : TypeId} {cs : Array Value} (h : Row w g T cs) : g < w.heap.size := (Array.getElem?_eq_some_iff.1 h).1
theorem Row.but {w w' : World} {g k : Nat} {T : TypeId} {cs : Array Value} (h : Row w k T cs) (hb : But g w w') (hk : k ≠ g) : Row w' k T cs := (hb.block k h.lt hk).trans h
theorem Row.below {w w' : World} {k : Nat} {T : TypeId} {cs : Array Value} (h : Row w k T cs) (hb : Below w.heap.size w w') : Row w' k T cs := (hb.block k h.lt).trans h
theorem Row.set {w : World} {g : Nat} {T : TypeId} {cs : Array Value} (h : Row w g T cs) (o : Nat) (v : Value) : Row (w.setCell ⟨g, o, none⟩ v) g T (cs.setIfInBounds o v) := by
  unfold Row at h ⊢
  simp [World.setCell, Array.getElem?_modify, h]
theorem Row.cell {w : World} {g : Nat} {T : TypeId} {cs : Array Value} (h : Row w g T cs) (o : Nat) : w.cell? ⟨g, o, none⟩ = cs[o]? := cell_of_row w g o cs T _ h
theorem Row.free {w : World} {g : Nat} {T : TypeId} {cs : Array Value} (h : Row w g T cs) (o : Nat) : w.frozen? ⟨g, o, none⟩ = false := by
  unfold Row at h
  simp [World.frozen?, h]

/-- A call that reads into a variable of its own: its result's block, then the variable's. -/
structure Rin (w : World) (g : Nat) (T : TypeId) (z cs : Array Value) (s : Sc) (w' : World) : Prop where
  rd : RdS w' g s
  but : But g w w'
  res : Row w' w.heap.size T z
  var : Row w' (w.heap.size + 1) T cs

theorem Rin.begin {w : World} {g : Nat} {s : Sc} (h : RdS w g s) (T : TypeId) (z : Array Value) : Rin w g T z z s ((w.alloc (.cells z T)).alloc (.cells z T)) := by
  have b : Below w.heap.size w ((w.alloc (.cells z T)).alloc (.cells z T)) := ((Below.refl _ _).alloc (Nat.le_refl _) _).alloc (by simp) _
  refine ⟨h.below b, .of b, ?_, heap_alloc2_new _ _ _⟩
  show _ = _
  rw [heap_alloc_old _ _ (by simp)]
  exact heap_alloc_new _ _
theorem Rin.call {w w1 w2 : World} {g : Nat} {T : TypeId} {z cs : Array Value} {s t : Sc} (h : Rin w g T z cs s w1) (hg : g < w.heap.size) (r : RdS w2 g t) (b : But g w1 w2) : Rin w g T z cs t w2 :=
  ⟨r, h.but.trans b, h.res.but b (by omega), h.var.but b (by omega)⟩
theorem Rin.set {w w1 : World} {g : Nat} {T : TypeId} {z cs : Array Value} {s : Sc} (h : Rin w g T z cs s w1) (hg : g < w.heap.size) (o : Nat) (v : Value) : Rin w g T z (cs.setIfInBounds o v) s (w1.setCell ⟨w.heap.size + 1, o, none⟩ v) :=
  ⟨h.rd.other (k := w.heap.size + 1) (by omega) ((But.refl _ _).set o v), h.but.new (k := w.heap.size + 1) (by omega) ((But.refl _ _).set o v), h.res.but (g := w.heap.size + 1) ((But.refl _ _).set o v) (by omega), h.var.set o v⟩
theorem Rin.fin {w w1 : World} {g : Nat} {T : TypeId} {z cs : Array Value} {s : Sc} (h : Rin w g T z cs s w1) (hg : g < w.heap.size) (ds : Array Value) : RdS (w1.setRow w.heap.size ds) g s ∧ But g w (w1.setRow w.heap.size ds) :=
  ⟨h.rd.other (k := w.heap.size) hg ((But.refl _ _).setRow ds), h.but.new (Nat.le_refl _) ((But.refl _ _).setRow ds)⟩

/-- What turns in a later block is nothing to it. -/
theorem Rin.far {w w1 w2 : World} {g k : Nat} {T : TypeId} {z cs : Array Value} {s : Sc} (h : Rin w g T z cs s w1) (hg : g < w.heap.size) (hk : w.heap.size + 2 ≤ k) (b : But k w1 w2) : Rin w g T z cs s w2 :=
  ⟨h.rd.other (by omega) b, h.but.new (by omega) b, h.res.but b (by omega), h.var.but b (by omega)⟩
theorem But.drew (k : Nat) (w : World) : But k w w.drew := ⟨rfl, rfl, rfl, Nat.le_refl _, fun _ _ _ => rfl⟩
theorem But.alloc (k : Nat) (w : World) (o : Obj) : But k w (w.alloc o) := .of ((Below.refl _ _).alloc (Nat.le_refl _) _)
theorem But.grown {w w' : World} {row : Option Nat} (h : w.grownBy w' row) {B : Nat} (hr : ∀ k, row = some k → B ≤ k) : ∃ k, B ≤ k ∧ But k w w' := by
  cases row with
  | none => exact ⟨B, Nat.le_refl _, h.os, h.tape, h.output, h.size, fun i hi _ => h.block i hi (by simp)⟩
  | some k => exact ⟨k, hr k rfl, h.os, h.tape, h.output, h.size, fun i hi hk => h.block i hi (by simpa using hk)⟩

theorem cellsR3 {w : World} {g : Nat} {T : TypeId} {p q r : Value} (h : Row w g T #[p, q, r]) : (w.cell? ⟨g, 0, none⟩ = some p ∧ w.cell? ⟨g, 1, none⟩ = some q ∧ w.cell? ⟨g, 2, none⟩ = some r) ∧ w.frozen? ⟨g, 0, none⟩ = false ∧ w.frozen? ⟨g, 1, none⟩ = false ∧ w.frozen? ⟨g, 2, none⟩ = false :=
  ⟨⟨h.cell 0, h.cell 1, h.cell 2⟩, h.free 0, h.free 1, h.free 2⟩

theorem sizeL (x0 x1 x2 : Value) : (Tryd.prog.info? 49).map (·.size) = some #[x0, x1, x2].size := by
  show _ = some 3
  kernel_rfl
theorem sizeG (x0 x1 x2 : Value) : (Tryd.prog.info? 32).map (·.size) = some #[x0, x1, x2].size := by
  show _ = some 3
  kernel_rfl
theorem sizeS (x0 x1 x2 : Value) : (Tryd.prog.info? 34).map (·.size) = some #[x0, x1, x2].size := by
  show _ = some 3
  kernel_rfl

/-- A line is answered, and the Reader is further on. -/
def lineV (x : Ln) : Value := .agg #[.string x.sku, .int .i64 x.qty, .int .i64 x.wt]

set_option maxRecDepth 100000 in
set_option maxHeartbeats 4000000 in
theorem readLine_any (w : World) (g : Nat) (s : Sc) (h : RdS w g s) : Calls Tryd.prog 32 #[.pointer (some ⟨g, 0, none⟩)] w (ReadS g (lineV (lineS s).1) (lineS s).2 w) := by
  have hg := h.lt
  have K0 := Lib.hid (Rin.begin h 49 #[.string ⟨#[]⟩, .int .i64 0, .int .i64 0])
  have y1 := h.bytes
  rcases h1 : textS 32 s with ⟨v1, s1⟩
  have z1 : BytesS s1 := by have := (textS_bytes y1 32).1; rwa [h1] at this
  have C1 := Lib.hid (fun W hW => show Calls Tryd.prog 30 #[.pointer (some ⟨g, 0, none⟩), .int .i64 32] W (ReadS g (.string (strB v1)) s1 W) by have := rd_text W g s 32 hW (by decide); rwa [h1] at this)
  have y2 := z1
  rcases h2 : numS 1000 s1 with ⟨v2, s2⟩
  have z2 : BytesS s2 := by have := numS_bytes y2 1000; rwa [h2] at this
  have n2 : v2 ≤ 1000 := by have := numS_le 1000 s1 y2; rwa [h2] at this
  have C2 := Lib.hid (fun W hW => show Calls Tryd.prog 31 #[.pointer (some ⟨g, 0, none⟩), .int .u64 1000] W (ReadS g (.int .u64 (v2 : Int)) s2 W) by have := rd_num W g s1 1000 hW (by decide); rwa [h2] at this)
  have e2 : IntKind.i64.wrap (v2 : Int) = (v2 : Int) := by rw [IntKind.wrap_i64]; omega
  have y3 := z2
  rcases h3 : numS 100000 s2 with ⟨v3, s3⟩
  have z3 : BytesS s3 := by have := numS_bytes y3 100000; rwa [h3] at this
  have n3 : v3 ≤ 100000 := by have := numS_le 100000 s2 y3; rwa [h3] at this
  have C3 := Lib.hid (fun W hW => show Calls Tryd.prog 31 #[.pointer (some ⟨g, 0, none⟩), .int .u64 100000] W (ReadS g (.int .u64 (v3 : Int)) s3 W) by have := rd_num W g s2 100000 hW (by decide); rwa [h3] at this)
  have e3 : IntKind.i64.wrap (v3 : Int) = (v3 : Int) := by rw [IntKind.wrap_i64]; omega
  have HP := Lib.hid (show lineS s = (⟨strB v1, (v2 : Int), (v3 : Int)⟩, s3) by simp only [lineS, h1, h2, h3])
  clear h h1 h2 h3 y1 y2 y3 z1 z2 z3
  clear n2 n3
  go_enter Tryd.func32, Tryd.ntmps32
  go_wp2_with fail
  generalize (w.alloc (Obj.cells #[Value.string ⟨#[]⟩, Value.int IntKind.i64 0, Value.int IntKind.i64 0] 49)).alloc (Obj.cells #[Value.string ⟨#[]⟩, Value.int IntKind.i64 0, Value.int IntKind.i64 0] 49) = W0 at *
  refine (C1.out _ K0.out.rd).mono ?_
  rintro e w1 ⟨rfl, r1, b1⟩
  have J1 := Lib.hid (K0.out.call hg r1 b1)
  obtain ⟨⟨c0, c1, c2⟩, f0, f1, f2⟩ := cellsR3 J1.out.var
  clear r1 b1
  have K1 := Lib.hid (J1.out.set hg 0 (.string (strB v1)))
  go_wp2_with fail
  clear c0 c1 c2 f0 f1 f2
  generalize w1.setCell ⟨w.heap.size + 1, 0, none⟩ (.string (strB v1)) = W1 at *
  refine (C2.out _ K1.out.rd).mono ?_
  rintro e w2 ⟨rfl, r2, b2⟩
  have J2 := Lib.hid (K1.out.call hg r2 b2)
  obtain ⟨⟨c0, c1, c2⟩, f0, f1, f2⟩ := cellsR3 J2.out.var
  clear r2 b2
  have K2 := Lib.hid (J2.out.set hg 1 (.int .i64 (v2 : Int)))
  go_wp2_with fail
  clear c0 c1 c2 f0 f1 f2
  generalize w2.setCell ⟨w.heap.size + 1, 1, none⟩ (.int .i64 (v2 : Int)) = W2 at *
  refine (C3.out _ K2.out.rd).mono ?_
  rintro e w3 ⟨rfl, r3, b3⟩
  have J3 := Lib.hid (K2.out.call hg r3 b3)
  obtain ⟨⟨c0, c1, c2⟩, f0, f1, f2⟩ := cellsR3 J3.out.var
  clear r3 b3
  have K3 := Lib.hid (J3.out.set hg 2 (.int .i64 (v3 : Int)))
  go_wp2_with (refine wpList_store_row rfl 49 _ _ rfl w.heap.size #[.string (strB v1), .int .i64 (v2 : Int), .int .i64 (v3 : Int)] rfl rfl 49 #[.string ⟨#[]⟩, .int .i64 0, .int .i64 0] K3.out.res (sizeL _ _ _) rfl (by simp [Value.oneCell']) ?_)
  (try simp only [Exit.inBlock, Exit.then])
  refine bodyPost_ret (v := .agg #[.string (strB v1), .int .i64 (v2 : Int), .int .i64 (v3 : Int)]) ?_ rfl ⟨by rw [HP.out]; rfl, by rw [HP.out]; exact (K3.out.fin hg _).1, (K3.out.fin hg _).2⟩
  exact results_cell_row rfl _ _ w.heap.size 49 _ (0, 0) _ rfl (setRow_heap _ _ _ _ _ _ K3.out.res) Tryd.underlying49 rfl (sizeL _ _ _)

/-- A group's texts, a saga's numbers. -/
def groupS (s : Sc) : (List Nat × List Nat × List Nat) × Sc :=
  (((textS 32 s).1, (textS 32 (textS 32 s).2).1, (textS 32 (textS 32 (textS 32 s).2).2).1), (textS 32 (textS 32 (textS 32 s).2).2).2)
def sagaS (s : Sc) : (Nat × Nat × Nat) × Sc :=
  (((numS 12 s).1, (numS 1 (numS 12 s).2).1, (numS 1000000 (numS 1 (numS 12 s).2).2).1), (numS 1000000 (numS 1 (numS 12 s).2).2).2)
def groupV (t : List Nat × List Nat × List Nat) : Value := .agg #[.string (strB t.1), .string (strB t.2.1), .string (strB t.2.2)]
def sagaV (t : Nat × Nat × Nat) : Value := .agg #[.int .i64 (t.1 : Int), .bool (decide (t.2.1 = 1)), .int .i64 (t.2.2 : Int)]

set_option maxRecDepth 100000 in
set_option maxHeartbeats 4000000 in
theorem readGroup_any (w : World) (g : Nat) (s : Sc) (h : RdS w g s) : Calls Tryd.prog 33 #[.pointer (some ⟨g, 0, none⟩)] w (ReadS g (groupV (groupS s).1) (groupS s).2 w) := by
  have hg := h.lt
  have K0 := Lib.hid (Rin.begin h 32 #[.string ⟨#[]⟩, .string ⟨#[]⟩, .string ⟨#[]⟩])
  have y1 := h.bytes
  rcases h1 : textS 32 s with ⟨v1, s1⟩
  have z1 : BytesS s1 := by have := (textS_bytes y1 32).1; rwa [h1] at this
  have C1 := Lib.hid (fun W hW => show Calls Tryd.prog 30 #[.pointer (some ⟨g, 0, none⟩), .int .i64 32] W (ReadS g (.string (strB v1)) s1 W) by have := rd_text W g s 32 hW (by decide); rwa [h1] at this)
  have y2 := z1
  rcases h2 : textS 32 s1 with ⟨v2, s2⟩
  have z2 : BytesS s2 := by have := (textS_bytes y2 32).1; rwa [h2] at this
  have C2 := Lib.hid (fun W hW => show Calls Tryd.prog 30 #[.pointer (some ⟨g, 0, none⟩), .int .i64 32] W (ReadS g (.string (strB v2)) s2 W) by have := rd_text W g s1 32 hW (by decide); rwa [h2] at this)
  have y3 := z2
  rcases h3 : textS 32 s2 with ⟨v3, s3⟩
  have z3 : BytesS s3 := by have := (textS_bytes y3 32).1; rwa [h3] at this
  have C3 := Lib.hid (fun W hW => show Calls Tryd.prog 30 #[.pointer (some ⟨g, 0, none⟩), .int .i64 32] W (ReadS g (.string (strB v3)) s3 W) by have := rd_text W g s2 32 hW (by decide); rwa [h3] at this)
  have HP := Lib.hid (show groupS s = ((v1, v2, v3), s3) by simp only [groupS, h1, h2, h3])
  clear h h1 h2 h3 y1 y2 y3 z1 z2 z3
  go_enter Tryd.func33, Tryd.ntmps33
  go_wp2_with fail
  generalize (w.alloc (Obj.cells #[Value.string ⟨#[]⟩, Value.string ⟨#[]⟩, Value.string ⟨#[]⟩] 32)).alloc (Obj.cells #[Value.string ⟨#[]⟩, Value.string ⟨#[]⟩, Value.string ⟨#[]⟩] 32) = W0 at *
  refine (C1.out _ K0.out.rd).mono ?_
  rintro e w1 ⟨rfl, r1, b1⟩
  have J1 := Lib.hid (K0.out.call hg r1 b1)
  obtain ⟨⟨c0, c1, c2⟩, f0, f1, f2⟩ := cellsR3 J1.out.var
  clear r1 b1
  have K1 := Lib.hid (J1.out.set hg 0 (.string (strB v1)))
  go_wp2_with fail
  clear c0 c1 c2 f0 f1 f2
  generalize w1.setCell ⟨w.heap.size + 1, 0, none⟩ (.string (strB v1)) = W1 at *
  refine (C2.out _ K1.out.rd).mono ?_
  rintro e w2 ⟨rfl, r2, b2⟩
  have J2 := Lib.hid (K1.out.call hg r2 b2)
  obtain ⟨⟨c0, c1, c2⟩, f0, f1, f2⟩ := cellsR3 J2.out.var
  clear r2 b2
  have K2 := Lib.hid (J2.out.set hg 1 (.string (strB v2)))
  go_wp2_with fail
  clear c0 c1 c2 f0 f1 f2
  generalize w2.setCell ⟨w.heap.size + 1, 1, none⟩ (.string (strB v2)) = W2 at *
  refine (C3.out _ K2.out.rd).mono ?_
  rintro e w3 ⟨rfl, r3, b3⟩
  have J3 := Lib.hid (K2.out.call hg r3 b3)
  obtain ⟨⟨c0, c1, c2⟩, f0, f1, f2⟩ := cellsR3 J3.out.var
  clear r3 b3
  have K3 := Lib.hid (J3.out.set hg 2 (.string (strB v3)))
  go_wp2_with (refine wpList_store_row rfl 32 _ _ rfl w.heap.size #[.string (strB v1), .string (strB v2), .string (strB v3)] rfl rfl 32 #[.string ⟨#[]⟩, .string ⟨#[]⟩, .string ⟨#[]⟩] K3.out.res (sizeG _ _ _) rfl (by simp [Value.oneCell']) ?_)
  (try simp only [Exit.inBlock, Exit.then])
  refine bodyPost_ret (v := .agg #[.string (strB v1), .string (strB v2), .string (strB v3)]) ?_ rfl ⟨by rw [HP.out]; rfl, by rw [HP.out]; exact (K3.out.fin hg _).1, (K3.out.fin hg _).2⟩
  exact results_cell_row rfl _ _ w.heap.size 32 _ (0, 0) _ rfl (setRow_heap _ _ _ _ _ _ K3.out.res) Tryd.underlying32 rfl (sizeG _ _ _)

set_option maxRecDepth 100000 in
set_option maxHeartbeats 4000000 in
theorem readSaga_any (w : World) (g : Nat) (s : Sc) (h : RdS w g s) : Calls Tryd.prog 34 #[.pointer (some ⟨g, 0, none⟩)] w (ReadS g (sagaV (sagaS s).1) (sagaS s).2 w) := by
  have hg := h.lt
  have K0 := Lib.hid (Rin.begin h 34 #[.int .i64 0, .bool false, .int .i64 0])
  have y1 := h.bytes
  rcases h1 : numS 12 s with ⟨v1, s1⟩
  have z1 : BytesS s1 := by have := numS_bytes y1 12; rwa [h1] at this
  have n1 : v1 ≤ 12 := by have := numS_le 12 s y1; rwa [h1] at this
  have C1 := Lib.hid (fun W hW => show Calls Tryd.prog 31 #[.pointer (some ⟨g, 0, none⟩), .int .u64 12] W (ReadS g (.int .u64 (v1 : Int)) s1 W) by have := rd_num W g s 12 hW (by decide); rwa [h1] at this)
  have e1 : IntKind.i64.wrap (v1 : Int) = (v1 : Int) := by rw [IntKind.wrap_i64]; omega
  have y2 := z1
  rcases h2 : numS 1 s1 with ⟨v2, s2⟩
  have z2 : BytesS s2 := by have := numS_bytes y2 1; rwa [h2] at this
  have n2 : v2 ≤ 1 := by have := numS_le 1 s1 y2; rwa [h2] at this
  have C2 := Lib.hid (fun W hW => show Calls Tryd.prog 31 #[.pointer (some ⟨g, 0, none⟩), .int .u64 1] W (ReadS g (.int .u64 (v2 : Int)) s2 W) by have := rd_num W g s1 1 hW (by decide); rwa [h2] at this)
  have e2 : ((v2 : Int) == 1) = decide (v2 = 1) := by rw [Bool.eq_iff_iff]; simp; omega
  have y3 := z2
  rcases h3 : numS 1000000 s2 with ⟨v3, s3⟩
  have z3 : BytesS s3 := by have := numS_bytes y3 1000000; rwa [h3] at this
  have n3 : v3 ≤ 1000000 := by have := numS_le 1000000 s2 y3; rwa [h3] at this
  have C3 := Lib.hid (fun W hW => show Calls Tryd.prog 31 #[.pointer (some ⟨g, 0, none⟩), .int .u64 1000000] W (ReadS g (.int .u64 (v3 : Int)) s3 W) by have := rd_num W g s2 1000000 hW (by decide); rwa [h3] at this)
  have e3 : IntKind.i64.wrap (v3 : Int) = (v3 : Int) := by rw [IntKind.wrap_i64]; omega
  have HP := Lib.hid (show sagaS s = ((v1, v2, v3), s3) by simp only [sagaS, h1, h2, h3])
  clear h h1 h2 h3 y1 y2 y3 z1 z2 z3
  clear n1 n2 n3
  go_enter Tryd.func34, Tryd.ntmps34
  go_wp2_with fail
  generalize (w.alloc (Obj.cells #[Value.int IntKind.i64 0, Value.bool false, Value.int IntKind.i64 0] 34)).alloc (Obj.cells #[Value.int IntKind.i64 0, Value.bool false, Value.int IntKind.i64 0] 34) = W0 at *
  refine (C1.out _ K0.out.rd).mono ?_
  rintro e w1 ⟨rfl, r1, b1⟩
  have J1 := Lib.hid (K0.out.call hg r1 b1)
  obtain ⟨⟨c0, c1, c2⟩, f0, f1, f2⟩ := cellsR3 J1.out.var
  clear r1 b1
  have K1 := Lib.hid (J1.out.set hg 0 (.int .i64 (v1 : Int)))
  go_wp2_with fail
  clear c0 c1 c2 f0 f1 f2
  generalize w1.setCell ⟨w.heap.size + 1, 0, none⟩ (.int .i64 (v1 : Int)) = W1 at *
  refine (C2.out _ K1.out.rd).mono ?_
  rintro e w2 ⟨rfl, r2, b2⟩
  have J2 := Lib.hid (K1.out.call hg r2 b2)
  obtain ⟨⟨c0, c1, c2⟩, f0, f1, f2⟩ := cellsR3 J2.out.var
  clear r2 b2
  have K2 := Lib.hid (J2.out.set hg 1 (.bool (decide (v2 = 1))))
  go_wp2_with fail
  clear c0 c1 c2 f0 f1 f2
  generalize w2.setCell ⟨w.heap.size + 1, 1, none⟩ (.bool (decide (v2 = 1))) = W2 at *
  refine (C3.out _ K2.out.rd).mono ?_
  rintro e w3 ⟨rfl, r3, b3⟩
  have J3 := Lib.hid (K2.out.call hg r3 b3)
  obtain ⟨⟨c0, c1, c2⟩, f0, f1, f2⟩ := cellsR3 J3.out.var
  clear r3 b3
  have K3 := Lib.hid (J3.out.set hg 2 (.int .i64 (v3 : Int)))
  go_wp2_with (refine wpList_store_row rfl 34 _ _ rfl w.heap.size #[.int .i64 (v1 : Int), .bool (decide (v2 = 1)), .int .i64 (v3 : Int)] rfl rfl 34 #[.int .i64 0, .bool false, .int .i64 0] K3.out.res (sizeS _ _ _) rfl (by simp [Value.oneCell']) ?_)
  (try simp only [Exit.inBlock, Exit.then])
  refine bodyPost_ret (v := .agg #[.int .i64 (v1 : Int), .bool (decide (v2 = 1)), .int .i64 (v3 : Int)]) ?_ rfl ⟨by rw [HP.out]; rfl, by rw [HP.out]; exact (K3.out.fin hg _).1, (K3.out.fin hg _).2⟩
  exact results_cell_row rfl _ _ w.heap.size 34 _ (0, 0) _ rfl (setRow_heap _ _ _ _ _ _ K3.out.res) Tryd.underlying34 rfl (sizeS _ _ _)


end Go.Proofs.YtpmgafmbmjokhaaDoor
