/- Rows of lines that a call has made for itself; slices.Insert of one line into such a row, whatever its road. -/
import Derived.Test.YtijcgioggmphkaaIns3
namespace Go.Proofs.Ytijcgioggmphkaa
open Go.RowKit Go.Lib Go.Shelf

def cellsOf (x : Ln) : List Value := [.string x.sku, .int .i64 x.qty, .int .i64 x.wt]
/-- The cells of lines, one behind the other. -/
def cellsL (l : List Ln) : List Value := l.flatMap cellsOf
theorem cellsL_nil : cellsL [] = [] := rfl
theorem cellsL_cons (x : Ln) (l : List Ln) : cellsL (x :: l) = .string x.sku :: .int .i64 x.qty :: .int .i64 x.wt :: cellsL l := rfl
theorem cellsL_append (a b : List Ln) : cellsL (a ++ b) = cellsL a ++ cellsL b := by simp [cellsL]
theorem cellsL_len : ∀ (l : List Ln), (cellsL l).length = l.length * 3
  | [] => rfl
  | x :: r => by
    have := cellsL_len r
    simp only [cellsL_cons, List.length_cons, this]
    omega
theorem cellsL_take : ∀ (l : List Ln) (i : Nat), (cellsL l).take (i * 3) = cellsL (l.take i)
  | [], i => by simp [cellsL]
  | x :: r, 0 => by simp [cellsL_nil]
  | x :: r, i + 1 => by
    have := cellsL_take r i
    rw [show (i + 1) * 3 = i * 3 + 1 + 1 + 1 by omega]
    simp only [cellsL_cons, List.take_succ_cons, this]
theorem cellsL_drop : ∀ (l : List Ln) (i : Nat), (cellsL l).drop (i * 3) = cellsL (l.drop i)
  | [], i => by simp [cellsL]
  | x :: r, 0 => by simp
  | x :: r, i + 1 => by
    have := cellsL_drop r i
    rw [show (i + 1) * 3 = i * 3 + 1 + 1 + 1 by omega]
    simp only [cellsL_cons, List.drop_succ_cons, this]
theorem cellsL_get : ∀ (l : List Ln) (j : Nat) (x : Ln), l[j]? = some x → (cellsL l)[j * 3]? = some (.string x.sku) ∧ (cellsL l)[j * 3 + 1]? = some (.int .i64 x.qty) ∧ (cellsL l)[j * 3 + 2]? = some (.int .i64 x.wt)
  | [], j, x, h => by simp at h
  | y :: r, 0, x, h => by simp at h; subst h; simp [cellsL_cons]
  | y :: r, j + 1, x, h => by
    have := cellsL_get r j x (by simpa using h)
    rw [show (j + 1) * 3 = j * 3 + 1 + 1 + 1 by omega]
    refine ⟨?_, ?_, ?_⟩
    · simpa only [cellsL_cons, List.getElem?_cons_succ] using this.1
    · rw [show j * 3 + 1 + 1 + 1 + 1 = (j * 3 + 1) + 1 + 1 + 1 by omega]
      simpa only [cellsL_cons, List.getElem?_cons_succ] using this.2.1
    · rw [show j * 3 + 1 + 1 + 1 + 2 = (j * 3 + 2) + 1 + 1 + 1 by omega]
      simpa only [cellsL_cons, List.getElem?_cons_succ] using this.2.2
theorem cellsL_one : ∀ (l : List Ln) (v : Value), v ∈ cellsL l → v.oneCell' = true := by
  intro l v hv
  obtain ⟨x, _, hx⟩ := List.mem_flatMap.1 hv
  simp only [cellsOf, List.mem_cons, List.not_mem_nil, or_false] at hx
  rcases hx with rfl | rfl | rfl <;> rfl
theorem cellsOf_one (x : Ln) (v : Value) (hv : v ∈ cellsOf x) : v.oneCell' = true := by
  simp only [cellsOf, List.mem_cons, List.not_mem_nil, or_false] at hv
  rcases hv with rfl | rfl | rfl <;> rfl
theorem cellsL_putAt (l : List Ln) (i : Nat) (x : Ln) : cellsL (putAt l i x) = (cellsL l).take (i * 3) ++ (cellsOf x ++ (cellsL l).drop (i * 3)) := by
  unfold putAt
  rw [cellsL_append, cellsL_take, cellsL_drop]
  rfl

/-- A slice that is a row of its call's own, from block base on. -/
def OwnL (w : World) (base : Nat) (v : Value) (ls : List Ln) : Prop := w.ownsRow base 27 3 v ls.length (cellsL ls)

theorem OwnL.lns {w : World} {base : Nat} {v : Value} {ls : List Ln} (h : OwnL w base v ls) (hsz : ∀ x ∈ ls, x.sku.size ≤ maxLen) : ∃ a cap, v = .slice a ls.length cap ∧ LnsP w a cap ls := by
  rcases h.2 with ⟨rfl, h0⟩ | ⟨g, cap, cur, rfl, h1, h2, h3, h4, h5, h6⟩
  · have := List.eq_nil_of_length_eq_zero h0
    subst this
    exact ⟨none, 0, rfl, LnsP.nil _ _ _⟩
  · refine ⟨_, cap, rfl, h3, hsz, fun _ => ⟨g, 0, rfl, (Array.getElem?_eq_some_iff.1 h2).1, fun j x hx => ?_⟩⟩
    have hc : ∀ i u, (cellsL ls)[i]? = some u → w.cell? ⟨g, i, none⟩ = some u := by
      intro i u hi
      rw [← h6, List.getElem?_take] at hi
      split at hi
      · simp only [Array.getElem?_toList] at hi
        simp [World.cell?, h2, hi]
      · cases hi
    obtain ⟨c1, c2, c3⟩ := cellsL_get ls j x hx
    simp only [Nat.zero_add]
    exact ⟨hc _ _ c1, hc _ _ c2, hc _ _ c3⟩

theorem OwnL.below {w w' : World} {base : Nat} {v : Value} {ls : List Ln} (h : OwnL w base v ls) (hb : Below w.heap.size w w') : OwnL w' base v ls := own_below h hb
theorem OwnL.nil (w : World) (base : Nat) : OwnL w base (.slice none 0 0) [] := ⟨rfl, .inl ⟨rfl, rfl⟩⟩

theorem heap_setCells (g : Nat) (e : TypeId) (z : Nat × Nat) : ∀ (vs : List Value) (o : Nat) (w : World) (cur : Array Value), w.heap[g]? = some (.cells cur e z) → o + vs.length ≤ cur.size →
    ∃ cur', (w.setCells g o vs).heap[g]? = some (.cells cur' e z) ∧ cur'.toList = cur.toList.take o ++ vs ++ cur.toList.drop (o + vs.length)
  | [], o, w, cur, h, _ => ⟨cur, h, by simp⟩
  | v :: r, o, w, cur, h, hs => by
    have h1 : (w.setCell ⟨g, o, none⟩ v).heap[g]? = some (.cells (cur.set! o v) e z) := by
      simp [World.setCell, Array.getElem?_modify, h]
    simp only [List.length_cons] at hs
    obtain ⟨cur', e1, e2⟩ := heap_setCells g e z r (o + 1) _ _ h1 (by simp; omega)
    refine ⟨cur', e1, ?_⟩
    rw [e2]
    have ho : o < cur.toList.length := by simp; omega
    simp only [Array.set!_eq_setIfInBounds, Array.toList_setIfInBounds, List.length_cons]
    rw [List.take_add_one, List.take_set_of_le (Nat.le_refl _), List.getElem?_set_self ho, List.drop_set_of_lt (by omega)]
    simp [show o + 1 + r.length = o + (r.length + 1) by omega]

theorem below_setCells {B b : Nat} {a : World} (hb : B ≤ b) : ∀ (vs : List Value) (o : Nat) (w : World), Below B a w → Below B a (w.setCells b o vs)
  | [], _, _, h => h
  | v :: r, o, w, h => below_setCells hb r (o + 1) _ (h.setCell (by exact hb) v)

theorem take_front {X Y : List Value} {n : Nat} (h : X.length = n) : (X ++ Y).take n = X := by rw [List.take_append_of_le_length (by omega), ← h, List.take_length]
theorem drop_front {X Y : List Value} {n : Nat} (h : X.length = n) : (X ++ Y).drop n = Y := by rw [List.drop_append_of_le_length (by omega), ← h, List.drop_length]; rfl

/-- A piece laid in, and behind it what stood from there on: in a row whose head is that of cs. -/
theorem mid_take {A B C cs vs : List Value} {p q n : Nat} (hA : A.take p = cs.take p) (hp : p ≤ cs.length) (hv : vs.length = q) (hn : n = cs.length + q) : ((A.take p ++ vs ++ B).take (p + q) ++ cs.drop p ++ C).take n = cs.take p ++ (vs ++ cs.drop p) := by
  rw [hA, take_front (X := cs.take p ++ vs) (by simp; omega), take_front (X := cs.take p ++ vs ++ cs.drop p) (by simp; omega)]
  simp
theorem mid_shift {A C cs vs : List Value} {p q n : Nat} (hA : A.take p = cs.take p) (hp : p + q ≤ A.length) (hpl : p ≤ cs.length) (hv : vs.length = q) (hn : n = cs.length + q) :
    ((A.take (p + q) ++ cs.drop p ++ C).take p ++ vs ++ (A.take (p + q) ++ cs.drop p ++ C).drop (p + q)).take n = cs.take p ++ (vs ++ cs.drop p) := by
  have e1 : (A.take (p + q) ++ cs.drop p ++ C).take p = cs.take p := by
    rw [List.append_assoc, List.take_append_of_le_length (by simp; omega), List.take_take, ← hA]
    congr 1; omega
  have e2 : (A.take (p + q) ++ cs.drop p ++ C).drop (p + q) = cs.drop p ++ C := by
    rw [List.append_assoc, drop_front (by simp; omega)]
  rw [e1, e2, ← List.append_assoc, take_front (by simp; omega)]
  simp

theorem grown_setCell {W w : World} {row : Option Nat} {b : Nat} (hb : W.heap.size ≤ b ∨ row = some b) (h : W.grownBy w row) (o : Nat) (v : Value) : W.grownBy (w.setCell ⟨b, o, none⟩ v) row := by
  refine ⟨h.os, h.tape, h.output, ?_, fun k hk hne => ?_⟩
  · have := h.size
    simp [World.setCell]
    exact this
  · have hkb : k ≠ b := by
      rintro rfl
      rcases hb with hb | hb
      · omega
      · exact hne hb.symm
    rw [← h.block k hk hne]
    simp [World.setCell, Array.getElem?_modify, Ne.symm hkb]
theorem grown_setCells {W : World} {row : Option Nat} {b : Nat} (hb : W.heap.size ≤ b ∨ row = some b) : ∀ (vs : List Value) (o : Nat) (w : World), W.grownBy w row → W.grownBy (w.setCells b o vs) row
  | [], _, _, h => h
  | v :: r, o, w, h => grown_setCells hb r (o + 1) _ (grown_setCell hb h o v)
theorem grown_drew {W w : World} {row : Option Nat} (h : W.grownBy w row) : W.grownBy w.drew row := ⟨h.os, h.tape, h.output, h.size, h.block⟩
theorem grown_refl (W : World) (row : Option Nat) : W.grownBy W row := ⟨rfl, rfl, rfl, Nat.le_refl _, fun _ _ _ => rfl⟩
theorem grown_alloc {W w : World} {row : Option Nat} (h : W.grownBy w row) (o : Obj) : W.grownBy (w.alloc o) row :=
  ⟨h.os, h.tape, h.output, Nat.le_trans h.size (by simp), fun k hk hne => ((World.grownBy_alloc w o none).block k (Nat.lt_of_lt_of_le hk h.size) (by simp)).trans (h.block k hk hne)⟩

def InsOwn (base : Nat) (W : World) (row : Option Nat) (l : List Ln) (e : Ending) (w' : World) : Prop := ∃ v', e = .returned v' ∧ OwnL w' base v' l ∧ W.grownBy w' row ∧ ∀ k, v'.ownBlock = some k → row = some k ∨ W.heap.size ≤ k

theorem zeros_len (n : Nat) : (Builtin.zeroCells zLn.cells n).size = n * 3 := by simp [Builtin.zeroCells, Value.cells]

set_option maxHeartbeats 1000000 in
/-- slices.Insert of one line into a row of the call's own. -/
theorem insert_any (base : Nat) (a : Option Addr) (cap : Nat) (l : List Ln) (i : Nat) (x : Ln) (w : World) (h : OwnL w base (.slice a l.length cap) l) (hb : base ≤ w.heap.size) (hi : i ≤ l.length) (hl : l.length ≤ 1000000) :
    Calls Try.prog 24 #[.slice a l.length cap, .int .i64 i, .slice (some ⟨w.heap.size, 0, none⟩) 1 1] (w.alloc (.cells #[.string x.sku, .int .i64 x.qty, .int .i64 x.wt] 27)) (InsOwn base (w.alloc (.cells #[.string x.sku, .int .i64 x.qty, .int .i64 x.wt] 27)) (Value.slice a l.length cap).ownBlock (putAt l i x)) := by
  have hv : ∀ j v, (cellsOf x)[j]? = some v → (w.alloc (.cells #[.string x.sku, .int .i64 x.qty, .int .i64 x.wt] 27)).cell? ⟨w.heap.size, j, none⟩ = some v := by
    intro j v hj
    match j, hj with
    | 0, hj => simp [cellsOf] at hj; subst hj; simp
    | 1, hj => simp [cellsOf] at hj; subst hj; simp
    | 2, hj => simp [cellsOf] at hj; subst hj; simp
    | _ + 3, hj => simp [cellsOf] at hj
  have hsz : (w.alloc (.cells #[.string x.sku, .int .i64 x.qty, .int .i64 x.wt] 27)).heap.size = w.heap.size + 1 := by simp
  have hbw : Below w.heap.size w (w.alloc (.cells #[.string x.sku, .int .i64 x.qty, .int .i64 x.wt] 27)) := (Below.refl _ _).alloc (Nat.le_refl _) _
  have h' := h.below hbw
  have hnew : (w.alloc (.cells #[.string x.sku, .int .i64 x.qty, .int .i64 x.wt] 27)).heap[w.heap.size]? = some (.cells #[.string x.sku, .int .i64 x.qty, .int .i64 x.wt] 27 (0, 0)) := heap_alloc_new w _
  generalize hW : w.alloc (.cells #[.string x.sku, .int .i64 x.qty, .int .i64 x.wt] 27) = W at *
  have h1v : ∀ v ∈ cellsOf x, v.oneCell' = true := cellsOf_one x
  have hml : l.length + 1 ≤ maxLen := by unfold maxLen; omega
  have hcl : (cellsL l).length = l.length * 3 := cellsL_len l
  have hpl := putAt_len x hi
  rcases h'.2 with ⟨e0, h0⟩ | ⟨g, cap', cur, e0, h1, h2, h3, h4, h5, h6⟩
  · -- the nil slice
    injection e0 with ea _ ec
    subst ea ec
    have hln := List.eq_nil_of_length_eq_zero h0
    subst hln
    obtain rfl : i = 0 := by simpa using hi
    refine (ins_end_grow none 0 0 w.heap.size [] (cellsOf x) W (by decide) (by decide) (by decide) rfl rfl (fun _ => rfl) (fun a e => by cases e) hv h1v).mono ?_
    rintro e w' ⟨rfl, rfl⟩
    refine ⟨_, rfl, ⟨by rw [cellsL_len], .inr ⟨_, _, _, rfl, (by show base ≤ W.heap.size; omega), heap_alloc_new _ _, grownCap_ge _ _ _ _, grownCap_le_maxLen _ _ _ _ hml, ?_, ?_⟩⟩, grown_alloc (grown_drew (grown_refl _ _)) _, fun k hk => .inr (by injection hk with hk; subst hk; exact Nat.le_refl _)⟩
    · have := grownCap_ge W (0 + 1) 0 27
      rw [Array.size_append, zeros_len]
      show 3 + (grownCap W (0 + 1) 0 27 - (0 + 1)) * 3 = grownCap W (0 + 1) 0 27 * 3
      omega
    · rw [Array.toList_append, take_front (by simp [cellsOf, putAt])]
      rfl
  · injection e0 with ea en ec
    subst ea ec
    have hg : g < w.heap.size := by
      rcases h.2 with ⟨e, _⟩ | ⟨g', c', cur', e, _, k2, _⟩
      · cases e
      · injection e with e1
        injection e1 with e1
        injection e1 with e1
        subst e1
        exact (Array.getElem?_eq_some_iff.1 k2).1
    have htake : cur.toList.take (l.length * 3) = cellsL l := h6
    have hcs : ∀ j v, (cellsL l)[j]? = some v → W.cell? ⟨g, j, none⟩ = some v := by
      intro j v hj
      rw [← htake, List.getElem?_take] at hj
      split at hj
      · simp only [Array.getElem?_toList] at hj
        simp [World.cell?, h2, hj]
      · cases hj
    have hsome : ∀ j, j < cap * 3 → (W.cell? ⟨g, j, none⟩).isSome = true := by
      intro j hj
      simp [World.cell?, h2]
      omega
    have hfz : ∀ j, W.frozen? ⟨g, j, none⟩ = false := by
      intro j
      simp [World.frozen?, h2]
    rcases Nat.lt_or_ge i l.length with hlt | hge
    · rcases Nat.lt_or_ge cap (l.length + 1) with hno | hroom
      · -- in the middle, no room
        refine (ins_grow g l.length cap i w.heap.size (cellsL l) (cellsOf x) W hlt h3 hno hl hcl rfl hcs hv (cellsL_one l) h1v).mono ?_
        rintro e w' ⟨rfl, rfl⟩
        generalize hcap : grownCap W (l.length + 1) cap 27 = C
        have hC1 := grownCap_ge W (l.length + 1) cap 27
        have hC2 := grownCap_le_maxLen W (l.length + 1) cap 27 hml
        rw [hcap] at hC1 hC2
        generalize hROW : ((cellsL l).take (i * 3)).toArray ++ Builtin.zeroCells zLn.cells (l.length + 1 - i) ++ Builtin.zeroCells zLn.cells (C - (l.length + 1)) = ROW
        have hRs : ROW.size = C * 3 := by
          rw [← hROW, Array.size_append, Array.size_append, zeros_len, zeros_len, List.size_toArray, List.length_take, hcl]
          omega
        have hRt : ROW.toList.take (i * 3) = (cellsL l).take (i * 3) := by
          rw [← hROW]
          simp only [Array.toList_append, List.append_assoc]
          rw [take_front (by simp; omega)]
        obtain ⟨c1, k1, k2⟩ := heap_setCells W.heap.size 27 (0, 0) (cellsOf x) (i * 3) (W.drew.alloc (.cells ROW 27)) ROW (heap_alloc_new W.drew _) (by
          rw [hRs]; show i * 3 + 3 ≤ _; omega)
        have hc1s : c1.size = C * 3 := by
          rw [← Array.length_toList, k2]
          simp only [List.length_append, List.length_take, List.length_drop, Array.length_toList, hRs, show (cellsOf x).length = 3 from rfl]
          omega
        obtain ⟨c2, m1, m2⟩ := heap_setCells W.heap.size 27 (0, 0) ((cellsL l).drop (i * 3)) ((i + 1) * 3) ((W.drew.alloc (.cells ROW 27)).setCells W.heap.size (i * 3) (cellsOf x)).drew c1 k1 (by
          rw [hc1s, List.length_drop, hcl]; omega)
        have hc2s : c2.size = C * 3 := by
          rw [← Array.length_toList, m2]
          simp only [List.length_append, List.length_take, List.length_drop, Array.length_toList, hc1s, hcl]
          omega
        refine ⟨_, rfl, ?_, ?_, fun k hk => .inr (by injection hk with hk; subst hk; exact Nat.le_refl _)⟩
        · refine ⟨cellsL_len _, .inr ⟨W.heap.size, C, c2, by rw [hpl], by omega, m1, by rw [hpl]; omega, hC2, by omega, ?_⟩⟩
          rw [hpl, m2, k2, cellsL_putAt, show (i + 1) * 3 = i * 3 + 3 by omega]
          exact mid_take hRt (by rw [hcl]; omega) rfl (by rw [hcl]; omega)
        · exact grown_setCells (.inl (Nat.le_refl _)) _ _ _ (grown_drew (grown_setCells (.inl (Nat.le_refl _)) _ _ _ (grown_alloc (grown_drew (grown_refl _ _)) _)))
      · -- in the middle, in place
        have hcm : cap ≤ 9223372036854775807 := by unfold maxLen at h4; omega
        refine (ins_shift g l.length cap i w.heap.size (cellsL l) (cellsOf x) W hlt hroom hcm (by omega) hcl rfl hcs (fun j hj => hsome j (by omega)) (fun j _ => hfz j) hv (cellsL_one l) h1v
          27 27 3 (cap * 3) (by simp [World.shape?, hnew]) (by simp [World.shape?, h2, h5]) (by omega) (by simp [World.frozen?, hnew]) (by simp [World.frozen?, hnew])).mono ?_
        rintro e w' ⟨rfl, rfl⟩
        obtain ⟨c1, k1, k2⟩ := heap_setCells g 27 (0, 0) ((cellsL l).drop (i * 3)) ((i + 1) * 3) W.drew cur h2 (by rw [List.length_drop, hcl]; omega)
        have hc1s : c1.size = cap * 3 := by
          rw [← Array.length_toList, k2]
          simp only [List.length_append, List.length_take, List.length_drop, Array.length_toList, h5, hcl]
          omega
        obtain ⟨c2, m1, m2⟩ := heap_setCells g 27 (0, 0) (cellsOf x) (i * 3) (W.drew.setCells g ((i + 1) * 3) ((cellsL l).drop (i * 3))) c1 k1 (by rw [hc1s]; show i * 3 + 3 ≤ _; omega)
        have hc2s : c2.size = cap * 3 := by
          rw [← Array.length_toList, m2]
          simp only [List.length_append, List.length_take, List.length_drop, Array.length_toList, hc1s, show (cellsOf x).length = 3 from rfl]
          omega
        refine ⟨_, rfl, ?_, ?_, fun k hk => .inl hk⟩
        · refine ⟨cellsL_len _, .inr ⟨g, cap, c2, by rw [hpl], h1, m1, by rw [hpl]; omega, h4, by omega, ?_⟩⟩
          rw [hpl, m2, k2, cellsL_putAt, show (i + 1) * 3 = i * 3 + 3 by omega]
          exact mid_shift (A := cur.toList) (by rw [← htake, List.take_take]; congr 1; omega) (by rw [Array.length_toList, h5]; omega) (by rw [hcl]; omega) rfl (by rw [hcl]; omega)
        · exact grown_setCells (.inr rfl) _ _ _ (grown_setCells (.inr rfl) _ _ _ (grown_drew (grown_refl _ _)))
    · have hil : i = l.length := by omega
      subst hil
      rcases Nat.lt_or_ge cap (l.length + 1) with hno | hroom
      · -- at the end, no room
        refine (ins_end_grow (some ⟨g, 0, none⟩) l.length cap w.heap.size (cellsL l) (cellsOf x) W h3 hno hl hcl rfl (fun e => by cases e) (fun a e j v hj => by injection e with e; subst e; rw [← hcs j v hj]; rw [Addr.add_lit, Nat.zero_add]) hv h1v).mono ?_
        rintro e w' ⟨rfl, rfl⟩
        refine ⟨_, rfl, ⟨cellsL_len _, .inr ⟨W.heap.size, _, _, by rw [hpl], by omega, heap_alloc_new W.drew _, ?_, grownCap_le_maxLen _ _ _ _ hml, ?_, ?_⟩⟩, grown_alloc (grown_drew (grown_refl _ _)) _, fun k hk => .inr (by injection hk with hk; subst hk; exact Nat.le_refl _)⟩
        · rw [hpl]; exact grownCap_ge _ _ _ _
        · have := grownCap_ge W (l.length + 1) cap 27
          rw [Array.size_append, zeros_len, List.size_toArray, List.length_append, hcl, show (cellsOf x).length = 3 from rfl]
          omega
        · rw [hpl, Array.toList_append, take_front (by simp [hcl, cellsOf]; omega), cellsL_putAt, ← hcl, List.take_length, List.drop_length, List.append_nil]
      · -- at the end, in place
        have hcm : cap ≤ 9223372036854775807 := by unfold maxLen at h4; omega
        refine (ins_end_room g l.length cap w.heap.size (cellsOf x) W hroom hcm rfl (fun j hj => hsome _ (by omega)) (fun j _ => hfz _) hv h1v).mono ?_
        rintro e w' ⟨rfl, rfl⟩
        obtain ⟨c1, k1, k2⟩ := heap_setCells g 27 (0, 0) (cellsOf x) (l.length * 3) W cur h2 (by show l.length * 3 + 3 ≤ _; omega)
        have hc1s : c1.size = cap * 3 := by
          rw [← Array.length_toList, k2]
          simp only [List.length_append, List.length_take, List.length_drop, Array.length_toList, h5, show (cellsOf x).length = 3 from rfl]
          omega
        refine ⟨_, rfl, ?_, ?_, fun k hk => .inl hk⟩
        · refine ⟨cellsL_len _, .inr ⟨g, cap, c1, by rw [hpl], h1, k1, by rw [hpl]; omega, h4, by omega, ?_⟩⟩
          rw [hpl, k2, htake, take_front (by simp [hcl, cellsOf]; omega), cellsL_putAt, ← hcl, List.take_length, List.drop_length, List.append_nil]
        · exact grown_setCells (.inr rfl) _ _ _ (grown_refl _ _)

theorem cellsL_set : ∀ (l : List Ln) (k : Nat) (h : k < l.length) (q : Int), (cellsL l).set (k * 3 + 1) (.int .i64 q) = cellsL (l.set k { l[k] with qty := q })
  | [], k, h, _ => by simp at h
  | x :: r, 0, h, q => by simp [cellsL_cons]
  | x :: r, k + 1, h, q => by
    have ih := cellsL_set r k (by simpa using h) q
    rw [show (k + 1) * 3 + 1 = (k * 3 + 1) + 1 + 1 + 1 by omega]
    simp only [cellsL_cons, List.set_cons_succ, List.getElem_cons_succ, ih]

/-- The number of pieces of one line, turned. -/
theorem OwnL.set {w : World} {base g n cap : Nat} {l : List Ln} (h : OwnL w base (.slice (some ⟨g, 0, none⟩) n cap) l) (k : Nat) (hk : k < l.length) (q : Int) : OwnL (w.setCell ⟨g, k * 3 + 1, none⟩ (.int .i64 q)) base (.slice (some ⟨g, 0, none⟩) n cap) (l.set k { l[k] with qty := q }) := by
  rcases h.2 with ⟨e, _⟩ | ⟨g', cap', cur, e, h1, h2, h3, h4, h5, h6⟩
  · cases e
  · injection e with e1 e2 e3
    injection e1 with e1
    injection e1 with e1
    subst e1 e2 e3
    refine ⟨by rw [cellsL_len], .inr ⟨g, cap, cur.set! (k * 3 + 1) (.int .i64 q), by rw [List.length_set], h1, ?_, by rw [List.length_set]; exact h3, h4, by simpa using h5, ?_⟩⟩
    · simp [World.setCell, Array.getElem?_modify, h2]
    · rw [List.length_set, ← cellsL_set l k hk q, ← h6]
      simp only [Array.set!_eq_setIfInBounds, Array.toList_setIfInBounds]
      rw [List.take_set]

/-- The row of a slice that is not empty. -/
theorem OwnL.at {w : World} {base : Nat} {v : Value} {l : List Ln} (h : OwnL w base v l) (k : Nat) (hk : k < l.length) :
    ∃ g cap, v = .slice (some ⟨g, 0, none⟩) l.length cap ∧ base ≤ g ∧ g < w.heap.size ∧ l.length ≤ cap ∧ cap ≤ maxLen ∧ w.cell? ⟨g, k * 3, none⟩ = some (.string l[k].sku) ∧ w.cell? ⟨g, k * 3 + 1, none⟩ = some (.int .i64 l[k].qty) ∧ w.cell? ⟨g, k * 3 + 2, none⟩ = some (.int .i64 l[k].wt) ∧ (∀ j, w.frozen? ⟨g, j, none⟩ = false) := by
  rcases h.2 with ⟨rfl, h0⟩ | ⟨g, cap, cur, rfl, h1, h2, h3, h4, h5, h6⟩
  · omega
  · have hc : ∀ i u, (cellsL l)[i]? = some u → w.cell? ⟨g, i, none⟩ = some u := by
      intro i u hi
      rw [← h6, List.getElem?_take] at hi
      split at hi
      · simp only [Array.getElem?_toList] at hi
        simp [World.cell?, h2, hi]
      · cases hi
    obtain ⟨c1, c2, c3⟩ := cellsL_get l k l[k] (List.getElem?_eq_getElem hk)
    exact ⟨g, cap, rfl, h1, (Array.getElem?_eq_some_iff.1 h2).1, h3, h4, hc _ _ c1, hc _ _ c2, hc _ _ c3, fun j => by simp [World.frozen?, h2]⟩

end Go.Proofs.Ytijcgioggmphkaa
