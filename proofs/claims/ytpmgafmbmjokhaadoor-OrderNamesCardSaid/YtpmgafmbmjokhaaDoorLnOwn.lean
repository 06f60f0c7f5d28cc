/- Rows of lines that a call has made for itself; lines put behind lines in such a row. -/
import Derived.Test.YtpmgafmbmjokhaaDoorLnMem
import Derived.Test.YtpmgafmbmjokhaaDoorBkOwn
namespace Go.Proofs.YtpmgafmbmjokhaaDoor
open Go.RowKit Go.Lib

def cellsOf (x : Ln) : List Value := [.string x.sku, .int .i64 x.qty, .int .i64 x.wt]
/-- The cells of lines, one behind the other. -/
def cellsL (l : List Ln) : List Value := l.flatMap cellsOf
theorem cellsL_nil : cellsL [] = [] := rfl
theorem cellsL_cons (x : Ln) (l : List Ln) : cellsL (x :: l) = .string x.sku :: .int .i64 x.qty :: .int .i64 x.wt :: cellsL l := rfl
theorem cellsL_append (a b : List Ln) : cellsL (a ++ b) = cellsL a ++ cellsL b := by simp [cellsL]
theorem cellsL_len : ∀ (l : List Ln), (cellsL l).length = l.length * 3
  | [] => rfl
  | x :: r => by
    have := cellsL_len r
    simp only [cellsL_cons, List.length_cons, this]
    omega
theorem cellsL_take : ∀ (l : List Ln) (i : Nat), (cellsL l).take (i * 3) = cellsL (l.take i)
  | [], i => by simp [cellsL]
  | x :: r, 0 => by simp [cellsL_nil]
  | x :: r, i + 1 => by
    have := cellsL_take r i
    rw [show (i + 1) * 3 = i * 3 + 1 + 1 + 1 by omega]
    simp only [cellsL_cons, List.take_succ_cons, this]
theorem cellsL_drop : ∀ (l : List Ln) (i : Nat), (cellsL l).drop (i * 3) = cellsL (l.drop i)
  | [], i => by simp [cellsL]
  | x :: r, 0 => by simp
  | x :: r, i + 1 => by
    have := cellsL_drop r i
    rw [show (i + 1) * 3 = i * 3 + 1 + 1 + 1 by omega]
    simp only [cellsL_cons, List.drop_succ_cons, this]
theorem cellsL_get : ∀ (l : List Ln) (j : Nat) (x : Ln), l[j]? = some x → (cellsL l)[j * 3]? = some (.string x.sku) ∧ (cellsL l)[j * 3 + 1]? = some (.int .i64 x.qty) ∧ (cellsL l)[j * 3 + 2]? = some (.int .i64 x.wt)
  | [], j, x, h => by simp at h
  | y :: r, 0, x, h => by simp at h; subst h; simp [cellsL_cons]
  | y :: r, j + 1, x, h => by
    have := cellsL_get r j x (by simpa using h)
    rw [show (j + 1) * 3 = j * 3 + 1 + 1 + 1 by omega]
    refine ⟨?_, ?_, ?_⟩
    · simpa only [cellsL_cons, List.getElem?_cons_succ] using this.1
    · rw [show j * 3 + 1 + 1 + 1 + 1 = (j * 3 + 1) + 1 + 1 + 1 by omega]
      simpa only [cellsL_cons, List.getElem?_cons_succ] using this.2.1
    · rw [show j * 3 + 1 + 1 + 1 + 2 = (j * 3 + 2) + 1 + 1 + 1 by omega]
      simpa only [cellsL_cons, List.getElem?_cons_succ] using this.2.2
theorem cellsL_one : ∀ (l : List Ln) (v : Value), v ∈ cellsL l → v.oneCell' = true := by
  intro l v hv
  obtain ⟨x, _, hx⟩ := List.mem_flatMap.1 hv
  simp only [cellsOf, List.mem_cons, List.not_mem_nil, or_false] at hx
  rcases hx with rfl | rfl | rfl <;> rfl
theorem cellsOf_one (x : Ln) (v : Value) (hv : v ∈ cellsOf x) : v.oneCell' = true := by
  simp only [cellsOf, List.mem_cons, List.not_mem_nil, or_false] at hv
  rcases hv with rfl | rfl | rfl <;> rfl
/-- A slice that is a row of its call's own, from block base on. -/
def OwnL (w : World) (base : Nat) (v : Value) (ls : List Ln) : Prop := w.ownsRow base 49 3 v ls.length (cellsL ls)

theorem OwnL.lns {w : World} {base : Nat} {v : Value} {ls : List Ln} (h : OwnL w base v ls) (hsz : ∀ x ∈ ls, x.sku.size ≤ maxLen) : ∃ a cap, v = .slice a ls.length cap ∧ LnsP w a cap ls := by
  rcases h.2 with ⟨rfl, h0⟩ | ⟨g, cap, cur, rfl, h1, h2, h3, h4, h5, h6⟩
  · have := List.eq_nil_of_length_eq_zero h0
    subst this
    exact ⟨none, 0, rfl, LnsP.nil _ _ _⟩
  · refine ⟨_, cap, rfl, h3, hsz, fun _ => ⟨g, 0, rfl, (Array.getElem?_eq_some_iff.1 h2).1, fun j x hx => ?_⟩⟩
    have hc : ∀ i u, (cellsL ls)[i]? = some u → w.cell? ⟨g, i, none⟩ = some u := by
      intro i u hi
      rw [← h6, List.getElem?_take] at hi
      split at hi
      · simp only [Array.getElem?_toList] at hi
        simp [World.cell?, h2, hi]
      · cases hi
    obtain ⟨c1, c2, c3⟩ := cellsL_get ls j x hx
    simp only [Nat.zero_add]
    exact ⟨hc _ _ c1, hc _ _ c2, hc _ _ c3⟩

theorem OwnL.below {w w' : World} {base : Nat} {v : Value} {ls : List Ln} (h : OwnL w base v ls) (hb : Below w.heap.size w w') : OwnL w' base v ls := own_below h hb
theorem OwnL.nil (w : World) (base : Nat) : OwnL w base (.slice none 0 0) [] := ⟨rfl, .inl ⟨rfl, rfl⟩⟩

theorem OwnL.grown {w w' : World} {base : Nat} {v : Value} {ls : List Ln} (h : OwnL w base v ls) (hb : ∀ k, base ≤ k → k < w.heap.size → w'.heap[k]? = w.heap[k]?) : OwnL w' base v ls := by
  refine ⟨h.1, ?_⟩
  rcases h.2 with h1 | ⟨g, cap, cur, e, h1, h2, h3⟩
  · exact .inl h1
  · exact .inr ⟨g, cap, cur, e, h1, (hb g h1 (Array.getElem?_eq_some_iff.1 h2).1).trans h2, h3⟩
theorem OwnL.shape {w : World} {base : Nat} {v : Value} {l : List Ln} (h : OwnL w base v l) : ∃ a cap, v = .slice a l.length cap := by
  rcases h.2 with ⟨e, h0⟩ | ⟨g, cap, cur, e, _⟩
  · exact ⟨none, 0, by rw [e, h0]⟩
  · exact ⟨_, cap, e⟩
theorem OwnL.base {w : World} {base base' : Nat} {v : Value} {l : List Ln} (h : OwnL w base v l) (hb : base' ≤ base) : OwnL w base' v l :=
  ⟨h.1, h.2.elim Or.inl (fun ⟨g, cap, cur, hv, hg, r⟩ => Or.inr ⟨g, cap, cur, hv, Nat.le_trans hb hg, r⟩)⟩
theorem OwnL.row {w : World} {base : Nat} {v : Value} {l : List Ln} (h : OwnL w base v l) : ∀ k, v.ownBlock = some k → base ≤ k := by
  intro k hk
  rcases h.2 with ⟨rfl, _⟩ | ⟨g, cap, cur, rfl, h1, _⟩
  · cases hk
  · simp [Value.ownBlock] at hk
    omega

theorem lns_cells {w : World} {b o : Nat} {l : List Ln} (hc : ∀ j x, l[j]? = some x → w.cell? ⟨b, o + j * 3, none⟩ = some (.string x.sku) ∧ w.cell? ⟨b, o + j * 3 + 1, none⟩ = some (.int .i64 x.qty) ∧ w.cell? ⟨b, o + j * 3 + 2, none⟩ = some (.int .i64 x.wt)) :
    ∀ j u, (cellsL l)[j]? = some u → w.cell? ⟨b, o + j, none⟩ = some u := by
  intro j u hj
  have hlt : j < l.length * 3 := by
    have := (List.getElem?_eq_some_iff.1 hj).1
    rwa [cellsL_len] at this
  have hk : j / 3 < l.length := by omega
  obtain ⟨c1, c2, c3⟩ := hc (j / 3) l[j / 3] (List.getElem?_eq_getElem hk)
  obtain ⟨d1, d2, d3⟩ := cellsL_get l (j / 3) l[j / 3] (List.getElem?_eq_getElem hk)
  rcases (by omega : j % 3 = 0 ∨ j % 3 = 1 ∨ j % 3 = 2) with h | h | h
  · rw [show j / 3 * 3 = j by omega] at d1
    rw [d1] at hj
    rw [← hj, ← c1, show o + j / 3 * 3 = o + j by omega]
  · rw [show j / 3 * 3 + 1 = j by omega] at d2
    rw [d2] at hj
    rw [← hj, ← c2, show o + j / 3 * 3 + 1 = o + j by omega]
  · rw [show j / 3 * 3 + 2 = j by omega] at d3
    rw [d3] at hj
    rw [← hj, ← c3, show o + j / 3 * 3 + 2 = o + j by omega]

theorem Tryd.infoLn : (Tryd.prog.info? 49).map (fun i => (i.zero, i.size, i.bytes)) = some (some (.agg #[.string ByteArray.empty, .int .i64 0, .int .i64 0]), 3, 32) := by kernel_rfl

theorem run_append_lines (w : World) (base : Nat) (v : Value) (xs ys : List Ln) (hown : OwnL w base v xs) (A : Option Addr) (cA : Nat) (hy : LnsP w A cA ys) (hlen : xs.length + ys.length ≤ 1000000) (hb : base ≤ w.heap.size) (ty : TypeId) :
    ∃ v' w', (Builtin.append_ #[30, 30] ty #[v, .slice A ys.length cA]).run Tryd.prog w = .ok v' w' ∧ OwnL w' base v' (xs ++ ys) ∧ w.grownBy w' v.ownBlock := by
  obtain ⟨i0, hi0, hz0, hzs, hzb⟩ := info_parts Tryd.infoLn
  cases A with
  | none =>
    have hy0 : ys = [] := by
      cases ys with
      | nil => rfl
      | cons y r =>
        obtain ⟨b, o, e, _⟩ := hy.cell (by simp)
        cases e
    subst hy0
    rcases hown.2 with ⟨e, h⟩ | ⟨g, cap, cur, e, h1, h2, h3, h4, h5, h6⟩
    · subst e
      have hx0 := List.eq_nil_of_length_eq_zero h
      subst hx0
      refine ⟨.slice none 0 0, w, ?_, OwnL.nil _ _, grown_refl _ _⟩
      simp [Builtin.append_, run_underlying Tryd.underlying30, sizeOf, typeInfo, hi0, Builtin.lenOf, Builtin.firstCells]
    · subst e
      have hsrc : Src Tryd.prog i0.size 30 (.slice none 0 cA) 0 [] w := Src.ofNil w Tryd.underlying30 cA
      have hr := run_append_room_src w 30 30 ty 49 i0 Tryd.underlying30 hi0 g 0 xs.length cap _ 0 [] hsrc (by omega) (by simp) (by simp)
      refine ⟨_, _, hr, ?_, grown_refl _ _⟩
      rw [List.append_nil]
      exact hown
  | some ad =>
    have hn : ∀ j u, (cellsL ys)[j]? = some u → w.cell? (ad.add j) = some u := by
      intro j u hj
      have hne : ys ≠ [] := by intro e; subst e; simp [cellsL] at hj
      obtain ⟨b, o, e, _, hc⟩ := hy.cell hne
      injection e with e
      subst e
      rw [Addr.add_lit]
      exact lns_cells hc j u hj
    obtain ⟨v', w', hr, h1, h2, h3⟩ := run_append_own w base 30 ty 49 i0 _ 3 32 Tryd.underlying30 hi0 hz0 hzs hzb rfl (by decide) v xs.length (cellsL xs) hown ad ys.length cA (cellsL ys) (cellsL_len ys) hn (cellsL_one ys) (by unfold maxLen; omega) (by omega) hb
    refine ⟨v', w', hr, ?_, h2⟩
    unfold OwnL
    rw [cellsL_append, List.length_append]
    exact h1

theorem wp_append_lines {o : Oper} {a : Act} {w : World} {K : Act → World → Prop} {Q : Exit → Act → World → Prop} (s x : Operand)
    (ho : o.op = .call { callee := .builtin .append, args := #[s, x], argTypes := #[30, 30] }) (base : Nat) (v : Value) (xs ys : List Ln) (hs : a.eval s = v) (hown : OwnL w base v xs) (A : Option Addr) (cA : Nat)
    (hx : a.eval x = .slice A ys.length cA) (hy : LnsP w A cA ys) (hlen : xs.length + ys.length ≤ 1000000) (hb : base ≤ w.heap.size)
    (h : ∀ v' w', OwnL w' base v' (xs ++ ys) → w.grownBy w' v.ownBlock → K (a.put o.dst v') w') : o.wp Tryd.prog a w K Q := by
  obtain ⟨v', w', hr, h1, h2⟩ := run_append_lines w base v xs ys hown A cA hy hlen hb o.type
  unfold Oper.wp execOp
  simp only [ho, resolve, invoke, builtin, Sem.run_bind, Sem.run_pure, Result.andThen_ok, List.map_toArray, List.map_cons, List.map_nil, hs, hx, hr]
  exact h v' w' h1 h2

theorem wpList_append_lines {w : World} {ops : Array Oper} {rest : List Oper} {o : Oper} {a : Act} {Q : Exit → Act → World → Prop} (hgd : o.guard = none) (s x : Operand)
    (ho : o.op = .call { callee := .builtin .append, args := #[s, x], argTypes := #[30, 30] }) (base : Nat) (v : Value) (xs ys : List Ln) (hs : a.eval s = v) (hown : OwnL w base v xs) (A : Option Addr) (cA : Nat)
    (hx : a.eval x = .slice A ys.length cA) (hy : LnsP w A cA ys) (hlen : xs.length + ys.length ≤ 1000000) (hb : base ≤ w.heap.size)
    (h : ∀ v' w', OwnL w' base v' (xs ++ ys) → w.grownBy w' v.ownBlock → wpList Tryd.prog ops Q rest (a.put o.dst v') w') : wpList Tryd.prog ops Q (o :: rest) a w :=
  wpList_plain hgd fun _ hK => wp_append_lines s x ho base v xs ys hs hown A cA hx hy hlen hb fun v' w' h1 h2 => hK _ _ (h v' w' h1 h2)

theorem step_append_lines {w : World} {ops : Array Oper} {o : Oper} {a : Act} {K : Act → World → Prop} {Q : Exit → Act → World → Prop} {E : Prop} (hgd : o.guard = none) (s x : Operand)
    (ho : o.op = .call { callee := .builtin .append, args := #[s, x], argTypes := #[30, 30] }) (base : Nat) (v : Value) (xs ys : List Ln) (hs : a.eval s = v) (hown : OwnL w base v xs) (A : Option Addr) (cA : Nat)
    (hx : a.eval x = .slice A ys.length cA) (hy : LnsP w A cA ys) (hlen : xs.length + ys.length ≤ 1000000) (hb : base ≤ w.heap.size)
    (h : ∀ v' w', OwnL w' base v' (xs ++ ys) → w.grownBy w' v.ownBlock → K (a.put o.dst v') w') :
    if Region.wanted o (yielded ops a.tmps) = true then Oper.wp Tryd.prog o a w K Q else E := by
  have hw : Region.wanted o (yielded ops a.tmps) = true := by simp [Region.wanted, hgd]
  rw [if_pos hw]
  exact wp_append_lines s x ho base v xs ys hs hown A cA hx hy hlen hb h

theorem own_freshL (w : World) (base : Nat) (hb : base ≤ w.heap.size) : OwnL (w.alloc (.cells #[] 49)) base (.slice (some ⟨w.heap.size, 0, none⟩) 0 0) [] := World.ownsRow_made w #[] 0 hb (Nat.zero_le _) (by simp)

/-- Lines laid out by a call itself. -/
theorem lns_block (w : World) (ls : List Ln) (hsz : ∀ x ∈ ls, x.sku.size ≤ maxLen) (hl : ls.length ≤ maxLen) : LnsP (w.alloc (.cells (cellsL ls).toArray 49)) (some ⟨w.heap.size, 0, none⟩) ls.length ls := by
  have h : OwnL (w.alloc (.cells (cellsL ls).toArray 49)) 0 (.slice (some ⟨w.heap.size, 0, none⟩) ls.length ls.length) ls :=
    ⟨cellsL_len ls, .inr ⟨w.heap.size, ls.length, _, rfl, Nat.zero_le _, heap_alloc_new w _, Nat.le_refl _, hl, by simp [cellsL_len], by simp; rw [← cellsL_len, List.take_length]⟩⟩
  exact (by obtain ⟨a, c, e, h⟩ := h.lns hsz; injection e with e1 e2 e3; subst e1 e3; exact h)

theorem cellsL_set : ∀ (l : List Ln) (k : Nat) (h : k < l.length) (q : Int), (cellsL l).set (k * 3 + 1) (.int .i64 q) = cellsL (l.set k { l[k] with qty := q })
  | [], k, h, _ => by simp at h
  | x :: r, 0, h, q => by simp [cellsL_cons]
  | x :: r, k + 1, h, q => by
    have ih := cellsL_set r k (by simpa using h) q
    rw [show (k + 1) * 3 + 1 = (k * 3 + 1) + 1 + 1 + 1 by omega]
    simp only [cellsL_cons, List.set_cons_succ, List.getElem_cons_succ, ih]

/-- The number of pieces of one line, turned. -/
theorem OwnL.set {w : World} {base g n cap : Nat} {l : List Ln} (h : OwnL w base (.slice (some ⟨g, 0, none⟩) n cap) l) (k : Nat) (hk : k < l.length) (q : Int) : OwnL (w.setCell ⟨g, k * 3 + 1, none⟩ (.int .i64 q)) base (.slice (some ⟨g, 0, none⟩) n cap) (l.set k { l[k] with qty := q }) := by
  rcases h.2 with ⟨e, _⟩ | ⟨g', cap', cur, e, h1, h2, h3, h4, h5, h6⟩
  · cases e
  · injection e with e1 e2 e3
    injection e1 with e1
    injection e1 with e1
    subst e1 e2 e3
    refine ⟨by rw [cellsL_len], .inr ⟨g, cap, cur.set! (k * 3 + 1) (.int .i64 q), by rw [List.length_set], h1, ?_, by rw [List.length_set]; exact h3, h4, by simpa using h5, ?_⟩⟩
    · simp [World.setCell, Array.getElem?_modify, h2]
    · rw [List.length_set, ← cellsL_set l k hk q, ← h6]
      simp only [Array.set!_eq_setIfInBounds, Array.toList_setIfInBounds]
      rw [List.take_set]

/-- The row of a slice that is not empty. -/
theorem OwnL.at {w : World} {base : Nat} {v : Value} {l : List Ln} (h : OwnL w base v l) (k : Nat) (hk : k < l.length) :
    ∃ g cap, v = .slice (some ⟨g, 0, none⟩) l.length cap ∧ base ≤ g ∧ g < w.heap.size ∧ l.length ≤ cap ∧ cap ≤ maxLen ∧ w.cell? ⟨g, k * 3, none⟩ = some (.string l[k].sku) ∧ w.cell? ⟨g, k * 3 + 1, none⟩ = some (.int .i64 l[k].qty) ∧ w.cell? ⟨g, k * 3 + 2, none⟩ = some (.int .i64 l[k].wt) ∧ (∀ j, w.frozen? ⟨g, j, none⟩ = false) := by
  rcases h.2 with ⟨rfl, h0⟩ | ⟨g, cap, cur, rfl, h1, h2, h3, h4, h5, h6⟩
  · omega
  · have hc : ∀ i u, (cellsL l)[i]? = some u → w.cell? ⟨g, i, none⟩ = some u := by
      intro i u hi
      rw [← h6, List.getElem?_take] at hi
      split at hi
      · simp only [Array.getElem?_toList] at hi
        simp [World.cell?, h2, hi]
      · cases hi
    obtain ⟨c1, c2, c3⟩ := cellsL_get l k l[k] (List.getElem?_eq_getElem hk)
    exact ⟨g, cap, rfl, h1, (Array.getElem?_eq_some_iff.1 h2).1, h3, h4, hc _ _ c1, hc _ _ c2, hc _ _ c3, fun j => by simp [World.frozen?, h2]⟩

end Go.Proofs.YtpmgafmbmjokhaaDoor
