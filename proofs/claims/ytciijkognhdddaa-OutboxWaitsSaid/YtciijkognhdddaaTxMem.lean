/- Slices of texts in memory: what they read as, rows of a call's own, append onto such rows and onto a slice without room. -/
import Derived.Test.YtciijkognhdddaaTxBase
import Derived.ArgAppend
namespace Go.Proofs.Ytciijkognhdddaa
set_option maxRecDepth 100000
open Go.RowKit

theorem StrsP.nil (w : World) (a : Option Addr) (cap : Nat) : StrsP w a cap [] := ⟨by simp, by simp, fun h => absurd rfl h⟩

/-- The text at a place. -/
theorem StrsP.at {w : World} {a : Option Addr} {cap : Nat} {l : List ByteArray} (h : StrsP w a cap l) (k : Nat) (hk : k < l.length) :
    ∃ b o, a = some ⟨b, o, none⟩ ∧ b < w.heap.size ∧ w.cell? ⟨b, o + k, none⟩ = some (.string l[k]) := by
  have hne : l ≠ [] := by intro e; subst e; simp at hk
  obtain ⟨b, o, e, hlt, hc⟩ := h.cell hne
  exact ⟨b, o, e, hlt, hc k _ (List.getElem?_eq_getElem hk)⟩

theorem StrsP.take {w : World} {a : Option Addr} {cap : Nat} {l : List ByteArray} (h : StrsP w a cap l) (k c : Nat) (hk : k ≤ l.length) (hc : k ≤ c) : StrsP w a c (l.take k) := by
  refine ⟨by rw [List.length_take]; omega, by rw [List.length_take]; have := h.len; omega, fun hne => ?_⟩
  have hne' : l ≠ [] := by intro e; subst e; simp at hne
  obtain ⟨b, o, e, hlt, hcell⟩ := h.cell hne'
  refine ⟨b, o, e, hlt, fun j x hj => ?_⟩
  rw [List.getElem?_take] at hj
  split at hj
  · exact hcell j x hj
  · cases hj

/-- A slice that is a row of its call's own, from block base on. -/
def OwnT (w : World) (base : Nat) (v : Value) (ls : List ByteArray) : Prop := w.ownsRow base 9 1 v ls.length (ls.map .string)

theorem OwnT.strs {w : World} {base : Nat} {v : Value} {ls : List ByteArray} (h : OwnT w base v ls) : ∃ a cap, v = .slice a ls.length cap ∧ StrsP w a cap ls := by
  rcases h.2 with ⟨rfl, h0⟩ | ⟨g, cap, cur, rfl, h1, h2, h3, h4, h5, h6⟩
  · have := List.eq_nil_of_length_eq_zero h0
    subst this
    exact ⟨none, 0, rfl, StrsP.nil _ _ _⟩
  · refine ⟨_, cap, rfl, h3, by unfold maxLen at h4; omega, fun _ => ⟨g, 0, rfl, (Array.getElem?_eq_some_iff.1 h2).1, fun j x hx => ?_⟩⟩
    have hi : (ls.map Value.string)[j]? = some (.string x) := by rw [List.getElem?_map, hx]; rfl
    rw [← h6, List.getElem?_take] at hi
    split at hi
    · simp only [Array.getElem?_toList] at hi
      simp [World.cell?, h2, hi]
    · cases hi
theorem OwnT.reads {w : World} {base : Nat} {a : Option Addr} {n cap : Nat} {ls : List ByteArray} (h : OwnT w base (.slice a n cap) ls) : n = ls.length ∧ StrsP w a cap ls := by
  obtain ⟨a', c', e, hs⟩ := h.strs
  injection e with e1 e2 e3
  subst e1 e3
  exact ⟨e2, hs⟩

theorem OwnT.below {w w' : World} {base : Nat} {v : Value} {ls : List ByteArray} (h : OwnT w base v ls) (hb : Below w.heap.size w w') : OwnT w' base v ls := by
  refine ⟨h.1, ?_⟩
  rcases h.2 with h1 | ⟨g, cap, cur, e, h1, h2, h3⟩
  · exact .inl h1
  · exact .inr ⟨g, cap, cur, e, h1, (hb.block g (Array.getElem?_eq_some_iff.1 h2).1).trans h2, h3⟩
theorem OwnT.nil (w : World) (base : Nat) : OwnT w base (.slice none 0 0) [] := ⟨rfl, .inl ⟨rfl, rfl⟩⟩
theorem OwnT.grown {w w' : World} {base : Nat} {v : Value} {ls : List ByteArray} (h : OwnT w base v ls) (hb : ∀ k, base ≤ k → k < w.heap.size → w'.heap[k]? = w.heap[k]?) : OwnT w' base v ls := by
  refine ⟨h.1, ?_⟩
  rcases h.2 with h1 | ⟨g, cap, cur, e, h1, h2, h3⟩
  · exact .inl h1
  · exact .inr ⟨g, cap, cur, e, h1, (hb g h1 (Array.getElem?_eq_some_iff.1 h2).1).trans h2, h3⟩
theorem OwnT.shape {w : World} {base : Nat} {v : Value} {l : List ByteArray} (h : OwnT w base v l) : ∃ a cap, v = .slice a l.length cap := by
  rcases h.2 with ⟨e, h0⟩ | ⟨g, cap, cur, e, _⟩
  · exact ⟨none, 0, by rw [e, h0]⟩
  · exact ⟨_, cap, e⟩
theorem OwnT.base {w : World} {base base' : Nat} {v : Value} {l : List ByteArray} (h : OwnT w base v l) (hb : base' ≤ base) : OwnT w base' v l :=
  ⟨h.1, h.2.elim Or.inl (fun ⟨g, cap, cur, hv, hg, r⟩ => Or.inr ⟨g, cap, cur, hv, Nat.le_trans hb hg, r⟩)⟩
theorem OwnT.row {w : World} {base : Nat} {v : Value} {l : List ByteArray} (h : OwnT w base v l) : ∀ k, v.ownBlock = some k → base ≤ k := by
  intro k hk
  rcases h.2 with ⟨rfl, _⟩ | ⟨g, cap, cur, rfl, h1, _⟩
  · cases hk
  · simp [Value.ownBlock] at hk
    omega
theorem OwnT.fresh (w : World) (base : Nat) (hb : base ≤ w.heap.size) : OwnT (w.alloc (.cells #[] 9)) base (.slice (some ⟨w.heap.size, 0, none⟩) 0 0) [] := World.ownsRow_made w #[] 0 hb (Nat.zero_le _) (by simp)
/-- Texts that a call lays itself. -/
theorem OwnT.block (w : World) (base : Nat) (ls : List ByteArray) (hb : base ≤ w.heap.size) (hl : ls.length ≤ 1000000) : OwnT (w.alloc (.cells (ls.map Value.string).toArray 9)) base (.slice (some ⟨w.heap.size, 0, none⟩) ls.length ls.length) ls :=
  ⟨by simp, .inr ⟨w.heap.size, ls.length, _, rfl, hb, heap_alloc_new w _, Nat.le_refl _, by unfold maxLen; omega, by simp, by rw [List.take_of_length_le (by simp)]⟩⟩
theorem strs_block1 (W : World) (x : ByteArray) : StrsP (W.alloc (.cells #[.string x] 9)) (some ⟨W.heap.size, 0, none⟩) 1 [x] := (OwnT.block W 0 [x] (Nat.zero_le _) (by simp)).reads.2

theorem Try.infoT : (Try.prog.info? 9).map (fun i => (i.zero, i.size, i.bytes)) = some (some (.string ByteArray.empty), 1, 16) := by kernel_rfl

theorem strs_cells {w : World} {a : Option Addr} {cap : Nat} {l : List ByteArray} (h : StrsP w a cap l) : ∀ b, a = some b → ∀ j u, (l.map Value.string)[j]? = some u → w.cell? (b.add j) = some u := by
  intro ad hA j u hj
  have hne : l ≠ [] := by intro e; subst e; simp at hj
  obtain ⟨b, o, e, _, hc⟩ := h.cell hne
  rw [hA] at e
  injection e with e
  subst e
  rw [Addr.add_lit]
  rw [List.getElem?_map] at hj
  obtain ⟨x, hx, rfl⟩ := Option.map_eq_some_iff.1 hj
  exact hc j x hx

theorem run_append_texts (w : World) (base : Nat) (v : Value) (xs ys : List ByteArray) (hown : OwnT w base v xs) (A : Option Addr) (cA : Nat) (hy : StrsP w A cA ys) (hlen : xs.length + ys.length ≤ 1000000) (hb : base ≤ w.heap.size) (ty : TypeId) :
    ∃ v' w', (Builtin.append_ #[96, 96] ty #[v, .slice A ys.length cA]).run Try.prog w = .ok v' w' ∧ OwnT w' base v' (xs ++ ys) ∧ w.grownBy w' v.ownBlock := by
  obtain ⟨i0, hi0, hz0, hzs, hzb⟩ := info_parts Try.infoT
  cases A with
  | none =>
    have hy0 : ys = [] := by
      cases ys with
      | nil => rfl
      | cons y r =>
        obtain ⟨b, o, e, _⟩ := hy.cell (by simp)
        cases e
    subst hy0
    rcases hown.2 with ⟨e, h⟩ | ⟨g, cap, cur, e, h1, h2, h3, h4, h5, h6⟩
    · subst e
      have hx0 := List.eq_nil_of_length_eq_zero h
      subst hx0
      refine ⟨.slice none 0 0, w, ?_, OwnT.nil _ _, grown_refl _ _⟩
      simp [Builtin.append_, run_underlying Try.underlying96, sizeOf, typeInfo, hi0, Builtin.lenOf, Builtin.firstCells]
    · subst e
      have hsrc : Src Try.prog i0.size 96 (.slice none 0 cA) 0 [] w := Src.ofNil w Try.underlying96 cA
      have hr := run_append_room_src w 96 96 ty 9 i0 Try.underlying96 hi0 g 0 xs.length cap _ 0 [] hsrc (by omega) (by simp) (by simp)
      refine ⟨_, _, hr, ?_, grown_refl _ _⟩
      rw [List.append_nil]
      exact hown
  | some ad =>
    obtain ⟨v', w', hr, h1, h2, h3⟩ := run_append_own w base 96 ty 9 i0 _ 1 16 Try.underlying96 hi0 hz0 hzs hzb rfl (by decide) v xs.length (xs.map .string) hown ad ys.length cA (ys.map .string) (by simp) (strs_cells hy ad rfl) (fun v hv => by obtain ⟨x, _, rfl⟩ := List.mem_map.1 hv; rfl) (by unfold maxLen; omega) (by omega) hb
    refine ⟨v', w', hr, ?_, h2⟩
    unfold OwnT
    rw [List.map_append, List.length_append]
    exact h1

/-- Onto a slice without room. -/
theorem run_append_full (w : World) (xs ys : List ByteArray) (a : Option Addr) (n : Nat) (hn : n = xs.length) (hx : StrsP w a n xs) (ha : a = none → xs = []) (A : Option Addr) (cA : Nat) (hy : StrsP w A cA ys) (h0 : ys ≠ []) (hlen : xs.length + ys.length ≤ 1000000) (ty : TypeId) :
    ∃ v' w', (Builtin.append_ #[96, 96] ty #[.slice a n n, .slice A ys.length cA]).run Try.prog w = .ok v' w' ∧ OwnT w' w.heap.size v' (xs ++ ys) ∧ w.grownBy w' none := by
  subst hn
  obtain ⟨i0, hi0, hz0, hzs, hzb⟩ := info_parts Try.infoT
  obtain ⟨b, o, rfl, _, _⟩ := hy.cell h0
  have hl : 0 < ys.length := List.length_pos_iff.2 h0
  cases a with
  | none =>
    have := ha rfl
    subst this
    obtain ⟨v', w', h1, h2, h3⟩ := run_append_texts w w.heap.size (.slice none 0 0) [] ys (OwnT.nil _ _) _ cA hy hlen (Nat.le_refl _) ty
    exact ⟨v', w', h1, h2, h3⟩
  | some ad =>
    obtain ⟨v', w', hr, h1, h2⟩ := run_append_arg_grows w 96 ty 9 i0 _ 1 16 Try.underlying96 hi0 hz0 hzs hzb rfl (by decide) ad xs.length xs.length (xs.map .string) (by simp) (strs_cells hx ad rfl) ⟨b, o, none⟩ ys.length cA (ys.map .string) (by simp) (strs_cells hy _ rfl) (by omega) (by unfold maxLen; omega) (by omega)
    refine ⟨v', w', hr, ?_, h2⟩
    unfold OwnT
    rw [List.map_append, List.length_append]
    exact h1

theorem wp_append_texts {o : Oper} {a : Act} {w : World} {K : Act → World → Prop} {Q : Exit → Act → World → Prop} (s x : Operand)
    (ho : o.op = .call { callee := .builtin .append, args := #[s, x], argTypes := #[96, 96] }) (base : Nat) (v : Value) (xs ys : List ByteArray) (hs : a.eval s = v) (hown : OwnT w base v xs) (A : Option Addr) (cA : Nat)
    (hx : a.eval x = .slice A ys.length cA) (hy : StrsP w A cA ys) (hlen : xs.length + ys.length ≤ 1000000) (hb : base ≤ w.heap.size)
    (h : ∀ v' w', OwnT w' base v' (xs ++ ys) → w.grownBy w' v.ownBlock → K (a.put o.dst v') w') : o.wp Try.prog a w K Q := by
  obtain ⟨v', w', hr, h1, h2⟩ := run_append_texts w base v xs ys hown A cA hy hlen hb o.type
  unfold Oper.wp execOp
  simp only [ho, resolve, invoke, builtin, Sem.run_bind, Sem.run_pure, Result.andThen_ok, List.map_toArray, List.map_cons, List.map_nil, hs, hx, hr]
  exact h v' w' h1 h2

theorem wpList_append_texts {w : World} {ops : Array Oper} {rest : List Oper} {o : Oper} {a : Act} {Q : Exit → Act → World → Prop} (hgd : o.guard = none) (s x : Operand)
    (ho : o.op = .call { callee := .builtin .append, args := #[s, x], argTypes := #[96, 96] }) (base : Nat) (v : Value) (xs ys : List ByteArray) (hs : a.eval s = v) (hown : OwnT w base v xs) (A : Option Addr) (cA : Nat)
    (hx : a.eval x = .slice A ys.length cA) (hy : StrsP w A cA ys) (hlen : xs.length + ys.length ≤ 1000000) (hb : base ≤ w.heap.size)
    (h : ∀ v' w', OwnT w' base v' (xs ++ ys) → w.grownBy w' v.ownBlock → wpList Try.prog ops Q rest (a.put o.dst v') w') : wpList Try.prog ops Q (o :: rest) a w :=
  wpList_plain hgd fun _ hK => wp_append_texts s x ho base v xs ys hs hown A cA hx hy hlen hb fun v' w' h1 h2 => hK _ _ (h v' w' h1 h2)

theorem step_append_texts {w : World} {ops : Array Oper} {o : Oper} {a : Act} {K : Act → World → Prop} {Q : Exit → Act → World → Prop} {E : Prop} (hgd : o.guard = none) (s x : Operand)
    (ho : o.op = .call { callee := .builtin .append, args := #[s, x], argTypes := #[96, 96] }) (base : Nat) (v : Value) (xs ys : List ByteArray) (hs : a.eval s = v) (hown : OwnT w base v xs) (A : Option Addr) (cA : Nat)
    (hx : a.eval x = .slice A ys.length cA) (hy : StrsP w A cA ys) (hlen : xs.length + ys.length ≤ 1000000) (hb : base ≤ w.heap.size)
    (h : ∀ v' w', OwnT w' base v' (xs ++ ys) → w.grownBy w' v.ownBlock → K (a.put o.dst v') w') :
    if Region.wanted o (yielded ops a.tmps) = true then Oper.wp Try.prog o a w K Q else E := by
  have hw : Region.wanted o (yielded ops a.tmps) = true := by simp [Region.wanted, hgd]
  rw [if_pos hw]
  exact wp_append_texts s x ho base v xs ys hs hown A cA hx hy hlen hb h

theorem wp_append_full {o : Oper} {a : Act} {w : World} {K : Act → World → Prop} {Q : Exit → Act → World → Prop} (s x : Operand)
    (ho : o.op = .call { callee := .builtin .append, args := #[s, x], argTypes := #[96, 96] }) (xs ys : List ByteArray) (b : Option Addr) (n : Nat) (hn : n = xs.length) (hs : a.eval s = .slice b n n) (hown : StrsP w b n xs) (hb : b = none → xs = []) (A : Option Addr) (cA : Nat)
    (hx : a.eval x = .slice A ys.length cA) (hy : StrsP w A cA ys) (h0 : ys ≠ []) (hlen : xs.length + ys.length ≤ 1000000)
    (h : ∀ v' w', OwnT w' w.heap.size v' (xs ++ ys) → w.grownBy w' none → K (a.put o.dst v') w') : o.wp Try.prog a w K Q := by
  obtain ⟨v', w', hr, h1, h2⟩ := run_append_full w xs ys b n hn hown hb A cA hy h0 hlen o.type
  unfold Oper.wp execOp
  simp only [ho, resolve, invoke, builtin, Sem.run_bind, Sem.run_pure, Result.andThen_ok, List.map_toArray, List.map_cons, List.map_nil, hs, hx, hr]
  exact h v' w' h1 h2

theorem wpList_append_full {w : World} {ops : Array Oper} {rest : List Oper} {o : Oper} {a : Act} {Q : Exit → Act → World → Prop} (hgd : o.guard = none) (s x : Operand)
    (ho : o.op = .call { callee := .builtin .append, args := #[s, x], argTypes := #[96, 96] }) (xs ys : List ByteArray) (b : Option Addr) (n : Nat) (hn : n = xs.length) (hs : a.eval s = .slice b n n) (hown : StrsP w b n xs) (hb : b = none → xs = []) (A : Option Addr) (cA : Nat)
    (hx : a.eval x = .slice A ys.length cA) (hy : StrsP w A cA ys) (h0 : ys ≠ []) (hlen : xs.length + ys.length ≤ 1000000)
    (h : ∀ v' w', OwnT w' w.heap.size v' (xs ++ ys) → w.grownBy w' none → wpList Try.prog ops Q rest (a.put o.dst v') w') : wpList Try.prog ops Q (o :: rest) a w :=
  wpList_plain hgd fun _ hK => wp_append_full s x ho xs ys b n hn hs hown hb A cA hx hy h0 hlen fun v' w' h1 h2 => hK _ _ (h v' w' h1 h2)

theorem step_append_full {w : World} {ops : Array Oper} {o : Oper} {a : Act} {K : Act → World → Prop} {Q : Exit → Act → World → Prop} {E : Prop} (hgd : o.guard = none) (s x : Operand)
    (ho : o.op = .call { callee := .builtin .append, args := #[s, x], argTypes := #[96, 96] }) (xs ys : List ByteArray) (b : Option Addr) (n : Nat) (hn : n = xs.length) (hs : a.eval s = .slice b n n) (hown : StrsP w b n xs) (hb : b = none → xs = []) (A : Option Addr) (cA : Nat)
    (hx : a.eval x = .slice A ys.length cA) (hy : StrsP w A cA ys) (h0 : ys ≠ []) (hlen : xs.length + ys.length ≤ 1000000)
    (h : ∀ v' w', OwnT w' w.heap.size v' (xs ++ ys) → w.grownBy w' none → K (a.put o.dst v') w') :
    if Region.wanted o (yielded ops a.tmps) = true then Oper.wp Try.prog o a w K Q else E := by
  have hw : Region.wanted o (yielded ops a.tmps) = true := by simp [Region.wanted, hgd]
  rw [if_pos hw]
  exact wp_append_full s x ho xs ys b n hn hs hown hb A cA hx hy h0 hlen h

/-- s[i:] of a slice of texts. -/
theorem slice_fromT {a : Option Addr} {cap : Nat} {l : List ByteArray} (hc : l.length ≤ cap) (k : Nat) (i : Int) (hi : i = (k : Int)) (hk : k ≤ l.length) :
    ∃ a' c', (∀ W, (Instr.slice 96 (.slice a l.length cap) (some (.int .i64 i)) none none).run Try.prog W = .ok (.slice a' (l.drop k).length c') W) ∧ ∀ W, StrsP W a cap l → StrsP W a' c' (l.drop k) := by
  subst hi
  obtain ⟨i0, hi0, hz0, hzs, hzb⟩ := info_parts Try.infoT
  refine ⟨if cap = k then a else a.map (·.add k), cap - k, fun W => ?_, fun W h => ⟨by rw [List.length_drop]; omega, by have := h.len; rw [List.length_drop]; omega, fun hne => ?_⟩⟩
  · have hz : (Go.sizeOf 9).run Try.prog W = .ok 1 W := by simp [Go.sizeOf, typeInfo, hi0, hzs]
    have h0 : ¬ ((k : Int) < 0) := by omega
    simp [Instr.slice, run_underlying Try.underlying96, Instr.sliceBounds, run_sliceBound, hk]
  · have hlt : k < l.length := by
      rcases Nat.lt_or_ge k l.length with h | h
      · exact h
      · exact absurd (List.drop_eq_nil_of_le h) hne
    obtain ⟨b, o, rfl, hb, hcl⟩ := h.cell (by intro e; subst e; simp at hlt)
    refine ⟨b, o + k, by rw [if_neg (by omega), Option.map_some, Addr.add_lit], hb, fun j x hj => ?_⟩
    rw [Nat.add_assoc]
    exact hcl _ _ (by rw [← List.getElem?_drop]; exact hj)

/-- s[:j] of a slice of texts. -/
theorem slice_toT {a : Option Addr} {cap : Nat} {l : List ByteArray} (hc : l.length ≤ cap) (k : Nat) (i : Int) (hi : i = (k : Int)) (hk : k ≤ l.length) :
    ∃ a' c', (∀ W, (Instr.slice 96 (.slice a l.length cap) none (some (.int .i64 i)) none).run Try.prog W = .ok (.slice a' (l.take k).length c') W) ∧ ∀ W, StrsP W a cap l → StrsP W a' c' (l.take k) := by
  subst hi
  obtain ⟨i0, hi0, hz0, hzs, hzb⟩ := info_parts Try.infoT
  refine ⟨if cap = 0 then a else a.map (·.add 0), cap, fun W => ?_, fun W h => ⟨by rw [List.length_take]; omega, by have := h.len; rw [List.length_take]; omega, fun hne => ?_⟩⟩
  · have hz : (Go.sizeOf 9).run Try.prog W = .ok 1 W := by simp [Go.sizeOf, typeInfo, hi0, hzs]
    have h2 : (k : Int) ≤ (cap : Int) := by omega
    have h3 : min k l.length = k := by omega
    simp [Instr.slice, run_underlying Try.underlying96, Instr.sliceBounds, run_sliceBound, h2, h3]
  · have hlt : 0 < l.length := by
      rcases Nat.eq_zero_or_pos l.length with h | h
      · rw [List.eq_nil_of_length_eq_zero h] at hne; simp at hne
      · exact h
    obtain ⟨b, o, rfl, hb, hcl⟩ := h.cell (by intro e; subst e; simp at hlt)
    refine ⟨b, o, by rw [if_neg (by omega), Option.map_some, Addr.add_lit]; rfl, hb, fun j x hj => ?_⟩
    rw [List.getElem?_take] at hj
    split at hj
    · exact hcl _ _ hj
    · cases hj

/-- s[:n:n] of a slice of n texts: without room. -/
theorem slice_fullT {a : Option Addr} {cap : Nat} {l : List ByteArray} (hc : l.length ≤ cap) (i : Int) (hi : i = (l.length : Int)) :
    ∃ a', (∀ W, (Instr.slice 96 (.slice a l.length cap) none (some (.int .i64 i)) (some (.int .i64 i))).run Try.prog W = .ok (.slice a' l.length l.length) W) ∧ ∀ W, StrsP W a cap l → StrsP W a' l.length l ∧ (a' = none → l = []) := by
  subst hi
  obtain ⟨i0, hi0, hz0, hzs, hzb⟩ := info_parts Try.infoT
  refine ⟨if l.length = 0 then a else a.map (·.add 0), fun W => ?_, fun W h => ⟨⟨Nat.le_refl _, h.len, fun hne => ?_⟩, fun hn => ?_⟩⟩
  · have hz : (Go.sizeOf 9).run Try.prog W = .ok 1 W := by simp [Go.sizeOf, typeInfo, hi0, hzs]
    have h2 : (l.length : Int) ≤ (cap : Int) := by omega
    simp [Instr.slice, run_underlying Try.underlying96, Instr.sliceBounds, run_sliceBound, h2]
  · obtain ⟨b, o, rfl, hb, hcl⟩ := h.cell hne
    have hlt := List.length_pos_iff.2 hne
    exact ⟨b, o, by rw [if_neg (by omega), Option.map_some, Addr.add_lit]; rfl, hb, hcl⟩
  · by_cases hne : l = []
    · exact hne
    · obtain ⟨b, o, rfl, hb, hcl⟩ := h.cell hne
      have hlt := List.length_pos_iff.2 hne
      rw [if_neg (by omega)] at hn
      cases hn

/-- Texts in memory of the call's own are answered; all that was there stays. -/
def OwnTs (l : List ByteArray) (w : World) (e : Ending) (w' : World) : Prop := ∃ v, e = .returned v ∧ OwnT w' w.heap.size v l ∧ Below w.heap.size w w'

/-- A slice of texts among slices. -/
structure PartT where
  a : Option Addr
  cap : Nat
  l : List ByteArray
def flatT (ls : List PartT) : List ByteArray := (ls.map PartT.l).flatten
theorem flatT_drop {ls : List PartT} {k : Nat} (h : k < ls.length) : flatT (ls.drop k) = ls[k].l ++ flatT (ls.drop (k + 1)) := by
  unfold flatT
  rw [List.drop_eq_getElem_cons h, List.map_cons, List.flatten_cons]
theorem flatT_len_drop {ls : List PartT} {k : Nat} (h : k < ls.length) : (flatT (ls.drop k)).length = ls[k].l.length + (flatT (ls.drop (k + 1))).length := by rw [flatT_drop h, List.length_append]

/-- A slice reads as these slices. -/
structure ListsT (w : World) (a : Option Addr) (cap : Nat) (ls : List PartT) : Prop where
  cap : ls.length ≤ cap
  len : ls.length ≤ 9223372036854775807
  each : ∀ p ∈ ls, StrsP w p.a p.cap p.l
  cell : ls ≠ [] → ∃ b o, a = some ⟨b, o, none⟩ ∧ b < w.heap.size ∧ ∀ (j : Nat) (p : PartT), ls[j]? = some p → w.cell? ⟨b, o + j, none⟩ = some (.slice p.a p.l.length p.cap)

end Go.Proofs.Ytciijkognhdddaa
