/- Slices of slices: a part of one, and one put behind another. -/
import Derived.Test.YtbhknaggbenfnaaHvRw
namespace Go.Proofs.Ytbhknaggbenfnaa
set_option maxRecDepth 100000
open Go.RowKit

/-- s[1:] of a slice of slices. -/
theorem slice_oneL {a : Option Addr} {cap : Nat} {us : List PartT} (hc : us.length ≤ cap) (hk : 1 ≤ us.length) :
    ∃ a' c', (∀ W, (Instr.slice 34 (.slice a us.length cap) (some (.int .i64 1)) none none).run Try.prog W = .ok (.slice a' (us.drop 1).length c') W) ∧ ∀ W, ListsT W a cap us → ListsT W a' c' (us.drop 1) := by
  obtain ⟨i0, hi0, hz0, hzs, hzb⟩ := info_parts infoU
  refine ⟨if cap = 1 then a else a.map (·.add 1), cap - 1, fun W => ?_, fun W h => ⟨by rw [List.length_drop]; omega, by have := h.len; rw [List.length_drop]; omega, fun p hp => h.each p (List.mem_of_mem_drop hp), fun hne => ?_⟩⟩
  · have hz : (Go.sizeOf 27).run Try.prog W = .ok 1 W := by simp [Go.sizeOf, typeInfo, hi0, hzs]
    have hk' : (1 : Int) ≤ (us.length : Int) := by omega
    have h0 : ¬ ((1 : Int) < 0) := by omega
    simp [Instr.slice, run_underlying Try.underlying34, Instr.sliceBounds, run_sliceBound, hk']
  · have hlt : 1 < us.length := by
      rcases Nat.lt_or_ge 1 us.length with h | h
      · exact h
      · exact absurd (List.drop_eq_nil_of_le h) hne
    obtain ⟨b, o, rfl, hb, hcl⟩ := h.cell (by intro e; subst e; simp at hlt)
    refine ⟨b, o + 1, by rw [if_neg (by omega), Option.map_some, Addr.add_lit], hb, fun j x hj => ?_⟩
    rw [Nat.add_assoc]
    exact hcl _ _ (by rw [← List.getElem?_drop]; exact hj)

theorem lists_cells {w : World} {a : Option Addr} {cap : Nat} {us : List PartT} (h : ListsT w a cap us) : ∀ b, a = some b → ∀ j u, (us.map PartT.val)[j]? = some u → w.cell? (b.add j) = some u := by
  intro ad hA j u hj
  have hne : us ≠ [] := by intro e; subst e; simp at hj
  obtain ⟨b, o, e, _, hc⟩ := h.cell hne
  rw [hA] at e
  injection e with e
  subst e
  rw [Addr.add_lit]
  rw [List.getElem?_map] at hj
  obtain ⟨x, hx, rfl⟩ := Option.map_eq_some_iff.1 hj
  exact hc j x hx

/-- A row of lists that came since a block. -/
def OwnV (w : World) (base : Nat) (v : Value) (us : List PartT) : Prop := w.ownsRow base 27 1 v us.length (us.map PartT.val)
theorem OwnV.fresh (w : World) (base : Nat) (hb : base ≤ w.heap.size) : OwnV (w.alloc (.cells #[] 27)) base (.slice (some ⟨w.heap.size, 0, none⟩) 0 0) [] := World.ownsRow_made w #[] 0 hb (Nat.zero_le _) (by simp)
theorem OwnV.two (w : World) (base : Nat) (hb : base ≤ w.heap.size) (x y : PartT) : OwnV (w.alloc (.cells #[x.val, y.val] 27)) base (.slice (some ⟨w.heap.size, 0, none⟩) 2 2) [x, y] :=
  ⟨rfl, .inr ⟨w.heap.size, 2, _, rfl, hb, heap_alloc_new w _, Nat.le_refl _, by unfold maxLen; omega, rfl, rfl⟩⟩
theorem OwnV.shape {w : World} {base : Nat} {v : Value} {us : List PartT} (h : OwnV w base v us) : ∃ a cap, v = .slice a us.length cap := by
  rcases h.2 with ⟨e, h0⟩ | ⟨g, cap, cur, e, _⟩
  · exact ⟨none, 0, by rw [e, h0]⟩
  · exact ⟨_, cap, e⟩
theorem OwnV.reads {w : World} {base : Nat} {a : Option Addr} {n cap : Nat} {us : List PartT} (h : OwnV w base (.slice a n cap) us) (hu : ∀ u ∈ us, StrsP w u.a u.cap u.l) : n = us.length ∧ ListsT w a cap us ∧ ∀ x, a = some x → base ≤ x.block ∧ x.block < w.heap.size := by
  have hlt := World.ownsRow.lt h
  rcases h.2 with ⟨e, h0⟩ | ⟨g, cap', cur, e, h1, h2, h3, h4, h5, h6⟩
  · cases e
    have := List.eq_nil_of_length_eq_zero h0
    subst this
    exact ⟨rfl, ⟨by simp, by simp, hu, fun h => absurd rfl h⟩, fun x hx => by cases hx⟩
  · cases e
    refine ⟨rfl, ⟨h3, by have : maxLen = 9223372036854775807 := rfl; omega, hu, fun hne => ⟨g, 0, rfl, (Array.getElem?_eq_some_iff.1 h2).1, fun j p hp => ?_⟩⟩, fun x hx => by cases hx; exact hlt g rfl⟩
    have hj := (List.getElem?_eq_some_iff.1 hp).1
    have hi : (us.map PartT.val)[j]? = some p.val := by rw [List.getElem?_map, hp]; rfl
    rw [← h6, List.getElem?_take] at hi
    split at hi
    · simp only [Array.getElem?_toList] at hi
      rw [Nat.zero_add]
      simp only [World.cell?, h2]
      exact hi
    · cases hi

theorem run_append_parts (w : World) (base : Nat) (v : Value) (xs ys : List PartT) (hown : OwnV w base v xs) (A : Option Addr) (cA : Nat) (hy : ListsT w A cA ys) (hlen : xs.length + ys.length ≤ 1000000) (hb : base ≤ w.heap.size) (ty : TypeId) :
    ∃ v' w', (Builtin.append_ #[34, 34] ty #[v, .slice A ys.length cA]).run Try.prog w = .ok v' w' ∧ OwnV w' base v' (xs ++ ys) ∧ w.grownBy w' v.ownBlock := by
  obtain ⟨i0, hi0, hz0, hzs, hzb⟩ := info_parts infoU
  cases A with
  | none =>
    have hy0 : ys = [] := by
      cases ys with
      | nil => rfl
      | cons y r =>
        obtain ⟨b, o, e, _⟩ := hy.cell (by simp)
        cases e
    subst hy0
    rcases hown.2 with ⟨e, h⟩ | ⟨g, cap, cur, e, h1, h2, h3, h4, h5, h6⟩
    · subst e
      have hx0 := List.eq_nil_of_length_eq_zero h
      subst hx0
      refine ⟨.slice none 0 0, w, ?_, ⟨rfl, .inl ⟨rfl, rfl⟩⟩, grown_refl _ _⟩
      simp [Builtin.append_, run_underlying Try.underlying34, sizeOf, typeInfo, hi0, Builtin.lenOf, Builtin.firstCells]
    · subst e
      have hsrc : Src Try.prog i0.size 34 (.slice none 0 cA) 0 [] w := Src.ofNil w Try.underlying34 cA
      have hr := run_append_room_src w 34 34 ty 27 i0 Try.underlying34 hi0 g 0 xs.length cap _ 0 [] hsrc (by omega) (by simp) (by simp)
      refine ⟨_, _, hr, ?_, grown_refl _ _⟩
      rw [List.append_nil]
      exact hown
  | some ad =>
    obtain ⟨v', w', hr, h1, h2, h3⟩ := run_append_own w base 34 ty 27 i0 _ 1 24 Try.underlying34 hi0 hz0 hzs hzb rfl (by decide) v xs.length (xs.map PartT.val) hown ad ys.length cA (ys.map PartT.val) (by simp) (lists_cells hy ad rfl) (fun v hv => by obtain ⟨x, _, rfl⟩ := List.mem_map.1 hv; rfl) (by unfold maxLen; omega) (by omega) hb
    refine ⟨v', w', hr, ?_, h2⟩
    unfold OwnV
    rw [List.map_append, List.length_append]
    exact h1

/-- A row of texts that came since a block, or an empty one without room. -/
def Oz (w : World) (base : Nat) (v : Value) (l : List ByteArray) : Prop := OwnT w base v l ∨ (l = [] ∧ ∃ k, base ≤ k ∧ k < w.heap.size ∧ v = .slice (some ⟨k, 0, none⟩) 0 0)
theorem Oz.shape {w : World} {base : Nat} {v : Value} {l : List ByteArray} (h : Oz w base v l) : ∃ a cap, v = .slice a l.length cap := by
  rcases h with h | ⟨rfl, k, _, _, rfl⟩
  · exact h.shape
  · exact ⟨_, _, rfl⟩
theorem Oz.reads {w : World} {base : Nat} {a : Option Addr} {n cap : Nat} {l : List ByteArray} (h : Oz w base (.slice a n cap) l) : n = l.length ∧ StrsP w a cap l := by
  rcases h with h | ⟨rfl, k, _, _, e⟩
  · exact h.reads
  · cases e
    exact ⟨rfl, StrsP.nil _ _ _⟩
theorem Oz.at {w : World} {base : Nat} {v : Value} {l : List ByteArray} (h : Oz w base v l) : ∀ k, v.ownBlock = some k → base ≤ k ∧ k < w.heap.size := by
  intro k hk
  rcases h with h | ⟨_, j, h1, h2, rfl⟩
  · exact ⟨h.ge k hk, h.lt k hk⟩
  · cases hk
    exact ⟨h1, h2⟩
theorem Oz.base {w : World} {b b' : Nat} {v : Value} {l : List ByteArray} (h : Oz w b v l) (hb : b' ≤ b) : Oz w b' v l := by
  rcases h with h | ⟨h0, k, h1, h2, e⟩
  · exact .inl (h.base hb)
  · exact .inr ⟨h0, k, by omega, h2, e⟩
/-- It stays where its block stays. -/
theorem Oz.same {w w' : World} {base : Nat} {v : Value} {l : List ByteArray} (h : Oz w base v l) (hs : w.heap.size ≤ w'.heap.size) (hb : ∀ k, v.ownBlock = some k → w'.heap[k]? = w.heap[k]?) : Oz w' base v l := by
  rcases h with h | ⟨h0, k, h1, h2, e⟩
  · exact .inl (ownsRow_same h hb)
  · exact .inr ⟨h0, k, h1, by omega, e⟩
theorem Oz.below {w w' : World} {base : Nat} {v : Value} {l : List ByteArray} (h : Oz w base v l) (hb : Below w.heap.size w w') : Oz w' base v l :=
  h.same hb.size (fun k hk => hb.block k (h.at k hk).2)

/-- Texts put onto an empty row without room: in a new block, or the empty row itself. -/
theorem run_append_e (w : World) (k : Nat) (hk : k < w.heap.size) (ys : List ByteArray) (A : Option Addr) (cA : Nat) (hy : StrsP w A cA ys) (hlen : ys.length ≤ 100000) (ty : TypeId) :
    ∃ v' w', (Builtin.append_ #[27, 27] ty #[.slice (some ⟨k, 0, none⟩) 0 0, .slice A ys.length cA]).run Try.prog w = .ok v' w' ∧ Oz w' k v' ys ∧ Below w.heap.size w w' ∧ (∀ j, v'.ownBlock = some j → j = k ∨ w.heap.size ≤ j) := by
  by_cases h0 : ys = []
  · subst h0
    obtain ⟨i0, hi0, hz0, hzs, hzb⟩ := info_parts Try.infoT
    refine ⟨.slice (some ⟨k, 0, none⟩) 0 0, w, ?_, .inr ⟨rfl, k, Nat.le_refl _, hk, rfl⟩, Below.refl _ _, fun j hj => .inl (by cases hj; rfl)⟩
    have hsrc : Src Try.prog i0.size 27 (.slice A 0 cA) 0 [] w := by
      cases A with
      | none => exact Src.ofNil w Try.underlying27 cA
      | some ad => exact Src.ofSlice w Try.underlying27 ad 0 cA [] (by simp) (by intro j u hj; simp at hj) (by intro u hu; cases hu)
    exact run_append_room_src w 27 27 ty 9 i0 Try.underlying27 hi0 k 0 0 0 _ 0 [] hsrc (by omega) (by simp) (by simp)
  · obtain ⟨v', w', hr, ho, hg⟩ := run_append_full w [] ys (some ⟨k, 0, none⟩) 0 rfl (StrsP.nil _ _ _) (fun e => by cases e) A cA hy h0 (by simp; omega) ty
    refine ⟨v', w', hr, .inl (ho.base (by omega)), ⟨hg.os, hg.tape, hg.output, hg.size, fun j hj => hg.block j hj (by simp)⟩, fun j hj => .inr (ho.ge j hj)⟩

theorem step_append_e {w : World} {ops : Array Oper} {o : Oper} {a : Act} {K : Act → World → Prop} {Q : Exit → Act → World → Prop} {E : Prop} (hgd : o.guard = none) (s x : Operand)
    (ho : o.op = .call { callee := .builtin .append, args := #[s, x], argTypes := #[27, 27] }) (k : Nat) (hs : a.eval s = .slice (some ⟨k, 0, none⟩) 0 0) (hk : k < w.heap.size) (ys : List ByteArray) (A : Option Addr) (cA : Nat)
    (hx : a.eval x = .slice A ys.length cA) (hy : StrsP w A cA ys) (hlen : ys.length ≤ 100000)
    (h : ∀ v' w', Oz w' k v' ys → Below w.heap.size w w' → (∀ j, v'.ownBlock = some j → j = k ∨ w.heap.size ≤ j) → K (a.put o.dst v') w') :
    if Region.wanted o (yielded ops a.tmps) = true then Oper.wp Try.prog o a w K Q else E := by
  have hw : Region.wanted o (yielded ops a.tmps) = true := by simp [Region.wanted, hgd]
  rw [if_pos hw]
  obtain ⟨v', w', hr, h1, h2, h3⟩ := run_append_e w k hk ys A cA hy hlen o.type
  unfold Oper.wp execOp
  simp only [ho, resolve, invoke, builtin, Sem.run_bind, Sem.run_pure, Result.andThen_ok, List.map_toArray, List.map_cons, List.map_nil, hs, hx, hr]
  exact h v' w' h1 h2 h3

/-- s[i:] of a slice of texts. -/
theorem slice_fromB {a : Option Addr} {cap : Nat} {l : List ByteArray} (hc : l.length ≤ cap) (k : Nat) (i : Int) (hi : i = (k : Int)) (hk : k ≤ l.length) :
    ∃ a' c', (∀ W, (Instr.slice 27 (.slice a l.length cap) (some (.int .i64 i)) none none).run Try.prog W = .ok (.slice a' (l.drop k).length c') W) ∧ (∀ W, StrsP W a cap l → StrsP W a' c' (l.drop k)) ∧ ∀ x, a' = some x → ∃ y, a = some y ∧ x.block = y.block := by
  subst hi
  obtain ⟨i0, hi0, hz0, hzs, hzb⟩ := info_parts Try.infoT
  refine ⟨if cap = k then a else a.map (·.add k), cap - k, fun W => ?_, fun W h => ⟨by rw [List.length_drop]; omega, by have := h.len; rw [List.length_drop]; omega, fun hne => ?_⟩, fun x hx => ?_⟩
  · have hz : (Go.sizeOf 9).run Try.prog W = .ok 1 W := by simp [Go.sizeOf, typeInfo, hi0, hzs]
    have h0 : ¬ ((k : Int) < 0) := by omega
    simp [Instr.slice, run_underlying Try.underlying27, Instr.sliceBounds, run_sliceBound, hk]
  · have hlt : k < l.length := by
      rcases Nat.lt_or_ge k l.length with h | h
      · exact h
      · exact absurd (List.drop_eq_nil_of_le h) hne
    obtain ⟨b, o, rfl, hb, hcl⟩ := h.cell (by intro e; subst e; simp at hlt)
    refine ⟨b, o + k, by rw [if_neg (by omega), Option.map_some, Addr.add_lit], hb, fun j x hj => ?_⟩
    rw [Nat.add_assoc]
    exact hcl _ _ (by rw [← List.getElem?_drop]; exact hj)
  · split at hx
    · exact ⟨x, hx, rfl⟩
    · obtain ⟨y, hy, rfl⟩ := Option.map_eq_some_iff.1 hx
      exact ⟨y, hy, by unfold Addr.add; split <;> rfl⟩

/-- s[:j] of a slice of texts. -/
theorem slice_toB {a : Option Addr} {cap : Nat} {l : List ByteArray} (hc : l.length ≤ cap) (k : Nat) (i : Int) (hi : i = (k : Int)) (hk : k ≤ l.length) :
    ∃ a' c', (∀ W, (Instr.slice 27 (.slice a l.length cap) none (some (.int .i64 i)) none).run Try.prog W = .ok (.slice a' (l.take k).length c') W) ∧ (∀ W, StrsP W a cap l → StrsP W a' c' (l.take k)) ∧ ∀ x, a' = some x → ∃ y, a = some y ∧ x.block = y.block := by
  subst hi
  obtain ⟨i0, hi0, hz0, hzs, hzb⟩ := info_parts Try.infoT
  refine ⟨if cap = 0 then a else a.map (·.add 0), cap, fun W => ?_, fun W h => ⟨by rw [List.length_take]; omega, by have := h.len; rw [List.length_take]; omega, fun hne => ?_⟩, fun x hx => ?_⟩
  · have hz : (Go.sizeOf 9).run Try.prog W = .ok 1 W := by simp [Go.sizeOf, typeInfo, hi0, hzs]
    have h2 : (k : Int) ≤ (cap : Int) := by omega
    have h3 : min k l.length = k := by omega
    simp [Instr.slice, run_underlying Try.underlying27, Instr.sliceBounds, run_sliceBound, h2, h3]
  · have hlt : 0 < l.length := by
      rcases Nat.eq_zero_or_pos l.length with h | h
      · rw [List.eq_nil_of_length_eq_zero h] at hne; simp at hne
      · exact h
    obtain ⟨b, o, rfl, hb, hcl⟩ := h.cell (by intro e; subst e; simp at hlt)
    refine ⟨b, o, by rw [if_neg (by omega), Option.map_some, Addr.add_lit]; rfl, hb, fun j x hj => ?_⟩
    rw [List.getElem?_take] at hj
    split at hj
    · exact hcl _ _ hj
    · cases hj
  · split at hx
    · exact ⟨x, hx, rfl⟩
    · obtain ⟨y, hy, rfl⟩ := Option.map_eq_some_iff.1 hx
      exact ⟨y, hy, by unfold Addr.add; split <;> rfl⟩

theorem ListsT.turn {w w' : World} {a : Option Addr} {cap : Nat} {us : List PartT} (h : ListsT w a cap us) (hs : w.heap.size ≤ w'.heap.size) (hr : ∀ x, a = some x → w'.heap[x.block]? = w.heap[x.block]?) (he : ∀ u ∈ us, StrsP w' u.a u.cap u.l) : ListsT w' a cap us := by
  refine ⟨h.cap, h.len, he, fun hne => ?_⟩
  obtain ⟨b, o, e, hlt, hc⟩ := h.cell hne
  refine ⟨b, o, e, Nat.lt_of_lt_of_le hlt hs, fun j p hp => ?_⟩
  rw [← hc j p hp]
  simp only [World.cell?]
  rw [hr _ e]

end Go.Proofs.Ytbhknaggbenfnaa
