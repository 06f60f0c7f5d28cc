/- Lines put behind lines in a row of the call's own: the builtin append, nil or not. -/
import Derived.Test.YtijcgioggmphkaaArgs
import Derived.Deep.AppendSrc
namespace Go.Proofs.Ytijcgioggmphkaa
open Go.RowKit

theorem run_append_lines (w : World) (base : Nat) (v : Value) (xs ys : List Ln) (hown : OwnL w base v xs) (hv : v ≠ .slice none 0 0) (A : Option Addr) (cA : Nat) (hy : LnsP w A cA ys) (hlen : xs.length + ys.length ≤ 1000) (hb : base ≤ w.heap.size) (ty : TypeId) :
    ∃ v' w', (Builtin.append_ #[22, 22] ty #[v, .slice A ys.length cA]).run Try.prog w = .ok v' w' ∧ OwnL w' base v' (xs ++ ys) ∧ w.grownBy w' v.ownBlock ∧ v' ≠ .slice none 0 0 := by
  obtain ⟨i0, hi0, hz0, hzs, hzb⟩ := info_parts Try.info27
  cases A with
  | none =>
    have hy0 : ys = [] := by
      cases ys with
      | nil => rfl
      | cons y r =>
        obtain ⟨b, o, e, _⟩ := hy.cell (by simp)
        cases e
    subst hy0
    rcases hown.2 with ⟨e, _⟩ | ⟨g, cap, cur, e, h1, h2, h3, h4, h5, h6⟩
    · exact absurd e hv
    · subst e
      have hsrc : Src Try.prog i0.size 22 (.slice none 0 cA) 0 [] w := Src.ofNil w Try.underlying22 cA
      have hr := run_append_room_src w 22 22 ty 27 i0 Try.underlying22 hi0 g 0 xs.length cap _ 0 [] hsrc (by omega) (by simp) (by simp)
      refine ⟨_, _, hr, ?_, grown_refl _ _, by simp⟩
      rw [List.append_nil]
      exact hown
  | some ad =>
    have hn : ∀ j u, (cellsL ys)[j]? = some u → w.cell? (ad.add j) = some u := by
      intro j u hj
      have hne : ys ≠ [] := by intro e; subst e; simp [cellsL] at hj
      obtain ⟨b, o, e, _, hc⟩ := hy.cell hne
      injection e with e
      subst e
      rw [Addr.add_lit]
      exact lns_cells hc j u hj
    obtain ⟨v', w', hr, h1, h2, h3⟩ := run_append_own w base 22 ty 27 i0 _ 3 32 Try.underlying22 hi0 hz0 hzs hzb rfl (by decide) v xs.length (cellsL xs) hown ad ys.length cA (cellsL ys) (cellsL_len ys) hn (cellsL_one ys) (by unfold maxLen; omega) (by omega) hb
    refine ⟨v', w', hr, ?_, h2, fun e => hv (h3.1 e).1⟩
    unfold OwnL
    rw [cellsL_append, List.length_append]
    exact h1

theorem wp_append_lines {o : Oper} {a : Act} {w : World} {K : Act → World → Prop} {Q : Exit → Act → World → Prop} (s x : Operand)
    (ho : o.op = .call { callee := .builtin .append, args := #[s, x], argTypes := #[22, 22] }) (base : Nat) (v : Value) (xs ys : List Ln) (hs : a.eval s = v) (hown : OwnL w base v xs) (hv : v ≠ .slice none 0 0) (A : Option Addr) (cA : Nat)
    (hx : a.eval x = .slice A ys.length cA) (hy : LnsP w A cA ys) (hlen : xs.length + ys.length ≤ 1000) (hb : base ≤ w.heap.size)
    (h : ∀ v' w', OwnL w' base v' (xs ++ ys) → w.grownBy w' v.ownBlock → v' ≠ .slice none 0 0 → K (a.put o.dst v') w') : o.wp Try.prog a w K Q := by
  obtain ⟨v', w', hr, h1, h2, h3⟩ := run_append_lines w base v xs ys hown hv A cA hy hlen hb o.type
  unfold Oper.wp execOp
  simp only [ho, resolve, invoke, builtin, Sem.run_bind, Sem.run_pure, Result.andThen_ok, List.map_toArray, List.map_cons, List.map_nil, hs, hx, hr]
  exact h v' w' h1 h2 h3

theorem wpList_append_lines {w : World} {ops : Array Oper} {rest : List Oper} {o : Oper} {a : Act} {Q : Exit → Act → World → Prop} (hgd : o.guard = none) (s x : Operand)
    (ho : o.op = .call { callee := .builtin .append, args := #[s, x], argTypes := #[22, 22] }) (base : Nat) (v : Value) (xs ys : List Ln) (hs : a.eval s = v) (hown : OwnL w base v xs) (hv : v ≠ .slice none 0 0) (A : Option Addr) (cA : Nat)
    (hx : a.eval x = .slice A ys.length cA) (hy : LnsP w A cA ys) (hlen : xs.length + ys.length ≤ 1000) (hb : base ≤ w.heap.size)
    (h : ∀ v' w', OwnL w' base v' (xs ++ ys) → w.grownBy w' v.ownBlock → v' ≠ .slice none 0 0 → wpList Try.prog ops Q rest (a.put o.dst v') w') : wpList Try.prog ops Q (o :: rest) a w :=
  wpList_plain hgd fun _ hK => wp_append_lines s x ho base v xs ys hs hown hv A cA hx hy hlen hb fun v' w' h1 h2 h3 => hK _ _ (h v' w' h1 h2 h3)

theorem own_fresh (w : World) (base : Nat) (hb : base ≤ w.heap.size) : OwnL (w.alloc (.cells #[] 27)) base (.slice (some ⟨w.heap.size, 0, none⟩) 0 0) [] := World.ownsRow_made w #[] 0 hb (Nat.zero_le _) (by simp)

theorem LnsP.take {w : World} {a : Option Addr} {cap : Nat} {l : List Ln} (h : LnsP w a cap l) (k : Nat) : LnsP w a cap (l.take k) := by
  refine ⟨?_, fun x hx => h.size x (List.mem_of_mem_take hx), fun hne => ?_⟩
  · have := h.cap
    rw [List.length_take]; omega
  · obtain ⟨b, o, e, hlt, hc⟩ := h.cell (by intro e; subst e; simp at hne)
    refine ⟨b, o, e, hlt, fun j x hx => hc j x ?_⟩
    rw [List.getElem?_take] at hx
    split at hx
    · exact hx
    · cases hx

theorem LnsP.drop {w : World} {b o : Nat} {cap : Nat} {l : List Ln} (h : LnsP w (some ⟨b, o, none⟩) cap l) (k : Nat) : LnsP w (some ⟨b, o + k * 3, none⟩) (cap - k) (l.drop k) := by
  refine ⟨?_, fun x hx => h.size x (List.mem_of_mem_drop hx), fun hne => ?_⟩
  · have := h.cap
    rw [List.length_drop]; omega
  · obtain ⟨b', o', e, hlt, hc⟩ := h.cell (by intro e; subst e; simp at hne)
    injection e with e
    injection e with e1 e2
    subst e1 e2
    refine ⟨b, _, rfl, hlt, fun j x hx => ?_⟩
    rw [List.getElem?_drop] at hx
    have := hc (k + j) x hx
    rw [show o + k * 3 + j * 3 = o + (k + j) * 3 by omega]
    exact this

/-- What is taken of merged lines, in two parts. -/
structure Parts (l m : List Ln) (k : Nat) : Prop where
  one : mergeE (l.take k) = if k = 0 then 41 else 0
  two : mergeE (l.drop k) = if k = l.length then 41 else 0
  len1 : (mergeV (l.take k)).length ≤ 8
  len2 : (mergeV (l.drop k)).length ≤ 8
  both : mergeV (mergeV (l.take k) ++ mergeV (l.drop k)) = m
  bothE : mergeE (mergeV (l.take k) ++ mergeV (l.drop k)) = 0
  again : mergeV m = m
  againE : mergeE m = 0
  len : m.length ≤ 8

theorem mergeV_le (l : List Ln) : (mergeV l).length ≤ 8 := by
  rcases mergeV_cases l with ⟨h, _⟩ | ⟨h, _⟩
  · rw [h]; simp
  · exact ((rightLB_iff _).1 h.right).1.2
theorem merge_none : mergeV [] = [] ∧ mergeE [] = 41 := by
  have h : mergeV [] = [] := by kernel_rfl
  exact ⟨h, by unfold mergeE; rw [h]; rfl⟩

theorem parts {l m : List Ln} (h : IsM l m) (k : Nat) (hk : k ≤ l.length) : Parts l m k := by
  have hl : l = l.take k ++ l.drop k := (List.take_append_drop k l).symm
  have hself := isM_self h.right
  have part : ∀ p : List Ln, p.Sublist l → (p = [] ∧ mergeV p = [] ∧ mergeE p = 41) ∨ (p ≠ [] ∧ IsM p (mergeV p) ∧ mergeE p = 0) := by
    intro p hs
    by_cases hp : p = []
    · subst hp
      exact Or.inl ⟨rfl, merge_none⟩
    · have := isM_part h hs hp
      exact Or.inr ⟨hp, by rw [mergeV_of this]; exact this, mergeE_of this⟩
  have h1 := part (l.take k) (List.take_sublist k l)
  have h2 := part (l.drop k) (List.drop_sublist k l)
  have hne : l ≠ [] := by
    intro e
    subst e
    have := h.tot
    obtain ⟨y, hy⟩ := List.exists_mem_of_ne_nil m h.ne
    obtain ⟨x, hx, _⟩ := h.from_ y hy
    simp at hx
  have hlp : 0 < l.length := List.length_pos_iff.2 hne
  have hb : IsM (mergeV (l.take k) ++ mergeV (l.drop k)) m := by
    refine isM_both (l1 := l.take k) (l2 := l.drop k) (by rw [← hl]; exact h) ?_ ?_
    · rcases h1 with ⟨e, e2, _⟩ | ⟨_, e, _⟩
      · exact Or.inl ⟨e, e2⟩
      · exact Or.inr e
    · rcases h2 with ⟨e, e2, _⟩ | ⟨_, e, _⟩
      · exact Or.inl ⟨e, e2⟩
      · exact Or.inr e
  refine ⟨?_, ?_, mergeV_le _, mergeV_le _, mergeV_of hb, mergeE_of hb, mergeV_of hself, mergeE_of hself, ((rightLB_iff _).1 h.right).1.2⟩
  · rcases h1 with ⟨e, _, e2⟩ | ⟨e, _, e2⟩
    · have : k = 0 := by
        have := congrArg List.length e
        rw [List.length_take, List.length_nil] at this
        omega
      rw [if_pos this, e2]
    · have : k ≠ 0 := by
        intro e3
        subst e3
        exact e (by simp)
      rw [if_neg this, e2]
  · rcases h2 with ⟨e, _, e2⟩ | ⟨e, _, e2⟩
    · have : k = l.length := by
        have := congrArg List.length e
        rw [List.length_drop, List.length_nil] at this
        omega
      rw [if_pos this, e2]
    · have : k ≠ l.length := by
        intro e3
        subst e3
        exact e (by simp)
      rw [if_neg this, e2]

end Go.Proofs.Ytijcgioggmphkaa
