/- Appends of numbers onto rows of the call's own. -/
import Derived.Test.YtfmpibmhhfmajaaGreatDoorMgCopy
namespace Go.Proofs.YtfmpibmhhfmajaaGreatDoor
set_option maxRecDepth 100000
open Go.RowKit Go.ChangeShapes Go.WideShapes Go.ChangeAt

abbrev uv (n : Nat) : Value := .int .u64 (n : Int)
/-- A row of numbers of 64 bits of the call's own. -/
def OwnU64 (w : World) (base : Nat) (v : Value) (l : List Nat) : Prop := w.ownsRow base 74 1 v l.length (l.map uv)
theorem OwnU64.nil (w : World) (base : Nat) : OwnU64 w base (.slice none 0 0) [] := ⟨rfl, .inl ⟨rfl, rfl⟩⟩
theorem OwnU64.nums {w : World} {base : Nat} {v : Value} {ls : List Nat} (h : OwnU64 w base v ls) (hb : ∀ n ∈ ls, n < 18446744073709551616) (hl : ls.length ≤ 9223372036854775807) : ∃ a cap, v = .slice a ls.length cap ∧ NumsP w a cap ls := by
  rcases h.2 with ⟨rfl, h0⟩ | ⟨g, cap, cur, rfl, h1, h2, h3, h4, h5, h6⟩
  · have := List.eq_nil_of_length_eq_zero h0
    subst this
    exact ⟨none, 0, rfl, ⟨by simp, by simp, fun n hn => by simp at hn, fun hne => absurd rfl hne⟩⟩
  · refine ⟨_, cap, rfl, h3, hl, hb, fun _ => ⟨g, 0, rfl, ?_, fun j x hx => ?_⟩⟩
    · exact (Array.getElem?_eq_some_iff.1 h2).1
    · have hj : (cur.toList.take (ls.length * 1))[j]? = some (uv x) := by rw [h6, List.getElem?_map, hx]; rfl
      rw [List.getElem?_take] at hj
      split at hj
      · simp only [Array.getElem?_toList] at hj
        simp [World.cell?, h2, hj]
      · cases hj
theorem OwnU64.below {w w' : World} {base : Nat} {v : Value} {ls : List Nat} (h : OwnU64 w base v ls) (hb : Below w.heap.size w w') : OwnU64 w' base v ls := by
  refine ⟨h.1, ?_⟩
  rcases h.2 with h1 | ⟨g, cap, cur, e, h1, h2, h3⟩
  · exact .inl h1
  · exact .inr ⟨g, cap, cur, e, h1, (hb.block g (Array.getElem?_eq_some_iff.1 h2).1).trans h2, h3⟩
theorem OwnU64.base {w : World} {base base' : Nat} {v : Value} {ls : List Nat} (h : OwnU64 w base v ls) (hb : base' ≤ base) : OwnU64 w base' v ls := by
  refine ⟨h.1, ?_⟩
  rcases h.2 with h1 | ⟨g, cap, cur, e, h1, h2, h3⟩
  · exact .inl h1
  · exact .inr ⟨g, cap, cur, e, Nat.le_trans hb h1, h2, h3⟩
theorem OwnU64.row {w : World} {base : Nat} {v : Value} {ls : List Nat} (h : OwnU64 w base v ls) : ∀ k, v.ownBlock = some k → base ≤ k :=
  fun k hk => (World.ownsRow.lt h k hk).1
theorem OwnU64.lit (w : World) (base : Nat) (hb : base ≤ w.heap.size) (l : List Nat) (hl : l.length ≤ 1000) : OwnU64 (w.alloc (.cells (l.map uv).toArray 74)) base (.slice (some ⟨w.heap.size, 0, none⟩) l.length l.length) l := by
  refine ⟨by simp, .inr ⟨w.heap.size, l.length, _, rfl, hb, heap_alloc_new w _, Nat.le_refl _, by unfold maxLen; omega, by simp, ?_⟩⟩
  rw [List.take_of_length_le (by simp)]
theorem info64 : (Tryz.prog.info? 74).map (fun i => (i.zero, i.size, i.bytes)) = some (some (.int .u64 0), 1, 8) := by kernel_rfl
theorem run_append_u64 (w : World) (base : Nat) (v : Value) (xs ys : List Nat) (hown : OwnU64 w base v xs) (A : Option Addr) (cA : Nat) (hy : NumsP w A cA ys) (hlen : xs.length + ys.length ≤ 10000000) (hb : base ≤ w.heap.size) (ty : TypeId) :
    ∃ v' w', (Builtin.append_ #[103, 103] ty #[v, .slice A ys.length cA]).run Tryz.prog w = .ok v' w' ∧ OwnU64 w' base v' (xs ++ ys) ∧ w.grownBy w' v.ownBlock := by
  obtain ⟨i0, hi0, hz0, hzs, hzb⟩ := info_parts info64
  cases A with
  | none =>
    have hy0 : ys = [] := by
      cases ys with
      | nil => rfl
      | cons y r =>
        obtain ⟨b, o, e, _⟩ := hy.cell (by simp)
        cases e
    subst hy0
    rcases hown.2 with ⟨e, h0⟩ | ⟨g, cap, cur, e, h1, h2, h3, h4, h5, h6⟩
    · subst e
      have hx0 := List.eq_nil_of_length_eq_zero h0
      subst hx0
      refine ⟨.slice none 0 0, w, ?_, OwnU64.nil _ _, grown_refl _ _⟩
      simp [Builtin.append_, run_underlying Tryz.underlying103, sizeOf, typeInfo, hi0, Builtin.lenOf, Builtin.firstCells]
    · subst e
      have hsrc : Src Tryz.prog i0.size 103 (.slice none 0 cA) 0 [] w := Src.ofNil w Tryz.underlying103 cA
      have hr := run_append_room_src w 103 103 ty 74 i0 Tryz.underlying103 hi0 g 0 xs.length cap _ 0 [] hsrc (by omega) (by simp) (by simp)
      refine ⟨_, _, hr, ?_, grown_refl _ _⟩
      rw [List.append_nil]
      exact hown
  | some ad =>
    have hn : ∀ j u, (ys.map uv)[j]? = some u → w.cell? (ad.add j) = some u := by
      intro j u hj
      have hne : ys ≠ [] := by intro e; subst e; simp at hj
      obtain ⟨b, o, e, _, hc⟩ := hy.cell hne
      injection e with e
      subst e
      rw [Addr.add_lit]
      rw [List.getElem?_map] at hj
      obtain ⟨x, hx, rfl⟩ := Option.map_eq_some_iff.1 hj
      exact hc j x hx
    obtain ⟨v', w', hr, h1, h2, h3⟩ := run_append_own w base 103 ty 74 i0 _ 1 8 Tryz.underlying103 hi0 hz0 hzs hzb rfl (by decide) v xs.length (xs.map uv) hown ad ys.length cA (ys.map uv) (by simp) hn (fun u hu => by obtain ⟨x, _, rfl⟩ := List.mem_map.1 hu; rfl) (by unfold maxLen; omega) (by omega) hb
    refine ⟨v', w', hr, ?_, h2⟩
    unfold OwnU64
    rw [List.map_append, List.length_append]
    exact h1

theorem wpList_append_u64 {w : World} {ops : Array Oper} {rest : List Oper} {o : Oper} {a : Act} {Q : Exit → Act → World → Prop} (hgd : o.guard = none) (s x : Operand)
    (ho : o.op = .call { callee := .builtin .append, args := #[s, x], argTypes := #[103, 103] }) (base : Nat) (v : Value) (xs ys : List Nat) (hs : a.eval s = v) (hown : OwnU64 w base v xs) (A : Option Addr) (cA : Nat)
    (hx : a.eval x = .slice A ys.length cA) (hy : NumsP w A cA ys) (hlen : xs.length + ys.length ≤ 10000000) (hb : base ≤ w.heap.size)
    (h : ∀ v' w', OwnU64 w' base v' (xs ++ ys) → w.grownBy w' v.ownBlock → wpList Tryz.prog ops Q rest (a.put o.dst v') w') : wpList Tryz.prog ops Q (o :: rest) a w := by
  refine wpList_plain hgd fun K hK => ?_
  obtain ⟨v', w', hr, h1, h2⟩ := run_append_u64 w base v xs ys hown A cA hy hlen hb o.type
  unfold Oper.wp execOp
  simp only [ho, resolve, invoke, builtin, Sem.run_bind, Sem.run_pure, Result.andThen_ok, List.map_toArray, List.map_cons, List.map_nil, hs, hx, hr]
  exact hK _ _ (h v' w' h1 h2)
theorem infoInt : (Tryz.prog.info? 3).map (fun i => (i.zero, i.size, i.bytes)) = some (some (.int .i64 0), 1, 8) := by kernel_rfl
theorem run_append_int (w : World) (base : Nat) (v : Value) (xs ys : List Int) (hown : OwnI w base v xs) (A : Option Addr) (cA : Nat) (hy : IntsP w A cA ys) (hlen : xs.length + ys.length ≤ 10000000) (hb : base ≤ w.heap.size) (ty : TypeId) :
    ∃ v' w', (Builtin.append_ #[32, 32] ty #[v, .slice A ys.length cA]).run Tryz.prog w = .ok v' w' ∧ OwnI w' base v' (xs ++ ys) ∧ w.grownBy w' v.ownBlock := by
  obtain ⟨i0, hi0, hz0, hzs, hzb⟩ := info_parts infoInt
  cases A with
  | none =>
    have hy0 : ys = [] := by
      cases ys with
      | nil => rfl
      | cons y r =>
        obtain ⟨b, o, e, _⟩ := hy.cell (by simp)
        cases e
    subst hy0
    rcases hown.2 with ⟨e, h0⟩ | ⟨g, cap, cur, e, h1, h2, h3, h4, h5, h6⟩
    · subst e
      have hx0 := List.eq_nil_of_length_eq_zero h0
      subst hx0
      refine ⟨.slice none 0 0, w, ?_, OwnI.nil _ _, grown_refl _ _⟩
      simp [Builtin.append_, run_underlying Tryz.underlying32, sizeOf, typeInfo, hi0, Builtin.lenOf, Builtin.firstCells]
    · subst e
      have hsrc : Src Tryz.prog i0.size 32 (.slice none 0 cA) 0 [] w := Src.ofNil w Tryz.underlying32 cA
      have hr := run_append_room_src w 32 32 ty 3 i0 Tryz.underlying32 hi0 g 0 xs.length cap _ 0 [] hsrc (by omega) (by simp) (by simp)
      refine ⟨_, _, hr, ?_, grown_refl _ _⟩
      rw [List.append_nil]
      exact hown
  | some ad =>
    have hn : ∀ j u, (ys.map iv)[j]? = some u → w.cell? (ad.add j) = some u := by
      intro j u hj
      have hne : ys ≠ [] := by intro e; subst e; simp at hj
      obtain ⟨b, o, e, _, hc⟩ := hy.cell hne
      injection e with e
      subst e
      rw [Addr.add_lit]
      rw [List.getElem?_map] at hj
      obtain ⟨x, hx, rfl⟩ := Option.map_eq_some_iff.1 hj
      exact hc j x hx
    obtain ⟨v', w', hr, h1, h2, h3⟩ := run_append_own w base 32 ty 3 i0 _ 1 8 Tryz.underlying32 hi0 hz0 hzs hzb rfl (by decide) v xs.length (xs.map iv) hown ad ys.length cA (ys.map iv) (by simp) hn (fun u hu => by obtain ⟨x, _, rfl⟩ := List.mem_map.1 hu; rfl) (by unfold maxLen; omega) (by omega) hb
    refine ⟨v', w', hr, ?_, h2⟩
    unfold OwnI
    rw [List.map_append, List.length_append]
    exact h1
end Go.Proofs.YtfmpibmhhfmajaaGreatDoor
