/- A plate in memory. -/
import Derived.Test.YtipikkniookanaaRules
import Derived.Laws.CopyRow
namespace Go.Proofs.Ytipikkniookanaa
open Go.RowKit

theorem rowAt_own {w : World} {base : Nat} {e : TypeId} {size : Nat} {v : Value} {n : Nat} {xs : List Value} (h : w.ownsRow base e size v n xs) {g : Nat} (hg : v.ownBlock = some g) : RowAt w g e xs := by
  rcases h.2 with ⟨rfl, _⟩ | ⟨b, cap, cur, rfl, _, h2, h3, _, h5, h6⟩
  · cases hg
  · simp [Value.ownBlock] at hg
    subst hg
    have := h.1
    refine ⟨cur, h2, ?_, ?_⟩
    · rw [this, h5]; exact Nat.mul_le_mul_right _ h3
    · rw [this]; exact h6

/-- An append onto a row of one's own: it stays where it is, or lies in new memory. -/
theorem ap_own {w : World} (t ty e : TypeId) (size bytes : Nat) (z : Value) (hsz : 0 < size) (hi : (Try.prog.info? e).map (fun i => (i.zero, i.size, i.bytes)) = some (some z, size, bytes)) (ht : Try.prog.underlying t = some (.slice e)) (hzs : z.cells.size = size)
    (v : Value) (n : Nat) (xs : List Value) (hown : w.ownsRow 0 e size v n xs) (b c m : Nat) (T : TypeId) (news : List Value) (hnews : RowAt w b T news) (hl : news.length = m * size) (h1 : ∀ u ∈ news, u.oneCell' = true)
    (h63 : n + m ≤ 1000000) (hby : bytes ≤ 1000) :
    ∃ v' w', ApR t ty v (.slice (some ⟨b, 0, none⟩) m c) w = .ok (.value v') w' ∧ w'.ownsRow 0 e size v' (n + m) (xs ++ news) ∧ w.grownBy w' v.ownBlock ∧ ∀ k, v'.ownBlock = some k → v.ownBlock = some k ∨ (w.heap.size ≤ k ∧ k < w'.heap.size) := by
  obtain ⟨i0, hi0, hz0, hzs0, hzb⟩ := info_parts hi
  have hc : ∀ j u, news[j]? = some u → w.cell? ((⟨b, 0, none⟩ : Addr).add j) = some u := fun j u hj => by
    rw [add_at, Nat.zero_add]
    exact hnews.cell hj
  have hb1 : (n + m) * bytes ≤ 140737488355328 := Nat.le_trans (Nat.mul_le_mul h63 hby) (by omega)
  have hm1 : n + m ≤ maxLen := by unfold maxLen; omega
  have key : ∀ v' w', (Builtin.append_ #[t, t] ty #[v, .slice (some ⟨b, 0, none⟩) m c]).run Try.prog w = .ok v' w' → ApR t ty v (.slice (some ⟨b, 0, none⟩) m c) w = .ok (.value v') w' := by
    intro v' w' h
    simp only [ApR, Sem.run_bind, h, Sem.run_pure, Result.andThen_ok]
  rcases hown.2 with ⟨rfl, hn⟩ | ⟨g, cap, cur, rfl, _, h2, h3, h4, h5, h6⟩
  · subst hn
    have hx0 : xs = [] := List.eq_nil_of_length_eq_zero (by simpa using hown.1)
    subst hx0
    obtain ⟨v', w', hr, h7, h8, _⟩ := run_append_own (P := Try.prog) w w.heap.size t ty e i0 z size bytes ht hi0 hz0 hzs0 hzb hzs hsz (.slice none 0 0) 0 [] (World.ownsRow_nil _ _ _ _) ⟨b, 0, none⟩ m c news hl hc h1 hm1 hb1 (Nat.le_refl _)
    refine ⟨v', w', key _ _ hr, ⟨h7.1, h7.2.elim .inl (fun ⟨g, cap, cur, a1, _, a3⟩ => .inr ⟨g, cap, cur, a1, Nat.zero_le _, a3⟩)⟩, h8, fun k hk => .inr (h7.lt k hk)⟩
  · obtain ⟨v', w', hr, h7, h8, _⟩ := run_append_own (P := Try.prog) w 0 t ty e i0 z size bytes ht hi0 hz0 hzs0 hzb hzs hsz _ n xs hown ⟨b, 0, none⟩ m c news hl hc h1 hm1 hb1 (Nat.zero_le _)
    refine ⟨v', w', key _ _ hr, h7, h8, fun k hk => ?_⟩
    by_cases hroom : n + m ≤ cap
    · have hr2 := run_append_room (P := Try.prog) w t ty e i0 ht hi0 g n cap cur h2 ⟨b, 0, none⟩ m c news (by rw [hzs0]; exact hl) hc h1 hroom (by rw [hzs0, hl, h5, ← Nat.add_mul]; exact Nat.mul_le_mul_right _ hroom)
      rw [hr] at hr2
      injection hr2 with e1 e2
      subst e1
      exact .inl hk
    · have holds : ∀ j u, xs[j]? = some u → w.cell? ((⟨g, 0, none⟩ : Addr).add j) = some u := hown.cells (g := g) rfl
      have hr2 := run_append_grow (P := Try.prog) w t ty e i0 z ht hi0 hz0 ⟨g, 0, none⟩ n cap xs (by rw [hzs0]; exact hown.1) holds ⟨b, 0, none⟩ m c news (by rw [hzs0]; exact hl) hc (by omega) (by omega) (growslice_fits (by omega) (by rw [hzb]; exact hb1))
      rw [hr] at hr2
      injection hr2 with e1 e2
      subst e1
      subst e2
      simp [Value.ownBlock] at hk
      subst hk
      exact .inr ⟨by simp, by simp⟩

theorem info66 : (Try.prog.info? 92).map (fun i => (i.zero, i.size, i.bytes)) = some (some (.agg (wr (0, zeroC))), 65, 72) := by kernel_rfl
theorem info26 : (Try.prog.info? 90).map (fun i => (i.zero, i.size, i.bytes)) = some (some (.agg (arr zeroC)), 64, 64) := by kernel_rfl
theorem info3 : (Try.prog.info? 3).map (fun i => (i.zero, i.size, i.bytes)) = some (some (.int .i64 0), 1, 8) := by kernel_rfl

/-- Cells in a row. -/
def rowL (s : List (List Nat)) : List Value := s.flatten.map bv
/-- Writes in a row. -/
def rowW (l : List (Nat × List Nat)) : List Value := (l.map wrL).flatten

theorem rowL_len {s : List (List Nat)} (h : Cells s) : (rowL s).length = s.length * 64 := by rw [rowL, List.length_map, flat_len h]

theorem rowL_cell {s : List (List Nat)} (h : Cells s) {i : Nat} (hi : i < s.length) : ((rowL s).drop (i * 64)).take 64 = (s.getD i []).map bv := by
  have hc := getD_cell h hi
  apply List.ext_getElem?
  intro j
  rw [List.getElem?_take]
  split
  · rename_i hj
    rw [List.getElem?_drop, rowL, List.getElem?_map, List.getElem?_map, flat_get h hi hj]
  · rename_i hj
    rw [List.getElem?_map, List.getElem?_eq_none (by rw [hc.len]; omega)]
    rfl

theorem rowL_set {s : List (List Nat)} (h : Cells s) {c : List Nat} (hc : IsCell c) {i : Nat} (hi : i < s.length) : putL (rowL s) (i * 64) (c.map bv) = rowL (s.set i c) := by
  unfold putL rowL
  rw [flat_set h hc hi, List.map_append, List.map_append, List.map_take, List.map_drop, List.length_map, hc.len]

theorem rowW_len {n : Nat} {l : List (Nat × List Nat)} (h : Puts n l) : (rowW l).length = l.length * 65 := by
  unfold rowW
  induction l with
  | nil => rfl
  | cons x r ih =>
    rw [List.map_cons, List.flatten_cons, List.length_append, wrL_len x (h x (by simp)).2.len, ih (fun y hy => h y (by simp [hy])), List.length_cons]
    omega

theorem rowW_at {n : Nat} {l : List (Nat × List Nat)} (h : Puts n l) : ∀ {k : Nat} (hk : k < l.length), ((rowW l).drop (k * 65)).take 65 = wrL l[k] := by
  induction l with
  | nil => intro k hk; simp at hk
  | cons x r ih =>
    intro k hk
    have hx := wrL_len x (h x (by simp)).2.len
    have hr := @ih (fun y hy => h y (by simp [hy]))
    unfold rowW at hr ⊢
    rw [List.map_cons, List.flatten_cons]
    cases k with
    | zero =>
      rw [Nat.zero_mul, List.drop_zero, List.take_append_of_le_length (by omega), List.take_of_length_le (by omega)]
      rfl
    | succ k =>
      rw [show (k + 1) * 65 = (wrL x).length + k * 65 by omega, List.drop_length_add_append]
      exact hr (by simpa using hk)

theorem rowW_one (l : List (Nat × List Nat)) (x : Nat × List Nat) : rowW (l ++ [x]) = rowW l ++ wrL x := by simp [rowW]

/-- What was there and is none of these is as it was. -/
structure Keep (R : Nat → Prop) (w w' : World) : Prop where
  os : w'.os = w.os
  tape : w'.tape = w.tape
  output : w'.output = w.output
  size : w.heap.size ≤ w'.heap.size
  block : ∀ k, k < w.heap.size → ¬ R k → w'.heap[k]? = w.heap[k]?

theorem Keep.refl (R : Nat → Prop) (w : World) : Keep R w w := ⟨rfl, rfl, rfl, Nat.le_refl _, fun _ _ _ => rfl⟩
theorem Keep.trans {R : Nat → Prop} {a b c : World} (h : Keep R a b) {S : Nat → Prop} (k : Keep S b c) (hs : ∀ i, i < a.heap.size → S i → R i) : Keep R a c :=
  ⟨k.os.trans h.os, k.tape.trans h.tape, k.output.trans h.output, Nat.le_trans h.size k.size, fun i hi hr => (k.block i (Nat.lt_of_lt_of_le hi h.size) (fun e => hr (hs i hi e))).trans (h.block i hi hr)⟩
theorem Keep.drew {R : Nat → Prop} {a b : World} (h : Keep R a b) : Keep R a b.drew := ⟨h.os, h.tape, h.output, h.size, h.block⟩
theorem Keep.alloc {R : Nat → Prop} {a b : World} (h : Keep R a b) (o : Obj) : Keep R a (b.alloc o) :=
  h.trans (S := R) ⟨rfl, rfl, rfl, by simp, fun k hk _ => Below.heap_alloc _ _ _ hk⟩ (fun _ _ e => e)
theorem Keep.upd {R : Nat → Prop} {a b c : World} (h : Keep R a b) {g : Nat} (u : Upd g b c) (hg : g < a.heap.size → R g) : Keep R a c :=
  h.trans (S := fun k => k = g) ⟨u.os, u.tape, u.output, by rw [u.size]; exact Nat.le_refl _, fun k _ hk => u.block k hk⟩ (fun i hi e => by subst e; exact hg hi)
theorem Keep.grown {R : Nat → Prop} {a b c : World} (h : Keep R a b) {row : Option Nat} (g : b.grownBy c row) (hg : ∀ k, row = some k → k < a.heap.size → R k) : Keep R a c :=
  h.trans (S := fun k => some k = row) ⟨g.os, g.tape, g.output, g.size, fun k hk hn => g.block k hk hn⟩ (fun i hi e => hg i e.symm hi)
theorem Keep.setCell {R : Nat → Prop} {a b : World} (h : Keep R a b) {p : Addr} (hp : p.block < a.heap.size → R p.block) (v : Value) : Keep R a (b.setCell p v) :=
  h.trans (S := fun k => k = p.block) ⟨rfl, rfl, rfl, by simp [World.setCell], fun k _ hk => Below.heap_setCell _ _ _ _ hk⟩ (fun i hi e => by subst e; exact hp hi)
theorem Keep.of_below {R : Nat → Prop} {a b c : World} (h : Keep R a b) (k : Below b.heap.size b c) : Keep R a c :=
  h.trans (S := R) ⟨k.os, k.tape, k.output, k.size, fun i hi _ => k.block i hi⟩ (fun _ _ e => e)
theorem Keep.below {R : Nat → Prop} {a b : World} (h : Keep R a b) {B : Nat} (hB : B ≤ a.heap.size) (hR : ∀ k, R k → B ≤ k) : Below B a b :=
  ⟨h.os, h.tape, h.output, h.size, fun k hk => h.block k (by omega) (fun e => by have := hR k e; omega)⟩

/-- These, and all that came since. -/
def ext (R : Nat → Prop) (w w' : World) (k : Nat) : Prop := R k ∨ (w.heap.size ≤ k ∧ k < w'.heap.size)

/-- A plate at block g: its cells that are sure, those that were written last, what is loose. -/
structure PlM (w : World) (R : Nat → Prop) (g bs bl : Nat) (lv : Value) (P : Pl) : Prop where
  good : P.Good
  dom : ∀ k, R k → k < w.heap.size
  head : w.heap[g]? = some (.cells #[.slice (some ⟨bs, 0, none⟩) P.sure.length P.sure.length, .slice (some ⟨bl, 0, none⟩) P.sure.length P.sure.length, lv, .int .i64 P.left, .bool P.off] 70 (0, 0))
  rs : RowAt w bs 90 (rowL P.sure)
  rl : RowAt w bl 90 (rowL P.last)
  lo : w.ownsRow 0 92 65 lv P.loose.length (rowW P.loose)
  n1 : g ≠ bs
  n2 : g ≠ bl
  n3 : bs ≠ bl
  rg : R g
  rbs : R bs
  rbl : R bl
  lob : ∀ b, lv.ownBlock = some b → R b ∧ b ≠ g ∧ b ≠ bs ∧ b ≠ bl

def PlateP (w : World) (R : Nat → Prop) (g : Nat) (P : Pl) : Prop := ∃ bs bl lv, PlM w R g bs bl lv P

theorem ownsRow_same {w w' : World} {base : Nat} {e : TypeId} {size : Nat} {v : Value} {n : Nat} {xs : List Value} (h : w.ownsRow base e size v n xs) (hb : ∀ k, v.ownBlock = some k → w'.heap[k]? = w.heap[k]?) : w'.ownsRow base e size v n xs := by
  refine ⟨h.1, ?_⟩
  rcases h.2 with h1 | ⟨g, cap, cur, rfl, h1, h2, h3⟩
  · exact .inl h1
  · exact .inr ⟨g, cap, cur, rfl, h1, (hb g rfl).trans h2, h3⟩

/-- Where all of its blocks are as they were, the plate is. -/
theorem PlM.same {w w' : World} {R : Nat → Prop} {g bs bl : Nat} {lv : Value} {P : Pl} (h : PlM w R g bs bl lv P) (hs : w.heap.size ≤ w'.heap.size) (hb : ∀ k, R k → w'.heap[k]? = w.heap[k]?) : PlM w' R g bs bl lv P :=
  ⟨h.good, fun k hk => Nat.lt_of_lt_of_le (h.dom k hk) hs, (hb g h.rg).trans h.head, h.rs.same (hb bs h.rbs), h.rl.same (hb bl h.rbl), ownsRow_same h.lo (fun k hk => hb k (h.lob k hk).1), h.n1, h.n2, h.n3, h.rg, h.rbs, h.rbl, h.lob⟩

theorem PlM.below {w w' : World} {R : Nat → Prop} {g bs bl : Nat} {lv : Value} {P : Pl} (h : PlM w R g bs bl lv P) (hb : Below w.heap.size w w') : PlM w' R g bs bl lv P := h.same hb.size (fun k hk => hb.block k (h.dom k hk))
theorem PlM.drew {w : World} {R : Nat → Prop} {g bs bl : Nat} {lv : Value} {P : Pl} (h : PlM w R g bs bl lv P) : PlM w.drew R g bs bl lv P := h.same (Nat.le_refl _) (fun _ _ => rfl)
theorem PlM.alloc {w : World} {R : Nat → Prop} {g bs bl : Nat} {lv : Value} {P : Pl} (h : PlM w R g bs bl lv P) (o : Obj) : PlM (w.alloc o) R g bs bl lv P := h.below ((Below.refl _ _).alloc (Nat.le_refl _) o)
theorem PlM.keep {w w' : World} {R S : Nat → Prop} {g bs bl : Nat} {lv : Value} {P : Pl} (h : PlM w R g bs bl lv P) (hk : Keep S w w') (hd : ∀ k, R k → S k → False) : PlM w' R g bs bl lv P := h.same hk.size (fun k hr => hk.block k (h.dom k hr) (hd k hr))
theorem PlM.mono {w : World} {R S : Nat → Prop} {g bs bl : Nat} {lv : Value} {P : Pl} (h : PlM w R g bs bl lv P) (hS : ∀ k, S k → k < w.heap.size) (hRS : ∀ k, R k → S k) : PlM w S g bs bl lv P :=
  ⟨h.good, hS, h.head, h.rs, h.rl, h.lo, h.n1, h.n2, h.n3, hRS _ h.rg, hRS _ h.rbs, hRS _ h.rbl, fun b hb => ⟨hRS _ (h.lob b hb).1, (h.lob b hb).2⟩⟩
theorem PlM.ext {w w0 : World} {R : Nat → Prop} {g bs bl : Nat} {lv : Value} {P : Pl} (h : PlM w R g bs bl lv P) : PlM w (ext R w0 w) g bs bl lv P :=
  h.mono (fun k hk => hk.elim (h.dom k) (fun e => e.2)) (fun _ e => .inl e)

theorem head_cells {w : World} {g : Nat} {a b c d e : Value} {T : TypeId} (h : w.heap[g]? = some (.cells #[a, b, c, d, e] T (0, 0))) :
    w.cell? ⟨g, 0, none⟩ = some a ∧ w.cell? ⟨g, 1, none⟩ = some b ∧ w.cell? ⟨g, 2, none⟩ = some c ∧ w.cell? ⟨g, 3, none⟩ = some d ∧ w.cell? ⟨g, 4, none⟩ = some e ∧ ∀ j, w.frozen? ⟨g, j, none⟩ = false := by
  simp [World.cell?, World.frozen?, h]

/-- One of its fields is written. -/
theorem PlM.setHead {w : World} {R : Nat → Prop} {g bs bl : Nat} {lv : Value} {P : Pl} (h : PlM w R g bs bl lv P) {j : Nat} {v : Value} {P' : Pl} (hg : P'.Good) (h1 : P'.sure = P.sure) (h2 : P'.last = P.last) (h3 : P'.loose = P.loose)
    (hc : (#[.slice (some ⟨bs, 0, none⟩) P.sure.length P.sure.length, .slice (some ⟨bl, 0, none⟩) P.sure.length P.sure.length, lv, .int .i64 P.left, .bool P.off] : Array Value).setIfInBounds j v = #[.slice (some ⟨bs, 0, none⟩) P.sure.length P.sure.length, .slice (some ⟨bl, 0, none⟩) P.sure.length P.sure.length, lv, .int .i64 P'.left, .bool P'.off]) :
    PlM (w.setCell ⟨g, j, none⟩ v) R g bs bl lv P' := by
  have hb : ∀ k, k ≠ g → (w.setCell ⟨g, j, none⟩ v).heap[k]? = w.heap[k]? := fun k hk => heap_setCell_other w ⟨g, j, none⟩ k v hk
  refine ⟨hg, fun k hk => by simp [World.setCell]; exact h.dom k hk, ?_, ?_, ?_, ?_, h.n1, h.n2, h.n3, h.rg, h.rbs, h.rbl, h.lob⟩
  · rw [heap_setCell_same w g j _ _ _ h.head, hc, h1]
  · rw [h1]; exact h.rs.same (hb _ (Ne.symm h.n1))
  · rw [h2]; exact h.rl.same (hb _ (Ne.symm h.n2))
  · rw [h3]; exact ownsRow_same h.lo (fun k hk => hb k (h.lob k hk).2.1)

end Go.Proofs.Ytipikkniookanaa
