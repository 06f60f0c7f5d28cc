/- A copy that is written on, cell by cell; what else there is stays as it was. -/
import Derived.Test.YtaghbfnikcldiaaMgCopy
namespace Go.Proofs.Ytaghbfnikcldiaa
set_option maxRecDepth 100000
open Go.RowKit Go.ChangeShapes Go.WideShapes Go.ChangeAt

/-- One cell of a row of the call's own. -/
theorem RowD.read {d : RowD} {w : World} {base i : Nat} (h : d.owns w base) (hi : i < d.cells.length) :
    ∃ g, d.a = some ⟨g, 0, none⟩ ∧ base ≤ g ∧ g < w.heap.size ∧ d.m ≤ d.c ∧ w.cell? ⟨g, i, none⟩ = some d.cells[i] ∧ w.frozen? ⟨g, i, none⟩ = false ∧ ∀ v, (RowD.mk d.e d.n d.a d.m d.c d.len (d.cells.set i v)).owns (w.setCell ⟨g, i, none⟩ v) base := by
  obtain ⟨h0, h⟩ := h
  rcases h with ⟨_, e⟩ | ⟨g, cap, cur, hv, h1, h2, h3, h4, h5, h6⟩
  · rw [h0, e] at hi
    simp at hi
  · have hv' := hv
    injection hv with e1 e2 e3
    have hlt : i < d.len * d.n := by rw [← h0]; exact hi
    have hc : cur[i]? = some d.cells[i] := by
      have : (cur.toList.take (d.len * d.n))[i]? = d.cells[i]? := by rw [h6]
      rw [List.getElem?_take, if_pos hlt, Array.getElem?_toList, List.getElem?_eq_getElem hi] at this
      exact this
    refine ⟨g, e1, h1, (Array.getElem?_eq_some_iff.1 h2).1, by omega, ?_, ?_, fun v => ⟨by rw [List.length_set]; exact h0, .inr ⟨g, cap, cur.set! i v, hv', h1, ?_, h3, h4, by simpa using h5, ?_⟩⟩⟩
    · simp [World.cell?, h2, hc]
    · simp [World.frozen?, h2]
    · simp [World.setCell, Array.getElem?_modify, h2]
    · show _ = d.cells.set i v
      rw [← h6]
      simp only [Array.set!_eq_setIfInBounds, Array.toList_setIfInBounds]
      rw [List.take_set]
/-- Rows of the call's own that are written on, over a world from which nothing else is changed. -/
structure Tch (W0 : World) (B : Nat) (As : List (Option Addr)) (rs : List RowD) (W : World) : Prop where
  own : OwnRows W B rs
  adr : rs.map (·.a) = As
  low : Below B W0 W
  size : W.heap.size = W0.heap.size
  rest : ∀ k, (∀ a, some a ∈ As → a.block ≠ k) → W.heap[k]? = W0.heap[k]?
theorem Tch.mid {W0 W : World} {B i : Nat} {As : List (Option Addr)} {P Q : List RowD} {d : RowD} (h : Tch W0 B As (P ++ [d] ++ Q) W) (hi : i < d.cells.length) :
    ∃ g, d.a = some ⟨g, 0, none⟩ ∧ d.m ≤ d.c ∧ W.cell? ⟨g, i, none⟩ = some d.cells[i] ∧ W.frozen? ⟨g, i, none⟩ = false ∧ ∀ v, Tch W0 B As (P ++ [RowD.mk d.e d.n d.a d.m d.c d.len (d.cells.set i v)] ++ Q) (W.setCell ⟨g, i, none⟩ v) := by
  obtain ⟨g, e, h1, _, h3, h4, h5, h6⟩ := RowD.read (h.own.owns d (by simp)) hi
  refine ⟨g, e, h3, h4, h5, fun v => ⟨h.own.putMid _ rfl (by simp [World.setCell]) (h6 v) ⟨g, 0, none⟩ e (fun k hk => setCell_else W i v hk), by rw [← h.adr]; simp, h.low.setCell (p := ⟨g, i, none⟩) h1 v, by simp [World.setCell, h.size], fun k hk => ?_⟩⟩
  have hg : some ⟨g, 0, none⟩ ∈ As := by rw [← h.adr, ← e]; simp
  have := hk _ hg
  exact (setCell_else W i v (fun e => this e.symm)).trans (h.rest k hk)
/-- A state with other orders, batches, effects, doors at the same places. -/
def stT (s : StR) (L : List OdR) (M : List BtR) (E : List Ef) (F : List Int) : StR := ⟨s.waves, s.mans, s.limit, F, s.da, s.dc, s.now, s.nb, s.nk, L, s.oa, s.oc, M, s.ba, s.bc, E, s.ea, s.ec⟩
theorem rows_stT (s : StR) (L : List OdR) (M : List BtR) (E : List Ef) (F : List Int) : rowsOf (stT s L M E F) = [rdI s.da s.dc F, rdS LO s.oa s.oc L] ++ L.map rdL ++ [rdS LB s.ba s.bc M] ++ M.map rdT ++ [rdS LE s.ea s.ec E] := rfl
def totO (x : OdR) (v : Int) : OdR := ⟨⟨x.o.id, x.o.ls, x.o.car, x.o.zone, x.o.serv, v, x.o.phase, x.o.given, x.o.ref, x.o.batch⟩, x.a, x.c⟩
def lnsO (x : OdR) (l : List Ln) : OdR := ⟨⟨x.o.id, l, x.o.car, x.o.zone, x.o.serv, x.o.total, x.o.phase, x.o.given, x.o.ref, x.o.batch⟩, x.a, x.c⟩
def wtB (x : BtR) (v : Int) : BtR := ⟨⟨x.b.id, v, x.b.born, x.b.kind, x.b.phase, x.b.car, x.b.zone, x.b.serv, x.b.mem⟩, x.a, x.c⟩
def memB (x : BtR) (l : List ByteArray) : BtR := ⟨⟨x.b.id, x.b.wt, x.b.born, x.b.kind, x.b.phase, x.b.car, x.b.zone, x.b.serv, l⟩, x.a, x.c⟩
def turnE (e : Ef) (v : Int) : Ef := ⟨v, e.batch, e.due, e.kind, e.tries, e.order⟩
theorem cellsL_qset : ∀ (l : List Ln) (j : Nat) (hj : j < l.length) (q : Int), (cellsL l).set (j * 3 + 1) (.int .i64 q) = cellsL (l.set j ⟨l[j].sku, q, l[j].wt⟩)
  | x :: l, 0, _, q => rfl
  | x :: l, j + 1, hj, q => by
    have e : (j + 1) * 3 + 1 = j * 3 + 1 + 1 + 1 + 1 := by omega
    rw [e, cellsL_cons, List.set_cons_succ, List.set_cons_succ, List.set_cons_succ, cellsL_qset l j (by simpa using hj) q, List.set_cons_succ, cellsL_cons]
    rfl
theorem cellsL_qty : ∀ (l : List Ln) (j : Nat) (hj : j < l.length), (cellsL l)[j * 3 + 1]? = some (.int .i64 l[j].qty)
  | x :: l, 0, _ => rfl
  | x :: l, j + 1, hj => by
    have e : (j + 1) * 3 + 1 = j * 3 + 1 + 1 + 1 + 1 := by omega
    rw [e, cellsL_cons, List.getElem?_cons_succ, List.getElem?_cons_succ, List.getElem?_cons_succ, cellsL_qty l j (by simpa using hj)]
    rfl
theorem map_set_same {α β : Type} {f : α → β} {l : List α} {k : Nat} {y : α} (hk : k < l.length) (h : f y = f l[k]) : (l.set k y).map f = l.map f := by
  rw [List.map_set, h, show f l[k] = (l.map f)[k]'(by simpa using hk) by rw [List.getElem_map], List.set_getElem_self]
theorem cellsG_same {α : Type} {L : Lay α} {l : List α} {k : Nat} {y : α} (hk : k < l.length) (h : L.enc y = L.enc l[k]) : cellsG L (l.set k y) = cellsG L l := by
  unfold cellsG
  rw [List.flatMap_def, List.flatMap_def, map_set_same hk h]
theorem get_some {l : List Value} {i : Nat} {v : Value} (h : l[i]? = some v) : ∃ hi : i < l.length, l[i] = v := List.getElem?_eq_some_iff.1 h

theorem split_map {α β : Type} (f : α → β) {l : List α} {k : Nat} (hk : k < l.length) : l.map f = (l.take k).map f ++ [f l[k]] ++ (l.drop (k + 1)).map f := by
  have h := List.take_append_drop k l
  rw [List.drop_eq_getElem_cons hk] at h
  conv => lhs; rw [← h]
  rw [List.map_append, List.map_cons, List.append_assoc]
  rfl
theorem split_set {α β : Type} (f : α → β) {l : List α} {k : Nat} (hk : k < l.length) (y : α) : (l.set k y).map f = (l.take k).map f ++ [f y] ++ (l.drop (k + 1)).map f := by
  rw [List.set_eq_take_append_cons_drop, if_pos hk]
  simp
section
variable {W0 W : World} {B : Nat} {As : List (Option Addr)} {s : StR} {L : List OdR} {M : List BtR} {E : List Ef} {F : List Int}
/-- An order's Total. -/
theorem Tch.total (h : Tch W0 B As (rowsOf (stT s L M E F)) W) {k : Nat} (hk : k < L.length) :
    ∃ g, s.oa = some ⟨g, 0, none⟩ ∧ L.length ≤ s.oc ∧ W.cell? ⟨g, k * 10 + 5, none⟩ = some (.int .i64 L[k].o.total) ∧ W.frozen? ⟨g, k * 10 + 5, none⟩ = false ∧ ∀ v, Tch W0 B As (rowsOf (stT s (L.set k (totO L[k] v)) M E F)) (W.setCell ⟨g, k * 10 + 5, none⟩ (.int .i64 v)) := by
  have hr : rowsOf (stT s L M E F) = [rdI s.da s.dc F] ++ [rdS LO s.oa s.oc L] ++ (L.map rdL ++ [rdS LB s.ba s.bc M] ++ M.map rdT ++ [rdS LE s.ea s.ec E]) := by rw [rows_stT]; simp
  rw [hr] at h
  have hget : (cellsG LO L)[k * 10 + 5]? = some (.int .i64 L[k].o.total) := cellsG_get LO_ok (List.getElem?_eq_getElem hk) rfl
  obtain ⟨hi, hv⟩ := get_some hget
  obtain ⟨g, e, hc, h1, h2, h3⟩ := h.mid (d := rdS LO s.oa s.oc L) hi
  refine ⟨g, e, hc, by rw [h1]; exact congrArg some hv, h2, fun v => ?_⟩
  have h4 := h3 (.int .i64 v)
  have hcs : (cellsG LO L).set (k * 10 + 5) (.int .i64 v) = cellsG LO (L.set k (totO L[k] v)) := cellsG_set LO_ok hk (by decide) rfl
  have hd : RowD.mk LO.T LO.n s.oa L.length s.oc L.length ((cellsG LO L).set (k * 10 + 5) (.int .i64 v)) = rdS LO s.oa s.oc (L.set k (totO L[k] v)) := by
    rw [hcs]
    unfold rdS
    rw [List.length_set]
  have hrl : (L.set k (totO L[k] v)).map rdL = L.map rdL := map_set_same hk rfl
  have hr2 : rowsOf (stT s (L.set k (totO L[k] v)) M E F) = [rdI s.da s.dc F] ++ [rdS LO s.oa s.oc (L.set k (totO L[k] v))] ++ (L.map rdL ++ [rdS LB s.ba s.bc M] ++ M.map rdT ++ [rdS LE s.ea s.ec E]) := by rw [rows_stT, hrl]; simp
  rw [hr2, ← hd]
  exact h4
/-- Where an order's lines are. -/
theorem Tch.lines (h : Tch W0 B As (rowsOf (stT s L M E F)) W) {k : Nat} (hk : k < L.length) :
    ∃ g, s.oa = some ⟨g, 0, none⟩ ∧ L.length ≤ s.oc ∧ W.cell? ⟨g, k * 10 + 1, none⟩ = some (.slice L[k].a L[k].o.ls.length L[k].c) := by
  have hr : rowsOf (stT s L M E F) = [rdI s.da s.dc F] ++ [rdS LO s.oa s.oc L] ++ (L.map rdL ++ [rdS LB s.ba s.bc M] ++ M.map rdT ++ [rdS LE s.ea s.ec E]) := by rw [rows_stT]; simp
  rw [hr] at h
  have hget : (cellsG LO L)[k * 10 + 1]? = some (.slice L[k].a L[k].o.ls.length L[k].c) := cellsG_get LO_ok (List.getElem?_eq_getElem hk) rfl
  obtain ⟨hi, hv⟩ := get_some hget
  obtain ⟨g, e, hc, h1, _, _⟩ := h.mid (d := rdS LO s.oa s.oc L) hi
  exact ⟨g, e, hc, by rw [h1]; exact congrArg some hv⟩
/-- A line's Qty. -/
theorem Tch.qty (h : Tch W0 B As (rowsOf (stT s L M E F)) W) {k : Nat} (hk : k < L.length) {j : Nat} (hj : j < L[k].o.ls.length) :
    ∃ g, L[k].a = some ⟨g, 0, none⟩ ∧ L[k].o.ls.length ≤ L[k].c ∧ W.cell? ⟨g, j * 3 + 1, none⟩ = some (.int .i64 L[k].o.ls[j].qty) ∧ W.frozen? ⟨g, j * 3 + 1, none⟩ = false ∧ ∀ v, Tch W0 B As (rowsOf (stT s (L.set k (lnsO L[k] (L[k].o.ls.set j ⟨L[k].o.ls[j].sku, v, L[k].o.ls[j].wt⟩))) M E F)) (W.setCell ⟨g, j * 3 + 1, none⟩ (.int .i64 v)) := by
  have hr : rowsOf (stT s L M E F) = ([rdI s.da s.dc F, rdS LO s.oa s.oc L] ++ (L.take k).map rdL) ++ [rdL L[k]] ++ ((L.drop (k + 1)).map rdL ++ [rdS LB s.ba s.bc M] ++ M.map rdT ++ [rdS LE s.ea s.ec E]) := by rw [rows_stT, split_map rdL hk]; simp
  rw [hr] at h
  obtain ⟨hi, hv⟩ := get_some (cellsL_qty L[k].o.ls j hj)
  obtain ⟨g, e, hc, h1, h2, h3⟩ := h.mid (d := rdL L[k]) hi
  refine ⟨g, e, hc, by rw [h1]; exact congrArg some hv, h2, fun v => ?_⟩
  have h4 := h3 (.int .i64 v)
  have hd : RowD.mk 50 3 L[k].a L[k].o.ls.length L[k].c L[k].o.ls.length ((cellsL L[k].o.ls).set (j * 3 + 1) (.int .i64 v)) = rdL (lnsO L[k] (L[k].o.ls.set j ⟨L[k].o.ls[j].sku, v, L[k].o.ls[j].wt⟩)) := by
    rw [cellsL_qset _ _ hj]
    unfold rdL lnsO
    simp only [List.length_set]
  have hO : rdS LO s.oa s.oc (L.set k (lnsO L[k] (L[k].o.ls.set j ⟨L[k].o.ls[j].sku, v, L[k].o.ls[j].wt⟩))) = rdS LO s.oa s.oc L := by
    unfold rdS
    rw [cellsG_same hk (by show orL _ = orL _; unfold orL lnsO; simp only [List.length_set]), List.length_set]
  have hr2 : rowsOf (stT s (L.set k (lnsO L[k] (L[k].o.ls.set j ⟨L[k].o.ls[j].sku, v, L[k].o.ls[j].wt⟩))) M E F) = ([rdI s.da s.dc F, rdS LO s.oa s.oc L] ++ (L.take k).map rdL) ++ [rdL (lnsO L[k] (L[k].o.ls.set j ⟨L[k].o.ls[j].sku, v, L[k].o.ls[j].wt⟩))] ++ ((L.drop (k + 1)).map rdL ++ [rdS LB s.ba s.bc M] ++ M.map rdT ++ [rdS LE s.ea s.ec E]) := by
    rw [rows_stT, hO, split_set rdL hk]
    simp
  rw [hr2, ← hd]
  exact h4
/-- A batch's Weight. -/
theorem Tch.weight (h : Tch W0 B As (rowsOf (stT s L M E F)) W) {k : Nat} (hk : k < M.length) :
    ∃ g, s.ba = some ⟨g, 0, none⟩ ∧ M.length ≤ s.bc ∧ W.cell? ⟨g, k * 9 + 1, none⟩ = some (.int .i64 M[k].b.wt) ∧ W.frozen? ⟨g, k * 9 + 1, none⟩ = false ∧ ∀ v, Tch W0 B As (rowsOf (stT s L (M.set k (wtB M[k] v)) E F)) (W.setCell ⟨g, k * 9 + 1, none⟩ (.int .i64 v)) := by
  have hr : rowsOf (stT s L M E F) = ([rdI s.da s.dc F, rdS LO s.oa s.oc L] ++ L.map rdL) ++ [rdS LB s.ba s.bc M] ++ (M.map rdT ++ [rdS LE s.ea s.ec E]) := by rw [rows_stT]; simp
  rw [hr] at h
  have hget : (cellsG LB M)[k * 9 + 1]? = some (.int .i64 M[k].b.wt) := cellsG_get LB_ok (List.getElem?_eq_getElem hk) rfl
  obtain ⟨hi, hv⟩ := get_some hget
  obtain ⟨g, e, hc, h1, h2, h3⟩ := h.mid (d := rdS LB s.ba s.bc M) hi
  refine ⟨g, e, hc, by rw [h1]; exact congrArg some hv, h2, fun v => ?_⟩
  have h4 := h3 (.int .i64 v)
  have hcs : (cellsG LB M).set (k * 9 + 1) (.int .i64 v) = cellsG LB (M.set k (wtB M[k] v)) := cellsG_set LB_ok hk (by decide) rfl
  have hd : RowD.mk LB.T LB.n s.ba M.length s.bc M.length ((cellsG LB M).set (k * 9 + 1) (.int .i64 v)) = rdS LB s.ba s.bc (M.set k (wtB M[k] v)) := by
    rw [hcs]
    unfold rdS
    rw [List.length_set]
  have hrl : (M.set k (wtB M[k] v)).map rdT = M.map rdT := map_set_same hk rfl
  have hr2 : rowsOf (stT s L (M.set k (wtB M[k] v)) E F) = ([rdI s.da s.dc F, rdS LO s.oa s.oc L] ++ L.map rdL) ++ [rdS LB s.ba s.bc (M.set k (wtB M[k] v))] ++ (M.map rdT ++ [rdS LE s.ea s.ec E]) := by rw [rows_stT, hrl]; simp
  rw [hr2, ← hd]
  exact h4
/-- Where a batch's members are. -/
theorem Tch.members (h : Tch W0 B As (rowsOf (stT s L M E F)) W) {k : Nat} (hk : k < M.length) :
    ∃ g, s.ba = some ⟨g, 0, none⟩ ∧ M.length ≤ s.bc ∧ W.cell? ⟨g, k * 9 + 8, none⟩ = some (.slice M[k].a M[k].b.mem.length M[k].c) := by
  have hr : rowsOf (stT s L M E F) = ([rdI s.da s.dc F, rdS LO s.oa s.oc L] ++ L.map rdL) ++ [rdS LB s.ba s.bc M] ++ (M.map rdT ++ [rdS LE s.ea s.ec E]) := by rw [rows_stT]; simp
  rw [hr] at h
  have hget : (cellsG LB M)[k * 9 + 8]? = some (.slice M[k].a M[k].b.mem.length M[k].c) := cellsG_get LB_ok (List.getElem?_eq_getElem hk) rfl
  obtain ⟨hi, hv⟩ := get_some hget
  obtain ⟨g, e, hc, h1, _, _⟩ := h.mid (d := rdS LB s.ba s.bc M) hi
  exact ⟨g, e, hc, by rw [h1]; exact congrArg some hv⟩
/-- A member. -/
theorem Tch.member (h : Tch W0 B As (rowsOf (stT s L M E F)) W) {k : Nat} (hk : k < M.length) {j : Nat} (hj : j < M[k].b.mem.length) :
    ∃ g, M[k].a = some ⟨g, 0, none⟩ ∧ M[k].b.mem.length ≤ M[k].c ∧ W.cell? ⟨g, j, none⟩ = some (.string M[k].b.mem[j]) ∧ W.frozen? ⟨g, j, none⟩ = false ∧ ∀ t, Tch W0 B As (rowsOf (stT s L (M.set k (memB M[k] (M[k].b.mem.set j t))) E F)) (W.setCell ⟨g, j, none⟩ (.string t)) := by
  have hr : rowsOf (stT s L M E F) = ([rdI s.da s.dc F, rdS LO s.oa s.oc L] ++ L.map rdL ++ [rdS LB s.ba s.bc M] ++ (M.take k).map rdT) ++ [rdT M[k]] ++ ((M.drop (k + 1)).map rdT ++ [rdS LE s.ea s.ec E]) := by rw [rows_stT, split_map rdT hk]; simp
  rw [hr] at h
  have hget : (M[k].b.mem.map Value.string)[j]? = some (.string M[k].b.mem[j]) := by rw [List.getElem?_map, List.getElem?_eq_getElem hj]; rfl
  obtain ⟨hi, hv⟩ := get_some hget
  obtain ⟨g, e, hc, h1, h2, h3⟩ := h.mid (d := rdT M[k]) hi
  refine ⟨g, e, hc, by rw [h1]; exact congrArg some hv, h2, fun t => ?_⟩
  have h4 := h3 (.string t)
  have hd : RowD.mk 9 1 M[k].a M[k].b.mem.length M[k].c M[k].b.mem.length ((M[k].b.mem.map Value.string).set j (.string t)) = rdT (memB M[k] (M[k].b.mem.set j t)) := by
    rw [← List.map_set]
    unfold rdT memB
    simp only [List.length_set]
  have hO : rdS LB s.ba s.bc (M.set k (memB M[k] (M[k].b.mem.set j t))) = rdS LB s.ba s.bc M := by
    unfold rdS
    rw [cellsG_same hk (by show baL _ = baL _; unfold baL memB; simp only [List.length_set]), List.length_set]
  have hr2 : rowsOf (stT s L (M.set k (memB M[k] (M[k].b.mem.set j t))) E F) = ([rdI s.da s.dc F, rdS LO s.oa s.oc L] ++ L.map rdL ++ [rdS LB s.ba s.bc M] ++ (M.take k).map rdT) ++ [rdT (memB M[k] (M[k].b.mem.set j t))] ++ ((M.drop (k + 1)).map rdT ++ [rdS LE s.ea s.ec E]) := by
    rw [rows_stT, hO, split_set rdT hk]
    simp
  rw [hr2, ← hd]
  exact h4
/-- An effect's Key. -/
theorem Tch.key (h : Tch W0 B As (rowsOf (stT s L M E F)) W) {k : Nat} (hk : k < E.length) :
    ∃ g, s.ea = some ⟨g, 0, none⟩ ∧ E.length ≤ s.ec ∧ W.cell? ⟨g, k * 6, none⟩ = some (.int .i64 E[k].key) ∧ W.frozen? ⟨g, k * 6, none⟩ = false ∧ ∀ v, Tch W0 B As (rowsOf (stT s L M (E.set k (turnE E[k] v)) F)) (W.setCell ⟨g, k * 6, none⟩ (.int .i64 v)) := by
  have hr : rowsOf (stT s L M E F) = ([rdI s.da s.dc F, rdS LO s.oa s.oc L] ++ L.map rdL ++ [rdS LB s.ba s.bc M] ++ M.map rdT) ++ [rdS LE s.ea s.ec E] ++ [] := by rw [rows_stT]; simp
  rw [hr] at h
  have hget : (cellsG LE E)[k * 6 + 0]? = some (.int .i64 E[k].key) := cellsG_get LE_ok (List.getElem?_eq_getElem hk) rfl
  rw [Nat.add_zero] at hget
  obtain ⟨hi, hv⟩ := get_some hget
  obtain ⟨g, e, hc, h1, h2, h3⟩ := h.mid (d := rdS LE s.ea s.ec E) hi
  refine ⟨g, e, hc, by rw [h1]; exact congrArg some hv, h2, fun v => ?_⟩
  have h4 := h3 (.int .i64 v)
  have hcs : (cellsG LE E).set (k * 6 + 0) (.int .i64 v) = cellsG LE (E.set k (turnE E[k] v)) := cellsG_set LE_ok hk (by decide) rfl
  rw [Nat.add_zero] at hcs
  have hd : RowD.mk LE.T LE.n s.ea E.length s.ec E.length ((cellsG LE E).set (k * 6) (.int .i64 v)) = rdS LE s.ea s.ec (E.set k (turnE E[k] v)) := by
    rw [hcs]
    unfold rdS
    rw [List.length_set]
  have hr2 : rowsOf (stT s L M (E.set k (turnE E[k] v)) F) = ([rdI s.da s.dc F, rdS LO s.oa s.oc L] ++ L.map rdL ++ [rdS LB s.ba s.bc M] ++ M.map rdT) ++ [rdS LE s.ea s.ec (E.set k (turnE E[k] v))] ++ [] := by rw [rows_stT]; simp
  rw [hr2, ← hd]
  exact h4
/-- A door. -/
theorem Tch.door (h : Tch W0 B As (rowsOf (stT s L M E F)) W) {k : Nat} (hk : k < F.length) :
    ∃ g, s.da = some ⟨g, 0, none⟩ ∧ F.length ≤ s.dc ∧ W.cell? ⟨g, k, none⟩ = some (.int .i64 F[k]) ∧ W.frozen? ⟨g, k, none⟩ = false ∧ ∀ v, Tch W0 B As (rowsOf (stT s L M E (F.set k v))) (W.setCell ⟨g, k, none⟩ (.int .i64 v)) := by
  have hr : rowsOf (stT s L M E F) = [] ++ [rdI s.da s.dc F] ++ ([rdS LO s.oa s.oc L] ++ L.map rdL ++ [rdS LB s.ba s.bc M] ++ M.map rdT ++ [rdS LE s.ea s.ec E]) := by rw [rows_stT]; simp
  rw [hr] at h
  have hget : (F.map iv)[k]? = some (.int .i64 F[k]) := by rw [List.getElem?_map, List.getElem?_eq_getElem hk]; rfl
  obtain ⟨hi, hv⟩ := get_some hget
  obtain ⟨g, e, hc, h1, h2, h3⟩ := h.mid (d := rdI s.da s.dc F) hi
  refine ⟨g, e, hc, by rw [h1]; exact congrArg some hv, h2, fun v => ?_⟩
  have h4 := h3 (.int .i64 v)
  have hd : RowD.mk 3 1 s.da F.length s.dc F.length ((F.map iv).set k (.int .i64 v)) = rdI s.da s.dc (F.set k v) := by
    rw [show Value.int .i64 v = iv v from rfl, ← List.map_set]
    unfold rdI
    rw [List.length_set]
  have hr2 : rowsOf (stT s L M E (F.set k v)) = [] ++ [rdI s.da s.dc (F.set k v)] ++ ([rdS LO s.oa s.oc L] ++ L.map rdL ++ [rdS LB s.ba s.bc M] ++ M.map rdT ++ [rdS LE s.ea s.ec E]) := by rw [rows_stT]; simp
  rw [hr2, ← hd]
  exact h4
end

end Go.Proofs.Ytaghbfnikcldiaa
