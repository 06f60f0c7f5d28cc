/- What the document's Put and Flush answer. -/
import Derived.Test.YtipikkniookanaaRef
namespace Go.Proofs.Ytipikkniookanaa
open Go.RowKit

attribute [local go_sem ↓] ld26 ld66 st26 st66 bx26 al26 al66 bd26 bd66 bs61 bs48 mk48 eq26 ap61 ap48 ap49 cp46 cp48
attribute [local go_sem] bx_agg al_cell al_wr bd_zero bd_one bd_two bd_nine bs_none

section
variable {w w' : World} {R : Nat → Prop} {g : Nat} {sv lv av wv : Value} {r : Rf}

/-- A row of one's own, some of it laid over. -/
theorem own_set {e : TypeId} {size : Nat} {v : Value} {n : Nat} {xs : List Value} (h : w.ownsRow 0 e size v n xs) {b : Nat} (hb : v.ownBlock = some b) {o : Nat} {vs : List Value} (ho : o + vs.length ≤ xs.length) :
    (w.setCells b o vs).ownsRow 0 e size v n (putL xs o vs) ∧ Upd b w (w.setCells b o vs) := by
  rcases h.2 with ⟨rfl, _⟩ | ⟨b', cap, cur, rfl, h1, h2, h3, h4, h5, h6⟩
  · cases hb
  · simp [Value.ownBlock] at hb
    subst hb
    have hl := h.1
    have hle : xs.length ≤ cur.size := by rw [hl, h5]; exact Nat.mul_le_mul_right _ h3
    obtain ⟨a1, a2⟩ := setCells_block b' e vs o w cur h2 (by omega)
    refine ⟨⟨by rw [putL_len ho, hl], .inr ⟨b', cap, _, rfl, h1, a1, h3, h4, ?_, ?_⟩⟩, a2⟩
    · rw [List.size_toArray, putL_len (by simp; omega)]
      simpa using h5
    · show (putL cur.toList o vs).take (n * size) = _
      rw [← hl, putL_take ho (by simpa using hle), hl, h6]

/-- A cell is written into it. -/
theorem own_st {e : TypeId} {size : Nat} {v : Value} {n : Nat} {xs : List Value} (h : w.ownsRow 0 e size v n xs) {b : Nat} (hb : v.ownBlock = some b) {o : Nat} {c : List Nat} (hc : c.length = 64) (ho : o + 64 ≤ xs.length) :
    ∃ w', StR 90 (.pointer (some ⟨b, o, none⟩)) (.agg (arr c)) w = .ok .skip w' ∧ w'.ownsRow 0 e size v n (putL xs o (c.map bv)) ∧ Upd b w w' := by
  have hr := rowAt_own h hb
  have hl : (c.map bv).length = 64 := by rw [List.length_map, hc]
  obtain ⟨h1, h2⟩ := own_set h hb (o := o) (vs := c.map bv) (by rw [hl]; exact ho)
  refine ⟨_, ?_, h1, h2⟩
  have hst := run_storeCells_cells (P := Try.prog) b o (c.map bv) 0 w (fun j hj => by
      rw [Nat.add_zero, hr.cell (List.getElem?_eq_getElem (show o + j < xs.length by omega))]; rfl) (fun j hj => hr.frozen _) (fun v hv => by obtain ⟨x, _, rfl⟩ := List.mem_map.1 hv; rfl)
  have hs : ∀ W, (sizeOf 90).run Try.prog W = .ok (c.map bv).length W := fun W => by rw [hl]; exact sizeOf26 W
  simp only [StR, Instr.storeAt, Instr.sureAddr, Sem.run_bind, Sem.run_pure, Result.andThen_ok, storeVar, hs, Value.cells, arr, List.size_toArray, List.toList_toArray, ne_eq, not_true_eq_false, if_false]
  rw [hst]
  rfl

/-- What is seen is written. -/
theorem RfM.setSeen (h : RfM w R g sv lv av wv r) {b : Nat} (hb : lv.ownBlock = some b) (u : Upd b w w') {l' : List (List Nat)} (ho : w'.ownsRow 0 90 64 lv l'.length (rowL l')) (good : Rf.Good { r with seen := l' }) : RfM w' R g sv lv av wv { r with seen := l' } :=
  ⟨good, fun k hk => by rw [u.size]; exact h.dom k hk, (u.block g (fun e => (h.bl b hb).2 e.symm)).trans h.head, ownsRow_same h.os (fun k hk => u.block k (fun e => h.sl k hk (by rw [e]; exact hb))), ho, ownsRow_same h.oa (fun k hk => u.block k (fun e => h.la k (by rw [e]; exact hb) hk)), ownsRow_same h.ow (fun k hk => u.block k (fun e => h.lw k (by rw [e]; exact hb) hk)), h.rg, h.bs, h.bl, h.ba, h.bw, h.sl, h.sa, h.sw, h.la, h.lw, h.aw⟩
/-- What is sure is written. -/
theorem RfM.setSure (h : RfM w R g sv lv av wv r) {b : Nat} (hb : sv.ownBlock = some b) (u : Upd b w w') {l' : List (List Nat)} (ho : w'.ownsRow 0 90 64 sv l'.length (rowL l')) (good : Rf.Good { r with sure := l' }) : RfM w' R g sv lv av wv { r with sure := l' } :=
  ⟨good, fun k hk => by rw [u.size]; exact h.dom k hk, (u.block g (fun e => (h.bs b hb).2 e.symm)).trans h.head, ho, ownsRow_same h.ol (fun k hk => u.block k (fun e => h.sl k (by rw [e]; exact hb) hk)), ownsRow_same h.oa (fun k hk => u.block k (fun e => h.sa k (by rw [e]; exact hb) hk)), ownsRow_same h.ow (fun k hk => u.block k (fun e => h.sw k (by rw [e]; exact hb) hk)), h.rg, h.bs, h.bl, h.ba, h.bw, h.sl, h.sa, h.sw, h.la, h.lw, h.aw⟩

theorem RfM.putS (h : RfM w R g sv lv av wv r) (_hs : w.heap.size ≤ w'.heap.size) (H1 : ∀ k, R k → sv.ownBlock ≠ some k → w'.heap[k]? = w.heap[k]?) {sv' : Value} {l' : List (List Nat)} (ho : w'.ownsRow 0 90 64 sv' l'.length (rowL l'))
    (H3 : ∀ b, sv'.ownBlock = some b → sv.ownBlock = some b ∨ (w.heap.size ≤ b ∧ b < w'.heap.size)) (good : Rf.Good { r with sure := l' }) {S : Nat → Prop} (hS : ∀ k, S k → k < w'.heap.size) (hRS : ∀ k, R k → S k) (hnew : ∀ k, w.heap.size ≤ k → k < w'.heap.size → S k) :
    RfM (w'.setCell ⟨g, 0, none⟩ sv') S g sv' lv av wv { r with sure := l' } := by
  have hset : ∀ k, k ≠ g → (w'.setCell ⟨g, 0, none⟩ sv').heap[k]? = w'.heap[k]? := fun k hk => heap_setCell_other w' ⟨g, 0, none⟩ k sv' hk
  have e1 := H1 g h.rg (fun e => (h.bs g e).2 rfl)
  have ql : ∀ b, lv.ownBlock = some b → sv.ownBlock = some b → False := fun b h1 h2 => h.sl b h2 h1
  have qa : ∀ b, av.ownBlock = some b → sv.ownBlock = some b → False := fun b h1 h2 => h.sa b h2 h1
  have qw : ∀ b, wv.ownBlock = some b → sv.ownBlock = some b → False := fun b h1 h2 => h.sw b h2 h1
  have hx : ∀ b, sv'.ownBlock = some b → S b ∧ b ≠ g := fun b hb => by
    rcases H3 b hb with h1 | h1
    · exact ⟨hRS _ (h.bs b h1).1, (h.bs b h1).2⟩
    · have := h.dom g h.rg
      exact ⟨hnew b h1.1 h1.2, by omega⟩
  have nl : ∀ b, sv'.ownBlock = some b → lv.ownBlock = some b → False := fun b hb hb2 => by
    rcases H3 b hb with h1 | h1
    · exact ql b hb2 h1
    · have := h.dom b (h.bl b hb2).1
      omega
  have na : ∀ b, sv'.ownBlock = some b → av.ownBlock = some b → False := fun b hb hb2 => by
    rcases H3 b hb with h1 | h1
    · exact qa b hb2 h1
    · have := h.dom b (h.ba b hb2).1
      omega
  have nw : ∀ b, sv'.ownBlock = some b → wv.ownBlock = some b → False := fun b hb hb2 => by
    rcases H3 b hb with h1 | h1
    · exact qw b hb2 h1
    · have := h.dom b (h.bw b hb2).1
      omega
  exact ⟨good, fun k hk => by simp [World.setCell]; exact hS k hk, by rw [heap_setCell_same w' g 0 _ _ _ (e1.trans h.head)]; rfl, ownsRow_same ho (fun k hk => hset k (hx k hk).2), ownsRow_same h.ol (fun k hk => (hset k (h.bl k hk).2).trans (H1 k (h.bl k hk).1 (fun e => ql k hk e))), ownsRow_same h.oa (fun k hk => (hset k (h.ba k hk).2).trans (H1 k (h.ba k hk).1 (fun e => qa k hk e))), ownsRow_same h.ow (fun k hk => (hset k (h.bw k hk).2).trans (H1 k (h.bw k hk).1 (fun e => qw k hk e))), hRS _ h.rg, hx, fun b hb => ⟨hRS _ (h.bl b hb).1, (h.bl b hb).2⟩, fun b hb => ⟨hRS _ (h.ba b hb).1, (h.ba b hb).2⟩, fun b hb => ⟨hRS _ (h.bw b hb).1, (h.bw b hb).2⟩, fun b h1 h2 => nl b h1 h2, fun b h1 h2 => na b h1 h2, fun b h1 h2 => nw b h1 h2, h.la, h.lw, h.aw⟩

theorem RfM.putL (h : RfM w R g sv lv av wv r) (_hs : w.heap.size ≤ w'.heap.size) (H1 : ∀ k, R k → lv.ownBlock ≠ some k → w'.heap[k]? = w.heap[k]?) {lv' : Value} {l' : List (List Nat)} (ho : w'.ownsRow 0 90 64 lv' l'.length (rowL l'))
    (H3 : ∀ b, lv'.ownBlock = some b → lv.ownBlock = some b ∨ (w.heap.size ≤ b ∧ b < w'.heap.size)) (good : Rf.Good { r with seen := l' }) {S : Nat → Prop} (hS : ∀ k, S k → k < w'.heap.size) (hRS : ∀ k, R k → S k) (hnew : ∀ k, w.heap.size ≤ k → k < w'.heap.size → S k) :
    RfM (w'.setCell ⟨g, 1, none⟩ lv') S g sv lv' av wv { r with seen := l' } := by
  have hset : ∀ k, k ≠ g → (w'.setCell ⟨g, 1, none⟩ lv').heap[k]? = w'.heap[k]? := fun k hk => heap_setCell_other w' ⟨g, 1, none⟩ k lv' hk
  have e1 := H1 g h.rg (fun e => (h.bl g e).2 rfl)
  have qs : ∀ b, sv.ownBlock = some b → lv.ownBlock = some b → False := fun b h1 h2 => h.sl b h1 h2
  have qa : ∀ b, av.ownBlock = some b → lv.ownBlock = some b → False := fun b h1 h2 => h.la b h2 h1
  have qw : ∀ b, wv.ownBlock = some b → lv.ownBlock = some b → False := fun b h1 h2 => h.lw b h2 h1
  have hx : ∀ b, lv'.ownBlock = some b → S b ∧ b ≠ g := fun b hb => by
    rcases H3 b hb with h1 | h1
    · exact ⟨hRS _ (h.bl b h1).1, (h.bl b h1).2⟩
    · have := h.dom g h.rg
      exact ⟨hnew b h1.1 h1.2, by omega⟩
  have ns : ∀ b, lv'.ownBlock = some b → sv.ownBlock = some b → False := fun b hb hb2 => by
    rcases H3 b hb with h1 | h1
    · exact qs b hb2 h1
    · have := h.dom b (h.bs b hb2).1
      omega
  have na : ∀ b, lv'.ownBlock = some b → av.ownBlock = some b → False := fun b hb hb2 => by
    rcases H3 b hb with h1 | h1
    · exact qa b hb2 h1
    · have := h.dom b (h.ba b hb2).1
      omega
  have nw : ∀ b, lv'.ownBlock = some b → wv.ownBlock = some b → False := fun b hb hb2 => by
    rcases H3 b hb with h1 | h1
    · exact qw b hb2 h1
    · have := h.dom b (h.bw b hb2).1
      omega
  exact ⟨good, fun k hk => by simp [World.setCell]; exact hS k hk, by rw [heap_setCell_same w' g 1 _ _ _ (e1.trans h.head)]; rfl, ownsRow_same h.os (fun k hk => (hset k (h.bs k hk).2).trans (H1 k (h.bs k hk).1 (fun e => qs k hk e))), ownsRow_same ho (fun k hk => hset k (hx k hk).2), ownsRow_same h.oa (fun k hk => (hset k (h.ba k hk).2).trans (H1 k (h.ba k hk).1 (fun e => qa k hk e))), ownsRow_same h.ow (fun k hk => (hset k (h.bw k hk).2).trans (H1 k (h.bw k hk).1 (fun e => qw k hk e))), hRS _ h.rg, fun b hb => ⟨hRS _ (h.bs b hb).1, (h.bs b hb).2⟩, hx, fun b hb => ⟨hRS _ (h.ba b hb).1, (h.ba b hb).2⟩, fun b hb => ⟨hRS _ (h.bw b hb).1, (h.bw b hb).2⟩, fun b h1 h2 => ns b h2 h1, h.sa, h.sw, fun b h1 h2 => na b h1 h2, fun b h1 h2 => nw b h1 h2, h.aw⟩

theorem RfM.putA (h : RfM w R g sv lv av wv r) (_hs : w.heap.size ≤ w'.heap.size) (H1 : ∀ k, R k → av.ownBlock ≠ some k → w'.heap[k]? = w.heap[k]?) {av' : Value} {l' : List Nat} (ho : w'.ownsRow 0 3 1 av' l'.length (rowI l'))
    (H3 : ∀ b, av'.ownBlock = some b → av.ownBlock = some b ∨ (w.heap.size ≤ b ∧ b < w'.heap.size)) (good : Rf.Good { r with ats := l' }) {S : Nat → Prop} (hS : ∀ k, S k → k < w'.heap.size) (hRS : ∀ k, R k → S k) (hnew : ∀ k, w.heap.size ≤ k → k < w'.heap.size → S k) :
    RfM (w'.setCell ⟨g, 2, none⟩ av') S g sv lv av' wv { r with ats := l' } := by
  have hset : ∀ k, k ≠ g → (w'.setCell ⟨g, 2, none⟩ av').heap[k]? = w'.heap[k]? := fun k hk => heap_setCell_other w' ⟨g, 2, none⟩ k av' hk
  have e1 := H1 g h.rg (fun e => (h.ba g e).2 rfl)
  have qs : ∀ b, sv.ownBlock = some b → av.ownBlock = some b → False := fun b h1 h2 => h.sa b h1 h2
  have ql : ∀ b, lv.ownBlock = some b → av.ownBlock = some b → False := fun b h1 h2 => h.la b h1 h2
  have qw : ∀ b, wv.ownBlock = some b → av.ownBlock = some b → False := fun b h1 h2 => h.aw b h2 h1
  have hx : ∀ b, av'.ownBlock = some b → S b ∧ b ≠ g := fun b hb => by
    rcases H3 b hb with h1 | h1
    · exact ⟨hRS _ (h.ba b h1).1, (h.ba b h1).2⟩
    · have := h.dom g h.rg
      exact ⟨hnew b h1.1 h1.2, by omega⟩
  have ns : ∀ b, av'.ownBlock = some b → sv.ownBlock = some b → False := fun b hb hb2 => by
    rcases H3 b hb with h1 | h1
    · exact qs b hb2 h1
    · have := h.dom b (h.bs b hb2).1
      omega
  have nl : ∀ b, av'.ownBlock = some b → lv.ownBlock = some b → False := fun b hb hb2 => by
    rcases H3 b hb with h1 | h1
    · exact ql b hb2 h1
    · have := h.dom b (h.bl b hb2).1
      omega
  have nw : ∀ b, av'.ownBlock = some b → wv.ownBlock = some b → False := fun b hb hb2 => by
    rcases H3 b hb with h1 | h1
    · exact qw b hb2 h1
    · have := h.dom b (h.bw b hb2).1
      omega
  exact ⟨good, fun k hk => by simp [World.setCell]; exact hS k hk, by rw [heap_setCell_same w' g 2 _ _ _ (e1.trans h.head)]; rfl, ownsRow_same h.os (fun k hk => (hset k (h.bs k hk).2).trans (H1 k (h.bs k hk).1 (fun e => qs k hk e))), ownsRow_same h.ol (fun k hk => (hset k (h.bl k hk).2).trans (H1 k (h.bl k hk).1 (fun e => ql k hk e))), ownsRow_same ho (fun k hk => hset k (hx k hk).2), ownsRow_same h.ow (fun k hk => (hset k (h.bw k hk).2).trans (H1 k (h.bw k hk).1 (fun e => qw k hk e))), hRS _ h.rg, fun b hb => ⟨hRS _ (h.bs b hb).1, (h.bs b hb).2⟩, fun b hb => ⟨hRS _ (h.bl b hb).1, (h.bl b hb).2⟩, hx, fun b hb => ⟨hRS _ (h.bw b hb).1, (h.bw b hb).2⟩, h.sl, fun b h1 h2 => ns b h2 h1, h.sw, fun b h1 h2 => nl b h2 h1, h.lw, fun b h1 h2 => nw b h1 h2⟩

theorem RfM.putW (h : RfM w R g sv lv av wv r) (_hs : w.heap.size ≤ w'.heap.size) (H1 : ∀ k, R k → wv.ownBlock ≠ some k → w'.heap[k]? = w.heap[k]?) {wv' : Value} {l' : List (List Nat)} (ho : w'.ownsRow 0 90 64 wv' l'.length (rowL l'))
    (H3 : ∀ b, wv'.ownBlock = some b → wv.ownBlock = some b ∨ (w.heap.size ≤ b ∧ b < w'.heap.size)) (good : Rf.Good { r with what := l' }) {S : Nat → Prop} (hS : ∀ k, S k → k < w'.heap.size) (hRS : ∀ k, R k → S k) (hnew : ∀ k, w.heap.size ≤ k → k < w'.heap.size → S k) :
    RfM (w'.setCell ⟨g, 3, none⟩ wv') S g sv lv av wv' { r with what := l' } := by
  have hset : ∀ k, k ≠ g → (w'.setCell ⟨g, 3, none⟩ wv').heap[k]? = w'.heap[k]? := fun k hk => heap_setCell_other w' ⟨g, 3, none⟩ k wv' hk
  have e1 := H1 g h.rg (fun e => (h.bw g e).2 rfl)
  have qs : ∀ b, sv.ownBlock = some b → wv.ownBlock = some b → False := fun b h1 h2 => h.sw b h1 h2
  have ql : ∀ b, lv.ownBlock = some b → wv.ownBlock = some b → False := fun b h1 h2 => h.lw b h1 h2
  have qa : ∀ b, av.ownBlock = some b → wv.ownBlock = some b → False := fun b h1 h2 => h.aw b h1 h2
  have hx : ∀ b, wv'.ownBlock = some b → S b ∧ b ≠ g := fun b hb => by
    rcases H3 b hb with h1 | h1
    · exact ⟨hRS _ (h.bw b h1).1, (h.bw b h1).2⟩
    · have := h.dom g h.rg
      exact ⟨hnew b h1.1 h1.2, by omega⟩
  have ns : ∀ b, wv'.ownBlock = some b → sv.ownBlock = some b → False := fun b hb hb2 => by
    rcases H3 b hb with h1 | h1
    · exact qs b hb2 h1
    · have := h.dom b (h.bs b hb2).1
      omega
  have nl : ∀ b, wv'.ownBlock = some b → lv.ownBlock = some b → False := fun b hb hb2 => by
    rcases H3 b hb with h1 | h1
    · exact ql b hb2 h1
    · have := h.dom b (h.bl b hb2).1
      omega
  have na : ∀ b, wv'.ownBlock = some b → av.ownBlock = some b → False := fun b hb hb2 => by
    rcases H3 b hb with h1 | h1
    · exact qa b hb2 h1
    · have := h.dom b (h.ba b hb2).1
      omega
  exact ⟨good, fun k hk => by simp [World.setCell]; exact hS k hk, by rw [heap_setCell_same w' g 3 _ _ _ (e1.trans h.head)]; rfl, ownsRow_same h.os (fun k hk => (hset k (h.bs k hk).2).trans (H1 k (h.bs k hk).1 (fun e => qs k hk e))), ownsRow_same h.ol (fun k hk => (hset k (h.bl k hk).2).trans (H1 k (h.bl k hk).1 (fun e => ql k hk e))), ownsRow_same h.oa (fun k hk => (hset k (h.ba k hk).2).trans (H1 k (h.ba k hk).1 (fun e => qa k hk e))), ownsRow_same ho (fun k hk => hset k (hx k hk).2), hRS _ h.rg, fun b hb => ⟨hRS _ (h.bs b hb).1, (h.bs b hb).2⟩, fun b hb => ⟨hRS _ (h.bl b hb).1, (h.bl b hb).2⟩, fun b hb => ⟨hRS _ (h.ba b hb).1, (h.ba b hb).2⟩, hx, h.sl, h.sa, fun b h1 h2 => ns b h2 h1, h.la, fun b h1 h2 => nl b h2 h1, fun b h1 h2 => na b h2 h1⟩


/-- The document's Put. -/
def Rf.put (r : Rf) (i : Int) (c : List Nat) : Int × Rf :=
  if r.has i then (if r.power.1 then (0, { r.power.2 with seen := r.seen.set i.toNat c, ats := r.ats ++ [i.toNat], what := r.what ++ [c] }) else (72, r.power.2)) else (71, r)

def RefPost (p : Int × Rf) (R : Nat → Prop) (g : Nat) (w : World) (e : Ending) (w' : World) : Prop := e = .returned (.int .i64 p.1) ∧ RefP w' (ext R w w') g p.2 ∧ Keep R w w'

theorem Rf.power_same (r : Rf) : r.power.2.sure = r.sure ∧ r.power.2.seen = r.seen ∧ r.power.2.ats = r.ats ∧ r.power.2.what = r.what := by
  unfold Rf.power
  split <;> exact ⟨rfl, rfl, rfl, rfl⟩

theorem rowI_one (l : List Nat) (i : Nat) : rowI (l ++ [i]) = rowI l ++ [.int .i64 (i : Int)] := by simp [rowI]
theorem rowL_one (l : List (List Nat)) (c : List Nat) : rowL (l ++ [c]) = rowL l ++ c.map bv := by simp [rowL]

set_option maxHeartbeats 8000000 in
set_option maxRecDepth 100000 in
theorem refPut_any (h : RfM w R g sv lv av wv r) (i : Int) {c : List Nat} (hc : IsCell c) (hla : r.ats.length < 100000) (hlw : r.what.length < 100000) : Calls Try.prog 87 #[ptr g, .int .i64 i, .agg (arr c)] w (RefPost (r.put i c) R g w) := by
  have h1 := h.alloc (.cells (arr c) 90)
  have kp1 := (Keep.refl R w).alloc (.cells (arr c) 90)
  have SP := Lib.hid (power_any h1)
  have k1 := cell_block w c
  have HDOM := Lib.hid h.dom
  have HR := Lib.hid h.rg
  have hsz : g < w.heap.size := h.dom g h.rg
  have ng : g ≠ w.heap.size := by omega
  obtain ⟨c0, c1, c2, c3, c4, c5, c6, hf⟩ := head7 h1.head
  cases t0 : decide (i < 0) with
  | true =>
    have E := Lib.hid (show r.put i c = (71, r) by
      have : r.has i = false := by simp [Rf.has]; simp at t0; omega
      simp [Rf.put, this])
    have H1 := Lib.hid h1
    have KP1 := Lib.hid kp1
    clear h h1 kp1 SP k1
    go_enter Try.func87, Try.ntmps87
    go_wp2_with fail
    go_ret
    rw [E.out]
    exact ⟨rfl, ⟨_, _, _, _, H1.out.ext⟩, KP1.out⟩
  | false =>
    obtain ⟨k, rfl⟩ := Int.eq_ofNat_of_zero_le (show 0 ≤ i by simp at t0; omega)
    by_cases hlt : k < r.seen.length
    · have hhas : r.has (k : Int) = true := by simp [Rf.has]; omega
      obtain ⟨bl, cap, rfl, hcap, _⟩ := own_some h.ol (by omega)
      obtain ⟨e1, e2, e3, e4⟩ := r.power_same
      cases hp : r.power.1 with
      | false =>
        rw [hp] at SP
        have E := Lib.hid (show r.put (k : Int) c = (72, r.power.2) by simp [Rf.put, hhas, hp])
        have KP1 := Lib.hid kp1
        clear h h1 kp1 k1 hhas hp
        generalize r.seen.length = n at *
        go_enter Try.func87, Try.ntmps87
        go_wp2_with fail
        refine SP.out.mono ?_
        rintro e w2 ⟨rfl, h2, u2⟩
        have X2 := Lib.hid h2
        have U2 := Lib.hid u2
        clear h2 u2
        go_wp2_with fail
        go_ret
        rw [E.out]
        exact ⟨rfl, ⟨_, _, _, _, X2.out.ext⟩, KP1.out.upd U2.out (fun _ => HR.out)⟩
      | true =>
        rw [hp] at SP
        have E := Lib.hid (show r.put (k : Int) c = (0, { r.power.2 with seen := r.seen.set k c, ats := r.ats ++ [k], what := r.what ++ [c] }) by simp [Rf.put, hhas, hp])
        have E1 := Lib.hid e1
        have E2 := Lib.hid e2
        have E3 := Lib.hid e3
        have E4 := Lib.hid e4
        have hbl := h.bl bl rfl
        have nbl : bl ≠ w.heap.size := by have := h.dom bl hbl.1; omega
        have HS := Lib.hid h.good.size
        generalize r.power.2 = q at *
        clear h h1 hhas hp e1 e2 e3 e4
        have hq : r.seen.length = q.seen.length := by rw [E2.out]
        go_enter Try.func87, Try.ntmps87
        go_wp2_with fail
        refine SP.out.mono ?_
        rintro e w2 ⟨rfl, h2, u2⟩
        have gd2 := h2.good
        have kc2 := k1.same (u2.block w.heap.size (Ne.symm ng))
        have LD := ld_block (w := w2.drew) hc.len kc2
        have hltq : k < q.seen.length := by rw [E2.out]; exact hlt
        obtain ⟨w3, s3, r3, u3⟩ := own_st (w := w2.drew) h2.drew.ol (b := bl) rfl (o := k * 64) hc.len (by rw [rowL_len gd2.cl]; omega)
        rw [rowL_set gd2.cl hc hltq] at r3
        have gd3 : Rf.Good { q with seen := q.seen.set k c } := ⟨by simp [gd2.size], gd2.most, gd2.cs, gd2.cl.set hc, gd2.cw, gd2.ai, gd2.fewA, gd2.fewW, gd2.cnt⟩
        have h3 := h2.drew.setSeen (b := bl) rfl u3 (l' := q.seen.set k c) (by rw [List.length_set]; exact r3) gd3
        have kp3 := (kp1.upd u2 (fun _ => HR.out)).drew.upd u3 (fun _ => hbl.1)
        have kc3 := kc2.same (u3.block w.heap.size (Ne.symm nbl))
        -- the number
        have h4 := h3.alloc (.cells #[.int .i64 (k : Int)] 3)
        have kc4 := kc3.same (w' := w3.alloc (.cells #[.int .i64 (k : Int)] 3)) (Below.heap_alloc w3 _ _ kc3.lt)
        obtain ⟨av', w5, a5, o5, g5, b5⟩ := ap_own (w := w3.alloc (.cells #[.int .i64 (k : Int)] 3)) 79 79 3 1 8 _ (by omega) info3 Try.underlying79 rfl av q.ats.length (rowI q.ats) h4.oa w3.heap.size 1 1 3 [.int .i64 (k : Int)] (by
          have := RowAt.of (heap_alloc_new w3 (.cells #[.int .i64 (k : Int)] 3))
          simpa using this) rfl (fun u hu => by simp at hu; subst hu; rfl) (by rw [E3.out]; omega) (by omega)
        obtain ⟨a6, c6', rfl, _⟩ := own_slice o5
        have gd5 : Rf.Good { q with seen := q.seen.set k c, ats := q.ats ++ [k] } := ⟨gd3.size, gd3.most, gd3.cs, gd3.cl, gd3.cw, fun i hi => by
          rcases List.mem_append.1 hi with h | h
          · exact gd3.ai i h
          · simp at h
            rw [h]
            show k < q.sure.length
            rw [← gd2.size]
            exact hltq, by simp; rw [E3.out]; omega, gd3.fewW, gd3.cnt⟩
        have hs5 : ∀ j (w : World) v, (w.setCell ⟨g, j, none⟩ v).heap.size = w.heap.size := fun j w v => by simp [World.setCell]
        have h5 := h4.putA g5.size (fun j hj hn => g5.block j (h4.dom j hj) (fun e => hn e.symm)) (l' := q.ats ++ [k]) (by rw [List.length_append, rowI_one]; exact o5) b5 gd5 (S := ext R w (w5.setCell ⟨g, 2, none⟩ (.slice a6 (q.ats.length + 1) c6'))) (fun j hj => by
            have := ext_self HDOM.out (by rw [hs5]; exact Nat.le_trans (kp3.alloc (.cells #[.int .i64 (k : Int)] 3)).size g5.size) hj
            rwa [hs5] at this) (fun j hj => .inl hj) (fun j a b => .inr ⟨Nat.le_trans (kp3.alloc (.cells #[.int .i64 (k : Int)] 3)).size a, by rw [hs5]; exact b⟩)
        have kp5 := ((kp3.alloc (.cells #[.int .i64 (k : Int)] 3)).grown g5 (fun j hj _ => (h4.ba j hj).1)).setCell (p := ⟨g, 2, none⟩) (fun _ => HR.out) (.slice a6 (q.ats.length + 1) c6')
        have hne5 : ∀ j, av.ownBlock = some j → w.heap.size ≠ j := fun j hj => by have := HDOM.out j (h3.ba j hj).1; omega
        have kc5 := (kc4.same (w' := w5) (g5.block w.heap.size kc4.lt (fun e => hne5 _ e.symm rfl))).same (w' := w5.setCell ⟨g, 2, none⟩ (.slice a6 (q.ats.length + 1) c6')) (heap_setCell_other w5 ⟨g, 2, none⟩ _ _ (Ne.symm ng))
        obtain ⟨w6, hw6⟩ : ∃ w6, w5.setCell ⟨g, 2, none⟩ (.slice a6 (q.ats.length + 1) c6') = w6 := ⟨_, rfl⟩
        rw [hw6] at h5 kp5 kc5
        -- the cell
        have h7 := (h5.alloc (.cells (arr c) 90)).drew
        have LD6 := ld_block (w := w6.drew) hc.len kc5
        have LD7 := ld_block (w := (w6.alloc (.cells (arr c) 90)).drew) hc.len (kc5.same (Below.heap_alloc w6 _ _ kc5.lt))
        obtain ⟨wv', w8, a8, o8, g8, b8⟩ := ap_own (w := (w6.alloc (.cells (arr c) 90)).drew) 67 67 90 64 64 _ (by omega) info26 Try.underlying67 rfl wv q.what.length (rowL q.what) h7.ow w6.heap.size 1 1 90 (c.map bv) ((cell_block w6 c).same rfl) (by rw [List.length_map, hc.len]) (fun u hu => by obtain ⟨x, _, rfl⟩ := List.mem_map.1 hu; rfl) (by rw [E4.out]; omega) (by omega)
        obtain ⟨a9, c9, rfl, _⟩ := own_slice o8
        have gd8 : Rf.Good { q with seen := q.seen.set k c, ats := q.ats ++ [k], what := q.what ++ [c] } := ⟨gd5.size, gd5.most, gd5.cs, gd5.cl, fun d hd => by
          rcases List.mem_append.1 hd with h | h
          · exact gd5.cw d h
          · simp at h
            rw [h]
            exact hc, gd5.ai, gd5.fewA, by simp; rw [E4.out]; omega, gd5.cnt⟩
        have HF := Lib.hid (h7.putW g8.size (fun j hj hn => g8.block j (h7.dom j hj) (fun e => hn e.symm)) (l' := q.what ++ [c]) (by rw [List.length_append, rowL_one]; exact o8) b8 gd8 (S := ext R w (w8.setCell ⟨g, 3, none⟩ (.slice a9 (q.what.length + 1) c9))) (fun j hj => by
            have := ext_self HDOM.out (by rw [hs5]; exact Nat.le_trans (kp5.alloc (.cells (arr c) 90)).drew.size g8.size) hj
            rwa [hs5] at this) (fun j hj => hj.elim .inl (fun e => .inr ⟨e.1, by rw [hs5]; exact Nat.lt_of_lt_of_le (show j < (w6.alloc (.cells (arr c) 90)).drew.heap.size by have := e.2; show j < (w6.alloc _).heap.size; simp; omega) g8.size⟩)) (fun j a b => .inr ⟨Nat.le_trans (kp5.alloc (.cells (arr c) 90)).drew.size a, by rw [hs5]; exact b⟩))
        have KF := Lib.hid (((kp5.alloc (.cells (arr c) 90)).drew.grown g8 (fun j hj hlt => by
            have := (h7.bw j hj).1
            rcases this with h | h
            · exact h
            · omega)).setCell (p := ⟨g, 3, none⟩) (fun _ => HR.out) (.slice a9 (q.what.length + 1) c9))
        have BS := fun W => bs_cell W (c := c) hc.len
        obtain ⟨d0, d1, d2, d3, d4, d5, d6, df⟩ := head7 h3.head
        obtain ⟨f0, f1, f2, f3, f4, f5, f6, ff⟩ := head7 h4.head
        have hw5 : w5.heap[g]? = (w3.alloc (.cells #[.int .i64 (k : Int)] 3)).heap[g]? := g5.block g (h4.dom g h4.rg) (fun e => (h4.ba g e.symm).2 rfl)
        obtain ⟨i0, i1, i2, i3, i4, i5, i6, iff_⟩ := head7 (hw5.trans h4.head)
        obtain ⟨j0, j1, j2, j3, j4, j5, j6, jf⟩ := head7 h5.head
        obtain ⟨l0, l1, l2, l3, l4, l5, l6, lf⟩ := head7 h7.head
        have hw8 : w8.heap[g]? = (w6.alloc (.cells (arr c) 90)).drew.heap[g]? := g8.block g (h7.dom g h7.rg) (fun e => (h7.bw g e.symm).2 rfl)
        obtain ⟨m0, m1, m2, m3, m4, m5, m6, mf⟩ := head7 (hw8.trans h7.head)
        have cc2 := head7 h2.head
        obtain ⟨n0, n1, n2, n3, n4, n5, n6, nf⟩ := cc2
        clear h2 h3 h4 h5 h7 kp1 kp3 kp5 o5 g5 b5 o8 g8 b8 gd2 gd3 gd5 gd8 kc2 kc3 kc4 kc5 u2 u3 r3 hw5 hw8 k1 hs5 hne5
        generalize hgn : r.seen.length = n at *
        clear hgn
        go_wp2_with fail
        go_region
        go_wp2_with fail
        go_region
        go_wp2_with fail
        go_ret
        rw [E.out]
        refine ⟨rfl, ⟨sv, .slice (some ⟨bl, 0, none⟩) n cap, .slice a6 (q.ats.length + 1) c6', .slice a9 (q.what.length + 1) c9, ?_⟩, KF.out⟩
        show RfM _ _ g sv _ _ _ { q with seen := r.seen.set k c, ats := r.ats ++ [k], what := r.what ++ [c] }
        rw [← E2.out, ← E3.out, ← E4.out]
        exact HF.out
    · have E := Lib.hid (show r.put (k : Int) c = (71, r) by
        have : r.has (k : Int) = false := by simp [Rf.has]; omega
        simp [Rf.put, this])
      obtain ⟨a, cap, rfl, hcap⟩ := own_slice h.ol
      have H1 := Lib.hid h1
      have KP1 := Lib.hid kp1
      clear h h1 kp1 SP k1
      generalize r.seen.length = n at *
      go_enter Try.func87, Try.ntmps87
      go_wp2_with fail
      go_ret
      rw [E.out]
      exact ⟨rfl, ⟨_, _, _, _, H1.out.ext⟩, KP1.out⟩

end

end Go.Proofs.Ytipikkniookanaa
