/- What the document's Tell answers. -/
import Derived.Test.YtbhknaggbenfnaaHvRe
import Derived.Deep.RegionHeldLaw
import Derived.Deep.DeepCutAuto
namespace Go.Proofs.Ytbhknaggbenfnaa
set_option maxRecDepth 100000
open Go.RowKit

/-- The plan that is put together, in a variable of its own: k its block; its rows came since n; nothing is shared. -/
structure OutP (w : World) (n k : Nat) (rest : Value) (vg vb : Value) (g b : List ByteArray) (t : Int) (wx : World) : Prop where
  row : Row wx k 36 #[rest, vg, vb, .int .i64 t]
  good : Oz wx n vg g
  bad : Oz wx n vb b
  kn : n ≤ k
  gk : vg.ownBlock ≠ some k
  bk : vb.ownBlock ≠ some k
  gb : ∀ j, vg.ownBlock = some j → vb.ownBlock ≠ some j
  low : Below w.heap.size w wx

/-- What the document's Tell answers. -/
def RTellPost (D : Nat → Prop) (p : Hv ByteArray) (b : Bool) (w : World) (e : Ending) (w' : World) : Prop :=
  ∃ v', e = .returned (.tuple #[v', .int .i64 (tellN p)]) ∧ RefP w' (fun k => D k ∨ (w.heap.size ≤ k ∧ k < w'.heap.size)) v' (tellH p b) ∧ Below w.heap.size w w'

theorem cellsR4 {w : World} {g : Nat} {T : TypeId} {p q r s : Value} (h : Row w g T #[p, q, r, s]) :
    (w.cell? ⟨g, 0, none⟩ = some p ∧ w.cell? ⟨g, 1, none⟩ = some q ∧ w.cell? ⟨g, 2, none⟩ = some r ∧ w.cell? ⟨g, 3, none⟩ = some s) ∧ ∀ o, w.frozen? ⟨g, o, none⟩ = false :=
  ⟨⟨h.cell 0, h.cell 1, h.cell 2, h.cell 3⟩, h.free⟩

/-- There is a variable for a plan. -/
def Sl (W : World) (k : Nat) : Prop := Row W k 36 zR
theorem Sl.new (W : World) : Sl (W.alloc (.cells zR 36)) W.heap.size := heap_alloc_new _ _
theorem Sl.new1 (W : World) (o : Obj) : Sl ((W.alloc o).alloc (.cells zR 36)) (W.heap.size + 1) := heap_alloc2_new _ _ _
theorem Sl.new2 (W : World) (o o' : Obj) : Sl (((W.alloc o).alloc o').alloc (.cells zR 36)) (W.heap.size + 1 + 1) := by
  have := Sl.new1 (W.alloc o) o'
  simpa using this
theorem Sl.below {W W' : World} {k : Nat} (h : Sl W k) (b : Below W.heap.size W W') : Sl W' k := Row.below h b
theorem Sl.drew {W : World} {k : Nat} (h : Sl W k) : Sl W.drew k := h
theorem Sl.al {W : World} {k : Nat} (h : Sl W k) (o : Obj) : Sl (W.alloc o) k := h.below ((Below.refl _ _).alloc (Nat.le_refl _) o)
theorem Sl.cells {W : World} {k : Nat} (h : Sl W k) : (W.cell? ⟨k, 0, none⟩ = some (.slice none 0 0) ∧ W.cell? ⟨k, 1, none⟩ = some (.slice none 0 0) ∧ W.cell? ⟨k, 2, none⟩ = some (.slice none 0 0) ∧ W.cell? ⟨k, 3, none⟩ = some (.int .i64 0)) ∧ ∀ o, W.frozen? ⟨k, o, none⟩ = false := cellsR4 h

theorem out_alloc {w4 w28 w32 : World} {n k25 k29 : Nat} {r v28 v32 : Value} {G Bd : List ByteArray} {t : Int} (o28 : Oz w28 k25 v28 G) (m32 : Below w28.heap.size w28 w32) (o32 : Oz w32 k29 v32 Bd) (m4 : Below w4.heap.size w4 w32)
    (h1 : n ≤ k25) (h2 : n ≤ k29) (h3 : n ≤ w32.heap.size) (hd : ∀ j, v28.ownBlock = some j → v32.ownBlock ≠ some j) :
    OutP w4 n w32.heap.size r v28 v32 G Bd t (w32.alloc (.cells #[r, v28, v32, .int .i64 t] 36)) := by
  have hb := (Below.refl w32.heap.size w32).alloc (Nat.le_refl _) (.cells #[r, v28, v32, .int .i64 t] 36)
  have q := m32.size
  exact ⟨heap_alloc_new _ _, ((o28.below m32).below hb).base h1, (o32.below hb).base h2, h3, fun e => by have := (o28.at _ e).2; omega, fun e => by have := (o32.at _ e).2; omega, hd, m4.trans (hb.mono m4.size)⟩
theorem out_set {w4 w28 w32 : World} {n k k25 k29 : Nat} {r v28 v32 : Value} {G Bd : List ByteArray} {t : Int} (o28 : Oz w28 k25 v28 G) (m32 : Below w28.heap.size w28 w32) (o32 : Oz w32 k29 v32 Bd) (m4 : Below w4.heap.size w4 w32) (sl : Sl w32 k)
    (h1 : n ≤ k25) (h2 : n ≤ k29) (h3 : n ≤ k) (h4 : w4.heap.size ≤ k) (hg : v28.ownBlock ≠ some k) (hb : v32.ownBlock ≠ some k) (hd : ∀ j, v28.ownBlock = some j → v32.ownBlock ≠ some j) :
    OutP w4 n k r v28 v32 G Bd t ((((w32.setCell ⟨k, 0, none⟩ r).setCell ⟨k, 1, none⟩ v28).setCell ⟨k, 2, none⟩ v32).setCell ⟨k, 3, none⟩ (.int .i64 t)) := by
  have hs : w32.heap.size ≤ ((((w32.setCell ⟨k, 0, none⟩ r).setCell ⟨k, 1, none⟩ v28).setCell ⟨k, 2, none⟩ v32).setCell ⟨k, 3, none⟩ (.int .i64 t)).heap.size := by simp [World.setCell]
  have hj : ∀ j, j ≠ k → ((((w32.setCell ⟨k, 0, none⟩ r).setCell ⟨k, 1, none⟩ v28).setCell ⟨k, 2, none⟩ v32).setCell ⟨k, 3, none⟩ (.int .i64 t)).heap[j]? = w32.heap[j]? := fun j hj => by
    rw [heap_setCell_other _ _ _ _ (by simpa using hj), heap_setCell_other _ _ _ _ (by simpa using hj), heap_setCell_other _ _ _ _ (by simpa using hj), heap_setCell_other _ _ _ _ (by simpa using hj)]
  refine ⟨?_, ((o28.below m32).same hs (fun j e => hj j (fun h => hg (h ▸ e)))).base h1, (o32.same hs (fun j e => hj j (fun h => hb (h ▸ e)))).base h2, h3, hg, hb, hd, ⟨m4.os, m4.tape, m4.output, Nat.le_trans m4.size hs, fun j h => (hj j (by omega)).trans (m4.block j h)⟩⟩
  unfold Row
  rw [heap_setCell_same _ k 3 _ _ _ (heap_setCell_same _ k 2 _ _ _ (heap_setCell_same _ k 1 _ _ _ (heap_setCell_same w32 k 0 _ _ _ sl)))]
  rfl

/-- Texts put behind what such a row holds. -/
theorem run_append_z (w : World) (base : Nat) (v : Value) (xs ys : List ByteArray) (hown : Oz w base v xs) (A : Option Addr) (cA : Nat) (hy : StrsP w A cA ys) (h0 : ys ≠ []) (hlen : xs.length + ys.length ≤ 1000000) (hb : base ≤ w.heap.size) (ty : TypeId) :
    ∃ a' c' w', (Builtin.append_ #[27, 27] ty #[v, .slice A ys.length cA]).run Try.prog w = .ok (.slice a' (xs ++ ys).length c') w' ∧ OwnT w' base (.slice a' (xs ++ ys).length c') (xs ++ ys) ∧ w.grownBy w' v.ownBlock ∧
      (∀ j, (Value.slice a' (xs ++ ys).length c').ownBlock = some j → v.ownBlock = some j ∨ w.heap.size ≤ j) := by
  rcases hown with h | ⟨rfl, k, h1, h2, rfl⟩
  · obtain ⟨a', c', w', hr, ho, hg, hv⟩ := run_append_at w v xs ys (h.base (Nat.zero_le _)) A cA hy h0 hlen ty
    have hj : ∀ j, (Value.slice a' (xs ++ ys).length c').ownBlock = some j → v.ownBlock = some j ∨ w.heap.size ≤ j := fun j e => hv.elim (fun q => .inl (q ▸ e)) (fun q => .inr (by rw [q] at e; cases e; exact Nat.le_refl _))
    refine ⟨a', c', w', hr, ?_, hg, hj⟩
    rcases ho.2 with ⟨e, q⟩ | ⟨g, cp, cur, e, q1, q2⟩
    · exact ⟨ho.1, .inl ⟨e, q⟩⟩
    · refine ⟨ho.1, .inr ⟨g, cp, cur, e, ?_, q2⟩⟩
      rcases hj g (by rw [e]; rfl) with q | q
      · exact h.ge g q
      · omega
  · obtain ⟨v', w', hr, ho, hg⟩ := run_append_full w [] ys (some ⟨k, 0, none⟩) 0 rfl (StrsP.nil _ _ _) (fun e => by cases e) A cA hy h0 (by simpa using hlen) ty
    obtain ⟨a', c', rfl⟩ := ho.shape
    exact ⟨a', c', w', hr, ho.base (by omega), ⟨hg.os, hg.tape, hg.output, hg.size, fun j hj _ => hg.block j hj (by simp)⟩, fun j e => .inr (ho.ge j e)⟩

theorem step_append_eq {P : Program} {w : World} {ops : Array Oper} {o : Oper} {a : Act} {K : Act → World → Prop} {Q : Exit → Act → World → Prop} {E : Prop} (hgd : o.guard = none) (s x : Operand) (t tn : TypeId)
    (ho : o.op = .call { callee := .builtin .append, args := #[s, x], argTypes := #[t, tn] }) (vs vx : Value) (hs : a.eval s = vs) (hx : a.eval x = vx)
    (v' : Value) (w' : World) (hr : (Builtin.append_ #[t, tn] o.type #[vs, vx]).run P w = .ok v' w') (h : K (a.put o.dst v') w') :
    if Region.wanted o (yielded ops a.tmps) = true then Oper.wp P o a w K Q else E := by
  have hw : Region.wanted o (yielded ops a.tmps) = true := by simp [Region.wanted, hgd]
  rw [if_pos hw]
  exact Lib.wp_append_run w s x t tn ho vs vx hs hx v' w' hr h

/-- What the call answers, put together. -/
theorem mk_ref {w w4 w7 : World} {D : Nat → Prop} (hD : ∀ k, D k → k < w.heap.size) (b4 : Below w.heap.size w w4) (_hn : w.heap.size + 2 ≤ w4.heap.size) (b7 : Below w4.heap.size w4 w7) {p' : Hv ByteArray}
    {ar : Option Addr} {cr : Nat} {us : List PartT} {ag : Option Addr} {cg : Nat} {ab : Option Addr} {cb : Nat} (hl : ListsT w7 ar cr us) (hu : us.map PartT.l = p'.rest) (hg : StrsP w7 ag cg p'.good) (hb : StrsP w7 ab cb p'.bad)
    (dr : ∀ x, ar = some x → w.heap.size + 2 ≤ x.block ∧ x.block < w7.heap.size) (du : ∀ u ∈ us, u.l ≠ [] → ∀ x, u.a = some x → D x.block ∨ (w.heap.size + 2 ≤ x.block ∧ x.block < w7.heap.size))
    (dg : ∀ x, ag = some x → w.heap.size + 2 ≤ x.block ∧ x.block < w7.heap.size) (db : ∀ x, ab = some x → w.heap.size + 2 ≤ x.block ∧ x.block < w7.heap.size) (cs : Array Value) (hcs : cs = #[.slice ar us.length cr, .slice ag p'.good.length cg, .slice ab p'.bad.length cb, .int .i64 (p'.tries : Int)]) :
    RefP (w7.setRow (w.heap.size + 1) cs) (fun k => D k ∨ (w.heap.size ≤ k ∧ k < (w7.setRow (w.heap.size + 1) cs).heap.size)) (.agg cs) p' ∧ Below w.heap.size w (w7.setRow (w.heap.size + 1) cs) := by
  have bw7 : Below w.heap.size w w7 := b4.trans (b7.mono b4.size)
  have hs : (w7.setRow (w.heap.size + 1) cs).heap.size = w7.heap.size := by simp
  have hk : ∀ j, j ≠ w.heap.size + 1 → (w7.setRow (w.heap.size + 1) cs).heap[j]? = w7.heap[j]? := fun j h => setRow_other _ _ _ _ h
  refine ⟨⟨ar, cr, us, ag, cg, ab, cb, by rw [hcs], fun k h => ?_, hl.same (by rw [hs]; exact Nat.le_refl _) (fun _ x hx => hk _ (by have := dr x hx; omega)) (fun u hm h0 x hx => hk _ ?_), hu,
    hg.same (by rw [hs]; exact Nat.le_refl _) (fun _ x hx => hk _ (by have := dg x hx; omega)), hb.same (by rw [hs]; exact Nat.le_refl _) (fun _ x hx => hk _ (by have := db x hx; omega)), fun _ x hx => ?_, fun u hm h0 x hx => ?_, fun _ x hx => ?_, fun _ x hx => ?_⟩, Below.row bw7 (by omega) _⟩
  · rcases h with h | h
    · have := hD k h; have := bw7.size; omega
    · exact h.2
  · rcases du u hm h0 x hx with h | h
    · have := hD _ h; omega
    · omega
  · have := dr x hx; exact .inr ⟨by omega, by omega⟩
  · rcases du u hm h0 x hx with h | h
    · exact .inl h
    · exact .inr ⟨by omega, by omega⟩
  · have := dg x hx; exact .inr ⟨by omega, by omega⟩
  · have := db x hx; exact .inr ⟨by omega, by omega⟩

attribute [local go_sem ↓] ldRp stRp alRp bxRp
attribute [local go_sem] al_rp bx_rp alloc_setRow

section
variable {w : World} {D : Nat → Prop} {v : Value} {p : Hv ByteArray} {ra : Option Addr} {rc : Nat} {us : List PartT} {ga : Option Addr} {gc : Nat} {ba : Option Addr} {bc : Nat}

set_option maxHeartbeats 8000000 in
theorem refTell_none (h : RfP w D v p ra rc [] ga gc ba bc) (b : Bool) : Calls Try.prog 18 #[v, .bool b] w (RTellPost D p b w) := by
  obtain rfl := h.val
  have hr : p.rest = [] := by rw [← h.rest]; rfl
  have D0 : Row ((w.alloc (.cells #[.slice ra 0 rc, .slice ga p.good.length gc, .slice ba p.bad.length bc, .int .i64 (p.tries : Int)] 36)).alloc (.cells zR 36)) w.heap.size 36 #[.slice ra 0 rc, .slice ga p.good.length gc, .slice ba p.bad.length bc, .int .i64 (p.tries : Int)] :=
    Row.below (w := w.alloc (.cells #[.slice ra 0 rc, .slice ga p.good.length gc, .slice ba p.bad.length bc, .int .i64 (p.tries : Int)] 36)) (heap_alloc_new w _) ((Below.refl _ _).alloc (Nat.le_refl _) _)
  have R0 : Row ((w.alloc (.cells #[.slice ra 0 rc, .slice ga p.good.length gc, .slice ba p.bad.length bc, .int .i64 (p.tries : Int)] 36)).alloc (.cells zR 36)) (w.heap.size + 1) 36 zR := heap_alloc2_new w _ _
  have B0 := Lib.hid ((((Below.refl w.heap.size w).alloc (Nat.le_refl _) (.cells #[.slice ra 0 rc, .slice ga p.good.length gc, .slice ba p.bad.length bc, .int .i64 (p.tries : Int)] 36)).alloc (by simp) (.cells zR 36)))
  obtain ⟨⟨c0, c1, c2, c3⟩, cf⟩ := cellsR4 D0
  have ld := ld_rp D0
  have st := st_rp R0 rfl ra 0 rc ga p.good.length gc ba p.bad.length bc (p.tries : Int)
  have R0' := Lib.hid R0
  have H := Lib.hid h
  have HR := Lib.hid hr
  clear h hr D0 R0
  simp only [List.length_nil]
  go_enter Try.func18, Try.ntmps18
  go_wp2_with fail
  (try simp only [Exit.inBlock, Exit.then])
  apply bodyPost_ret
  case hd => rfl
  case hr => exact results_cell_one rfl _ _ (w.heap.size + 1) _ rfl (loadR (setRow_heap _ _ _ _ _ _ R0'.out))
  case hR =>
    have BF := Below.row B0.out (g := w.heap.size + 1) (by omega) #[.slice ra 0 rc, .slice ga p.good.length gc, .slice ba p.bad.length bc, .int .i64 (p.tries : Int)]
    refine ⟨_, by unfold tellN; rw [HR.out]; rfl, ?_, BF⟩
    rw [(tell_none HR.out b).1]
    have q : RefP w D (.agg #[.slice ra 0 rc, .slice ga p.good.length gc, .slice ba p.bad.length bc, .int .i64 (p.tries : Int)]) p := ⟨ra, rc, [], ga, gc, ba, bc, H.out⟩
    exact (q.same BF.size (fun k hk => BF.block k (H.out.dom k hk))).mono (fun k hk => hk.elim (fun e => Nat.lt_of_lt_of_le (H.out.dom k e) BF.size) (fun e => e.2)) (fun k e => .inl e)

set_option maxHeartbeats 8000000 in
theorem refTell_some {u : PartT} {ur : List PartT} (h : RfP w D v p ra rc (u :: ur) ga gc ba bc) {n : Nat} (ok : OkH n p) (hn : n ≤ 1000) (b : Bool) : Calls Try.prog 18 #[v, .bool b] w (RTellPost D p b w) := by
  obtain rfl := h.val
  have hr : p.rest = u.l :: ur.map PartT.l := by rw [← h.rest]; rfl
  have hur : ur.length ≤ 1000 := by
    have := ok.lists
    rw [hr] at this
    simp at this
    omega
  have hsz := ok.size
  have hul : u.l.length ≤ 1000 := by
    have := mem_flat (l := u.l) (r := p.rest) (by rw [hr]; simp)
    omega
  have hgl : p.good.length ≤ 1000 := by omega
  have hbl : p.bad.length ≤ 1000 := by omega
  have htr : p.tries ≤ 3000 := by have := ok.time; omega
  have hu0 : u.l ≠ [] := ok.full u.l (by rw [hr]; simp)
  obtain ⟨rb, ro, rfl, hrb, hrc⟩ := h.lists.cell (by simp)
  have x0 := hrc 0 u rfl
  rw [Nat.add_zero] at x0
  obtain ⟨a1, c1, e1, p1⟩ := slice_oneL (a := some ⟨rb, ro, none⟩) h.lists.cap (by simp)
  change ∀ W, (Instr.slice 34 (.slice (some ⟨rb, ro, none⟩) (ur.length + 1) rc) (some (.int .i64 1)) none none).run Try.prog W = .ok (.slice a1 ur.length c1) W at e1
  change ∀ W, ListsT W (some ⟨rb, ro, none⟩) rc (u :: ur) → ListsT W a1 c1 ur at p1
  have hcap : ur.length + 1 ≤ rc := h.lists.cap
  have D0 : Row ((w.alloc (.cells #[.slice (some ⟨rb, ro, none⟩) (ur.length + 1) rc, .slice ga p.good.length gc, .slice ba p.bad.length bc, .int .i64 (p.tries : Int)] 36)).alloc (.cells zR 36)) w.heap.size 36 #[.slice (some ⟨rb, ro, none⟩) (ur.length + 1) rc, .slice ga p.good.length gc, .slice ba p.bad.length bc, .int .i64 (p.tries : Int)] :=
    Row.below (w := w.alloc (.cells #[.slice (some ⟨rb, ro, none⟩) (ur.length + 1) rc, .slice ga p.good.length gc, .slice ba p.bad.length bc, .int .i64 (p.tries : Int)] 36)) (heap_alloc_new w _) ((Below.refl _ _).alloc (Nat.le_refl _) _)
  have R0 : Row ((w.alloc (.cells #[.slice (some ⟨rb, ro, none⟩) (ur.length + 1) rc, .slice ga p.good.length gc, .slice ba p.bad.length bc, .int .i64 (p.tries : Int)] 36)).alloc (.cells zR 36)) (w.heap.size + 1) 36 zR := heap_alloc2_new w _ _
  have B0 := (((Below.refl w.heap.size w).alloc (Nat.le_refl _) (.cells #[.slice (some ⟨rb, ro, none⟩) (ur.length + 1) rc, .slice ga p.good.length gc, .slice ba p.bad.length bc, .int .i64 (p.tries : Int)] 36)).alloc (by simp) (.cells zR 36))
  have hz0 : ((w.alloc (.cells #[.slice (some ⟨rb, ro, none⟩) (ur.length + 1) rc, .slice ga p.good.length gc, .slice ba p.bad.length bc, .int .i64 (p.tries : Int)] 36)).alloc (.cells zR 36)).heap.size = w.heap.size + 1 + 1 := by simp
  generalize hw0 : (w.alloc (.cells #[.slice (some ⟨rb, ro, none⟩) (ur.length + 1) rc, .slice ga p.good.length gc, .slice ba p.bad.length bc, .int .i64 (p.tries : Int)] 36)).alloc (.cells zR 36) = w0 at *
  have d0 : w0.cell? ⟨rb, ro, none⟩ = some u.val := (B0.cell (p := ⟨rb, ro, none⟩) hrb).trans x0
  unfold PartT.val at d0
  have HW := Lib.hid hw0
  obtain ⟨⟨c0, c1', c2, c3⟩, cf⟩ := cellsR4 D0
  have LP := h.lists.below B0
  have E4 := Below.refl w0.heap.size w0 |>.alloc (Nat.le_refl _) (.cells #[] 27)
  obtain ⟨v4, w4, r4, o4, g4⟩ := run_append_parts (w0.alloc (.cells #[] 27)) w0.heap.size _ [] ur (OwnV.fresh w0 w0.heap.size (Nat.le_refl _)) a1 c1 ((p1 w0 LP).below E4) (by simp; omega) E4.size 34
  rw [List.nil_append] at o4
  obtain ⟨a4, c4, rfl⟩ := o4.shape
  have b4 : Below w0.heap.size w0 w4 := E4.grown g4 E4.size (fun k hk => by cases hk; exact Nat.le_refl _)
  obtain ⟨_, l4, n4⟩ := o4.reads (fun q hq => ((h.lists.each q (by simp [hq])).below B0).below b4)
  have R4 := Lib.hid r4
  have HZ0 := Lib.hid hz0
  have C0B := Lib.hid ((Row.below D0 ((Below.refl w0.heap.size w0).alloc (Nat.le_refl _) (.cells #[] 27))).cell 0)
  have DB := Lib.hid (D0.below b4)
  have RB := Lib.hid (R0.below b4)
  have BB := Lib.hid (B0.trans (b4.mono B0.size))
  have L4 := Lib.hid l4
  have N4 := Lib.hid n4
  have SU := Lib.hid ((h.lists.each u (by simp)).below (B0.trans (b4.mono B0.size)))
  have SG := Lib.hid (h.good.below (B0.trans (b4.mono B0.size)))
  have SBd := Lib.hid (h.bad.below (B0.trans (b4.mono B0.size)))
  have H := Lib.hid h
  have HR := Lib.hid hr
  have Z4 := Lib.hid b4.size
  simp only [List.length_cons]
  clear h hr hw0 x0 p1 D0 R0 B0 LP E4 o4 g4 b4 l4 n4 r4 ok hsz hrc hz0
  go_enter Try.func18, Try.ntmps18
  have HW0 := HW.out
  go_upto_region 4 with (fail)
  have c0b : (w0.alloc (.cells #[] 27)).cell? ⟨w.heap.size, 0, none⟩ = some (.slice (some ⟨rb, ro, none⟩) (ur.length + 1) rc) := C0B.out
  go_upto_region 5 with (at_builtin; go_must (refine Lib.wpList_append_run _ rfl _ _ 34 34 rfl _ _ rfl rfl _ _ R4.out ?_))
  clear c0 c1' c2 c3 cf c0b HW0 HW e1 d0
  generalize hpg : p.good = G at *
  generalize hpb : p.bad = Bd at *
  generalize hpt : p.tries = t at *
  go_cut [8] (fun k8 wx => ∃ k vg vb, k8 = .pointer (some ⟨k, 0, none⟩) ∧ Hid (OutP w4 w4.heap.size k (.slice a4 ur.length c4) vg vb G Bd ((t : Int) + 1) wx))
  case first =>
    have hns : w.heap.size + 2 ≤ w4.heap.size := by
      have q1 := Z4.out
      rw [HZ0.out] at q1
      exact q1
    have S0 : Hid (∀ W, W = w4.drew → W.cell? ⟨w.heap.size, 1, none⟩ = some (.slice ga G.length gc) ∧ W.cell? ⟨w.heap.size, 2, none⟩ = some (.slice ba Bd.length bc) ∧ W.cell? ⟨w.heap.size, 3, none⟩ = some (.int .i64 (t : Int)) ∧ StrsP W ga gc G ∧ StrsP W ba bc Bd ∧ Below w4.heap.size w4 W) := Lib.hid (by
      rintro W rfl
      exact ⟨DB.out.cell 1, DB.out.cell 2, DB.out.cell 3, SG.out.below (Below.refl _ _).drew, SBd.out.below (Below.refl _ _).drew, (Below.refl _ _).drew⟩)
    have hS0 := S0.out _ rfl
    have SK : Hid (∀ W W', (W.cell? ⟨w.heap.size, 1, none⟩ = some (.slice ga G.length gc) ∧ W.cell? ⟨w.heap.size, 2, none⟩ = some (.slice ba Bd.length bc) ∧ W.cell? ⟨w.heap.size, 3, none⟩ = some (.int .i64 (t : Int)) ∧ StrsP W ga gc G ∧ StrsP W ba bc Bd ∧ Below w4.heap.size w4 W) → Below W.heap.size W W' → (W'.cell? ⟨w.heap.size, 1, none⟩ = some (.slice ga G.length gc) ∧ W'.cell? ⟨w.heap.size, 2, none⟩ = some (.slice ba Bd.length bc) ∧ W'.cell? ⟨w.heap.size, 3, none⟩ = some (.int .i64 (t : Int)) ∧ StrsP W' ga gc G ∧ StrsP W' ba bc Bd ∧ Below w4.heap.size w4 W')) := Lib.hid (by
      rintro W W' ⟨h1, h2, h3, h4, h5, h6⟩ hb
      have hl : w.heap.size < W.heap.size := by have := h6.size; omega
      exact ⟨(hb.cell (p := ⟨w.heap.size, 1, none⟩) hl).trans h1, (hb.cell (p := ⟨w.heap.size, 2, none⟩) hl).trans h2, (hb.cell (p := ⟨w.heap.size, 3, none⟩) hl).trans h3, h4.below hb, h5.below hb, h6.trans (hb.mono h6.size)⟩)
    have SA : Hid (∀ W o, (W.cell? ⟨w.heap.size, 1, none⟩ = some (.slice ga G.length gc) ∧ W.cell? ⟨w.heap.size, 2, none⟩ = some (.slice ba Bd.length bc) ∧ W.cell? ⟨w.heap.size, 3, none⟩ = some (.int .i64 (t : Int)) ∧ StrsP W ga gc G ∧ StrsP W ba bc Bd ∧ Below w4.heap.size w4 W) → ((W.alloc o).cell? ⟨w.heap.size, 1, none⟩ = some (.slice ga G.length gc) ∧ (W.alloc o).cell? ⟨w.heap.size, 2, none⟩ = some (.slice ba Bd.length bc) ∧ (W.alloc o).cell? ⟨w.heap.size, 3, none⟩ = some (.int .i64 (t : Int)) ∧ StrsP (W.alloc o) ga gc G ∧ StrsP (W.alloc o) ba bc Bd ∧ Below w4.heap.size w4 (W.alloc o))) := Lib.hid (fun W o h => SK.out W _ h ((Below.refl _ _).alloc (Nat.le_refl _) o))
    have SC : Hid (∀ W k a b c d, w4.heap.size ≤ k → (W.cell? ⟨w.heap.size, 1, none⟩ = some (.slice ga G.length gc) ∧ W.cell? ⟨w.heap.size, 2, none⟩ = some (.slice ba Bd.length bc) ∧ W.cell? ⟨w.heap.size, 3, none⟩ = some (.int .i64 (t : Int)) ∧ StrsP W ga gc G ∧ StrsP W ba bc Bd ∧ Below w4.heap.size w4 W) → (((((W.setCell ⟨k, 0, none⟩ a).setCell ⟨k, 1, none⟩ b).setCell ⟨k, 2, none⟩ c).setCell ⟨k, 3, none⟩ d).cell? ⟨w.heap.size, 1, none⟩ = some (.slice ga G.length gc) ∧ ((((W.setCell ⟨k, 0, none⟩ a).setCell ⟨k, 1, none⟩ b).setCell ⟨k, 2, none⟩ c).setCell ⟨k, 3, none⟩ d).cell? ⟨w.heap.size, 2, none⟩ = some (.slice ba Bd.length bc) ∧ ((((W.setCell ⟨k, 0, none⟩ a).setCell ⟨k, 1, none⟩ b).setCell ⟨k, 2, none⟩ c).setCell ⟨k, 3, none⟩ d).cell? ⟨w.heap.size, 3, none⟩ = some (.int .i64 (t : Int)) ∧ StrsP ((((W.setCell ⟨k, 0, none⟩ a).setCell ⟨k, 1, none⟩ b).setCell ⟨k, 2, none⟩ c).setCell ⟨k, 3, none⟩ d) ga gc G ∧ StrsP ((((W.setCell ⟨k, 0, none⟩ a).setCell ⟨k, 1, none⟩ b).setCell ⟨k, 2, none⟩ c).setCell ⟨k, 3, none⟩ d) ba bc Bd ∧ Below w4.heap.size w4 ((((W.setCell ⟨k, 0, none⟩ a).setCell ⟨k, 1, none⟩ b).setCell ⟨k, 2, none⟩ c).setCell ⟨k, 3, none⟩ d))) := Lib.hid (by
      rintro W k a b c d hk ⟨h1, h2, h3, h4, h5, h6⟩
      have hl : w.heap.size < w4.heap.size := by omega
      have hs : W.heap.size ≤ ((((W.setCell ⟨k, 0, none⟩ a).setCell ⟨k, 1, none⟩ b).setCell ⟨k, 2, none⟩ c).setCell ⟨k, 3, none⟩ d).heap.size := by simp [World.setCell]
      have hb : ∀ j, j ≠ k → ((((W.setCell ⟨k, 0, none⟩ a).setCell ⟨k, 1, none⟩ b).setCell ⟨k, 2, none⟩ c).setCell ⟨k, 3, none⟩ d).heap[j]? = W.heap[j]? := fun j hj => by
        rw [heap_setCell_other _ _ _ _ (by simpa using hj), heap_setCell_other _ _ _ _ (by simpa using hj), heap_setCell_other _ _ _ _ (by simpa using hj), heap_setCell_other _ _ _ _ (by simpa using hj)]
      have hc : ∀ o, ((((W.setCell ⟨k, 0, none⟩ a).setCell ⟨k, 1, none⟩ b).setCell ⟨k, 2, none⟩ c).setCell ⟨k, 3, none⟩ d).cell? ⟨w.heap.size, o, none⟩ = W.cell? ⟨w.heap.size, o, none⟩ := fun o => by
        simp only [World.cell?]
        rw [hb _ (by omega)]
      have hb4 : Below w4.heap.size w4 ((((W.setCell ⟨k, 0, none⟩ a).setCell ⟨k, 1, none⟩ b).setCell ⟨k, 2, none⟩ c).setCell ⟨k, 3, none⟩ d) := ⟨h6.os, h6.tape, h6.output, Nat.le_trans h6.size hs, fun j hj => (hb j (by omega)).trans (h6.block j hj)⟩
      exact ⟨(hc 1).trans h1, (hc 2).trans h2, (hc 3).trans h3, SG.out.below hb4, SBd.out.below hb4, hb4⟩)
    have SX1 := Lib.hid (fun (W : World) (h : W.cell? ⟨w.heap.size, 1, none⟩ = some (.slice ga G.length gc) ∧ W.cell? ⟨w.heap.size, 2, none⟩ = some (.slice ba Bd.length bc) ∧ W.cell? ⟨w.heap.size, 3, none⟩ = some (.int .i64 (t : Int)) ∧ StrsP W ga gc G ∧ StrsP W ba bc Bd ∧ Below w4.heap.size w4 W) => show StrsP W ga gc G from h.2.2.2.1)
    have SX2 := Lib.hid (fun (W : World) (h : W.cell? ⟨w.heap.size, 1, none⟩ = some (.slice ga G.length gc) ∧ W.cell? ⟨w.heap.size, 2, none⟩ = some (.slice ba Bd.length bc) ∧ W.cell? ⟨w.heap.size, 3, none⟩ = some (.int .i64 (t : Int)) ∧ StrsP W ga gc G ∧ StrsP W ba bc Bd ∧ Below w4.heap.size w4 W) => show StrsP W ba bc Bd from h.2.2.2.2.1)
    have SX3 := Lib.hid (fun (W : World) (h : W.cell? ⟨w.heap.size, 1, none⟩ = some (.slice ga G.length gc) ∧ W.cell? ⟨w.heap.size, 2, none⟩ = some (.slice ba Bd.length bc) ∧ W.cell? ⟨w.heap.size, 3, none⟩ = some (.int .i64 (t : Int)) ∧ StrsP W ga gc G ∧ StrsP W ba bc Bd ∧ Below w4.heap.size w4 W) => show Below w4.heap.size w4 W from h.2.2.2.2.2)
    have hwt : IntKind.i64.wrap ((t : Int) + 1) = (t : Int) + 1 := by rw [IntKind.wrap_i64]; omega
    go_region_held_law (fun W => W.cell? ⟨w.heap.size, 1, none⟩ = some (.slice ga G.length gc) ∧ W.cell? ⟨w.heap.size, 2, none⟩ = some (.slice ba Bd.length bc) ∧ W.cell? ⟨w.heap.size, 3, none⟩ = some (.int .i64 (t : Int)) ∧ StrsP W ga gc G ∧ StrsP W ba bc Bd ∧ Below w4.heap.size w4 W)
      (first | (with_reducible exact hS0) | (with_reducible exact kp) | (have q2 := b32.size; with_reducible refine SC.out _ _ _ _ _ _ ?_ (by assumption); have q1 := b28.size; first | omega | (simp; done) | (simp at q1 q2; omega) | (simp at q1 q2 ⊢; omega)) | exact SA.out _ _ (by assumption))
      (first
        | (have _o := b28; refine step_append_e rfl _ _ rfl _ rfl (by (first | (simp; done) | (simp; omega) | (have q1 := b28.size; simp at q1 ⊢; omega))) Bd ba bc rfl (SX2.out _ (by assumption)) (by omega) ?_; intro v32 w32 o32 b32 j32; have kp := SK.out _ _ (by assumption) b32; have m4 := kp.2.2.2.2.2; have m32 : Below w28.heap.size w28 w32 := (by first | exact b32 | exact ((Below.refl _ _).alloc (Nat.le_refl _) _).trans (b32.mono (by simp)) | exact (((Below.refl _ _).alloc (Nat.le_refl _) _).alloc (by simp) _).trans (b32.mono (by simp; omega))); obtain ⟨a32, c32, rfl⟩ := o32.shape; (first | have sl32 := Sl.below sl28 b32 | have sl32 := Sl.below (sl28.al _) b32 | have sl32 : Sl w32 w28.heap.size := Sl.below (by ((try refine Sl.drew ?_); first | exact Sl.new _ | exact (Sl.new _).al _ | exact ((Sl.new _).al _).al _ | exact Sl.new1 _ _ | exact (Sl.new1 _ _).al _ | exact Sl.new2 _ _ _)) b32 | have sl32 : Sl w32 (w28.heap.size + 1) := Sl.below (by ((try refine Sl.drew ?_); first | exact Sl.new _ | exact (Sl.new _).al _ | exact ((Sl.new _).al _).al _ | exact Sl.new1 _ _ | exact (Sl.new1 _ _).al _ | exact Sl.new2 _ _ _)) b32 | skip); (try obtain ⟨⟨y0, y1, y2, y3⟩, yf⟩ := sl32.cells); (try simp only [Act.put, List.getElem_toArray, List.getElem_cons_succ, List.getElem_cons_zero, List.setIfInBounds_toArray, List.set_cons_succ, List.set_cons_zero]))
        | (refine step_append_e rfl _ _ rfl _ rfl (by (first | (simp; done) | (simp; omega))) G ga gc rfl (SX1.out _ (by assumption)) (by omega) ?_; intro v28 w28 o28 b28 j28; have kp := SK.out _ _ (by assumption) b28; have z28 := kp.2.2.2.2.2.size; obtain ⟨a28, c28, rfl⟩ := o28.shape; (first | have sl28 : Sl w28 w4.heap.size := Sl.below (by ((try refine Sl.drew ?_); first | exact Sl.new _ | exact (Sl.new _).al _ | exact ((Sl.new _).al _).al _ | exact Sl.new1 _ _ | exact (Sl.new1 _ _).al _ | exact Sl.new2 _ _ _)) b28 | have sl28 : Sl w28 (w4.heap.size + 1) := Sl.below (by ((try refine Sl.drew ?_); first | exact Sl.new _ | exact (Sl.new _).al _ | exact ((Sl.new _).al _).al _ | exact Sl.new1 _ _ | exact (Sl.new1 _ _).al _ | exact Sl.new2 _ _ _)) b28 | have sl28 : Sl w28 (w4.heap.size + 1 + 1) := Sl.below (by ((try refine Sl.drew ?_); first | exact Sl.new _ | exact (Sl.new _).al _ | exact ((Sl.new _).al _).al _ | exact Sl.new1 _ _ | exact (Sl.new1 _ _).al _ | exact Sl.new2 _ _ _)) b28 | skip); (try simp only [Act.put, List.getElem_toArray, List.getElem_cons_succ, List.getElem_cons_zero, List.setIfInBounds_toArray, List.set_cons_succ, List.set_cons_zero])))
    all_goals
      have q1 := b28.size
      have q2 := b32.size
      (try simp at q1)
      (try simp at q2)
      have hd : ∀ j, (Value.slice a28 G.length c28).ownBlock = some j → (Value.slice a32 Bd.length c32).ownBlock ≠ some j := fun j e1 e2 => by
        have x1 := j28 j e1
        have x2 := o28.at j e1
        have x3 := j32 j e2
        have x4 := o32.at j e2
        (try simp at x1 x3) <;> omega
      go_wp2_with fail
      go_meet
      first
        | exact ⟨_, _, _, rfl, Lib.hid (out_alloc o28 m32 o32 m4 (by omega) (by omega) (by omega) hd)⟩
        | exact ⟨_, _, _, rfl, Lib.hid (out_set o28 m32 o32 m4 sl32 (by omega) (by omega) (by omega) (by omega) (fun e => by have x1 := j28 _ e; have x2 := o28.at _ e; (try simp at x1) <;> omega) (fun e => by have x3 := j32 _ e; have x4 := o32.at _ e; (try simp at x3) <;> omega) hd)⟩
  case rest =>
    rename World => w5
    obtain ⟨k, vg, vb, rfl, O⟩ := hcut
    obtain ⟨ag, cg, rfl⟩ := O.out.good.shape
    obtain ⟨ab, cb, rfl⟩ := O.out.bad.shape
    have hns : w.heap.size + 2 ≤ w4.heap.size := by
      have q1 := Z4.out
      rw [HZ0.out] at q1
      exact q1
    have NS := Lib.hid hns
    have DR := Lib.hid (show ∀ x, a4 = some x → w.heap.size + 2 ≤ x.block ∧ x.block < w4.heap.size from fun x hx => by
      have q1 := N4.out x hx
      rw [HZ0.out] at q1
      exact q1)
    have DU := Lib.hid (show ∀ q ∈ ur, q.l ≠ [] → ∀ x, q.a = some x → D x.block from fun q hq h0 x hx => H.out.du q (by simp [hq]) h0 x hx)
    have HD := Lib.hid H.out.dom
    have DUU := Lib.hid (show u.l ≠ [] → ∀ x, u.a = some x → D x.block from fun h0 x hx => H.out.du u (by simp) h0 x hx)
    clear hns Z4 N4 HZ0 C0B DB SG SBd H
    cases b with
    | true =>
      obtain ⟨a6, c6, w6, r6, o6, g6, j6⟩ := run_append_z _ w4.heap.size _ G u.l O.out.good u.a u.cap (SU.out.below O.out.low) hu0 (by omega) O.out.low.size 27
      have hk6 : Row w6 k 36 #[.slice a4 ur.length c4, .slice ag G.length cg, .slice ab Bd.length cb, .int .i64 ((t : Int) + 1)] := (g6.block k O.out.row.lt (fun e => O.out.gk e.symm)).trans O.out.row
      have b6 : Below w4.heap.size w4 w6 := O.out.low.grown g6 O.out.low.size (fun j hj => (O.out.good.at j hj).1)
      have b7 := b6.setCell (p := ⟨k, 1, none⟩) O.out.kn (.slice a6 (G ++ u.l).length c6)
      have o7 : OwnT (w6.setCell ⟨k, 1, none⟩ (.slice a6 (G ++ u.l).length c6)) w4.heap.size (.slice a6 (G ++ u.l).length c6) (G ++ u.l) := ownsRow_same o6 (fun j e => heap_setCell_other _ _ _ _ (by
        show j ≠ k
        intro h
        subst h
        rcases j6 _ e with q | q
        · exact O.out.gk q
        · have := O.out.row.lt; omega))
      have z7 : Oz (w6.setCell ⟨k, 1, none⟩ (.slice a6 (G ++ u.l).length c6)) w4.heap.size (.slice ab Bd.length cb) Bd := (O.out.bad.same g6.size (fun j e => g6.block j (O.out.bad.at j e).2 (fun h => O.out.gb j h.symm e))).same (by simp [World.setCell]) (fun j e => heap_setCell_other _ _ _ _ (by
        show j ≠ k
        intro h
        subst h
        exact O.out.bk e))
      have row7 : Row (w6.setCell ⟨k, 1, none⟩ (.slice a6 (G ++ u.l).length c6)) k 36 #[.slice a4 ur.length c4, .slice a6 (G ++ u.l).length c6, .slice ab Bd.length cb, .int .i64 ((t : Int) + 1)] := heap_setCell_same w6 k 1 _ _ _ hk6
      have FIN := Lib.hid (fun cs hcs => mk_ref (w7 := w6.setCell ⟨k, 1, none⟩ (.slice a6 (G ++ u.l).length c6)) (p' := ⟨ur.map PartT.l, G ++ u.l, Bd, t + 1⟩) HD.out BB.out NS.out b7 (L4.out.below b7) rfl o7.reads.2 z7.reads.2
        (fun x hx => by have q1 := DR.out x hx; have q2 := b7.size; exact ⟨q1.1, by omega⟩) (fun q hq h0 x hx => .inl (DU.out q hq h0 x hx))
        (fun x hx => by have q1 := o7.ge x.block (by rw [hx]; rfl); have q2 := o7.lt x.block (by rw [hx]; rfl); have q3 := NS.out; exact ⟨by omega, q2⟩)
        (fun x hx => by have q1 := z7.at x.block (by rw [hx]; rfl); have q3 := NS.out; exact ⟨by omega, q1.2⟩) cs hcs)
      have RB7 := Lib.hid (RB.out.below b7)
      have TG := Lib.hid (show tellH p true = ⟨ur.map PartT.l, G ++ u.l, Bd, t + 1⟩ by rw [(tell_good HR.out).1, hpg, hpb, hpt])
      have TN := Lib.hid (show tellN p = 0 by unfold tellN; rw [HR.out]; rfl)
      rw [List.length_append] at r6 b7 row7 RB7 FIN
      have R6 := Lib.hid r6
      have ld := ld_rp row7
      have st := st_rp RB7.out rfl a4 ur.length c4 a6 (G.length + u.l.length) c6 ab Bd.length cb ((t : Int) + 1)
      obtain ⟨⟨c0, c1, c2, c3⟩, cf⟩ := cellsR4 O.out.row
      obtain ⟨⟨y0, y1, y2, y3⟩, yf⟩ := cellsR4 hk6
      clear r6 o6 g6 j6 hk6 b6 o7 z7 row7 b7
      go_wp2_with (at_builtin; go_must (refine Lib.wpList_append_run _ rfl _ _ 27 27 rfl _ _ rfl rfl _ _ R6.out ?_))
      (try simp only [Exit.inBlock, Exit.then])
      apply bodyPost_ret
      case hd => rfl
      case hr => exact results_cell_one rfl _ _ (w.heap.size + 1) _ rfl (loadR (setRow_heap _ _ _ _ _ _ RB7.out))
      case hR =>
        obtain ⟨q1, q2⟩ := FIN.out #[.slice a4 ur.length c4, .slice a6 (G.length + u.l.length) c6, .slice ab Bd.length cb, .int .i64 ((t : Int) + 1)] (by simp)
        exact ⟨_, by rw [TN.out]; rfl, by rw [TG.out]; exact q1, q2⟩
    | false =>
      by_cases h1 : u.l.length = 1
      · obtain ⟨x, hxl⟩ := List.length_eq_one_iff.1 h1
        obtain ⟨b2, o2, hua, q2, e2⟩ := (SU.out.below O.out.low).at 0 (by omega)
        simp only [hxl, List.getElem_cons_zero, Nat.add_zero] at e2
        have hcu := SU.out.cap
        rw [hxl] at hcu
        have LZ := (Below.refl w5.heap.size w5).alloc (Nat.le_refl _) (.cells #[.string x] 9)
        have LD : Below w5.heap.size w5 (w5.alloc (.cells #[.string x] 9)).drew := LZ.drew
        have OB := O.out.bad.below LD
        have OG := O.out.good.below LD
        have hkz : Row (w5.alloc (.cells #[.string x] 9)).drew k 36 #[.slice a4 ur.length c4, .slice ag G.length cg, .slice ab Bd.length cb, .int .i64 ((t : Int) + 1)] := O.out.row.below LD
        have hzs : (w5.alloc (.cells #[.string x] 9)).drew.heap.size = w5.heap.size + 1 := by simp
        obtain ⟨a6, c6, w6, r6, o6, g6, j6⟩ := run_append_z (w5.alloc (.cells #[.string x] 9)).drew w4.heap.size _ Bd [x] OB _ 1 ((strs_block1 w5 x).below (Below.refl _ _).drew) (by simp) (by simp; omega) (by have := O.out.low.size; rw [hzs]; omega) 27
        have hk6 : Row w6 k 36 #[.slice a4 ur.length c4, .slice ag G.length cg, .slice ab Bd.length cb, .int .i64 ((t : Int) + 1)] := (g6.block k hkz.lt (fun e => O.out.bk e.symm)).trans hkz
        have b6 : Below w4.heap.size w4 w6 := (O.out.low.trans (LD.mono O.out.low.size)).grown g6 (by have := O.out.low.size; rw [hzs]; omega) (fun j hj => (OB.at j hj).1)
        have b7 := b6.setCell (p := ⟨k, 2, none⟩) O.out.kn (.slice a6 (Bd ++ [x]).length c6)
        have o7 : OwnT (w6.setCell ⟨k, 2, none⟩ (.slice a6 (Bd ++ [x]).length c6)) w4.heap.size (.slice a6 (Bd ++ [x]).length c6) (Bd ++ [x]) := ownsRow_same o6 (fun j e => heap_setCell_other _ _ _ _ (by
          show j ≠ k
          intro h
          subst h
          rcases j6 _ e with q | q
          · exact O.out.bk q
          · have := O.out.row.lt; omega))
        have z7 : Oz (w6.setCell ⟨k, 2, none⟩ (.slice a6 (Bd ++ [x]).length c6)) w4.heap.size (.slice ag G.length cg) G := (OG.same g6.size (fun j e => g6.block j (OG.at j e).2 (fun h => O.out.gb j e h.symm))).same (by simp [World.setCell]) (fun j e => heap_setCell_other _ _ _ _ (by
          show j ≠ k
          intro h
          subst h
          exact O.out.gk e))
        have row7 : Row (w6.setCell ⟨k, 2, none⟩ (.slice a6 (Bd ++ [x]).length c6)) k 36 #[.slice a4 ur.length c4, .slice ag G.length cg, .slice a6 (Bd ++ [x]).length c6, .int .i64 ((t : Int) + 1)] := heap_setCell_same w6 k 2 _ _ _ hk6
        have FIN := Lib.hid (fun cs hcs => mk_ref (w7 := w6.setCell ⟨k, 2, none⟩ (.slice a6 (Bd ++ [x]).length c6)) (p' := ⟨ur.map PartT.l, G, Bd ++ [x], t + 1⟩) HD.out BB.out NS.out b7 (L4.out.below b7) rfl z7.reads.2 o7.reads.2
          (fun x hx => by have q1 := DR.out x hx; have q2 := b7.size; exact ⟨q1.1, by omega⟩) (fun q hq h0 x hx => .inl (DU.out q hq h0 x hx))
          (fun x hx => by have q1 := z7.at x.block (by rw [hx]; rfl); have q3 := NS.out; exact ⟨by omega, q1.2⟩)
          (fun x hx => by have q1 := o7.ge x.block (by rw [hx]; rfl); have q2 := o7.lt x.block (by rw [hx]; rfl); have q3 := NS.out; exact ⟨by omega, q2⟩) cs hcs)
        have RB7 := Lib.hid (RB.out.below b7)
        have TG := Lib.hid (show tellH p false = ⟨ur.map PartT.l, G, Bd ++ [x], t + 1⟩ by rw [(tell_one HR.out h1).1, hpg, hpb, hpt, hxl])
        have TN := Lib.hid (show tellN p = 0 by unfold tellN; rw [HR.out]; rfl)
        simp only [List.length_append, List.length_singleton] at r6 b7 row7 RB7 FIN hcu
        have R6 := Lib.hid r6
        have ld := ld_rp row7
        have st := st_rp RB7.out rfl a4 ur.length c4 ag G.length cg a6 (Bd.length + 1) c6 ((t : Int) + 1)
        obtain ⟨⟨c0, c1, c2, c3⟩, cf⟩ := cellsR4 O.out.row
        obtain ⟨⟨z0, z1, z2, z3⟩, zf⟩ := cellsR4 hkz
        obtain ⟨⟨y0, y1, y2, y3⟩, yf⟩ := cellsR4 hk6
        have e3 : (w5.alloc (.cells #[.string x] 9)).drew.cell? ⟨b2, o2, none⟩ = some (.string x) := (LD.cell (p := ⟨b2, o2, none⟩) q2).trans e2
        simp only [hua, hxl, List.length_singleton]
        clear r6 o6 g6 j6 hk6 b6 o7 z7 row7 b7 OB OG hkz h1
        go_upto_region 10 with (fail)
        go_region_law (refine step_append_eq rfl _ _ 27 27 rfl _ _ rfl rfl _ _ R6.out ?_)
        all_goals
          go_wp2_with fail
          (try simp only [Exit.inBlock, Exit.then])
          apply bodyPost_ret
          case hd => rfl
          case hr => exact results_cell_one rfl _ _ (w.heap.size + 1) _ rfl (loadR (setRow_heap _ _ _ _ _ _ RB7.out))
          case hR =>
            obtain ⟨q1, q2⟩ := FIN.out #[.slice a4 ur.length c4, .slice ag G.length cg, .slice a6 (Bd.length + 1) c6, .int .i64 ((t : Int) + 1)] (by simp)
            exact ⟨_, by rw [TN.out]; rfl, by rw [TG.out]; exact q1, q2⟩
      · have hmn : halfN u.l.length ≤ u.l.length := by unfold halfN; omega
        have hmv : halfN u.l.length = (u.l.length + 1) / 2 := rfl
        obtain ⟨aA, cA, eA, pA, dA⟩ := slice_toB (a := u.a) SU.out.cap (halfN u.l.length) _ rfl hmn
        obtain ⟨aB, cB, eB, pB, dB⟩ := slice_fromB (a := u.a) SU.out.cap (halfN u.l.length) _ rfl hmn
        change ∀ W, (Instr.slice 27 (.slice u.a u.l.length u.cap) none (some (.int .i64 (halfN u.l.length : Int))) none).run Try.prog W = .ok (.slice aA (halfA u.l).length cA) W at eA
        change ∀ W, (Instr.slice 27 (.slice u.a u.l.length u.cap) (some (.int .i64 (halfN u.l.length : Int))) none none).run Try.prog W = .ok (.slice aB (halfB u.l).length cB) W at eB
        have O2 := OwnV.two w5 w5.heap.size (Nat.le_refl _) ⟨aA, cA, halfA u.l⟩ ⟨aB, cB, halfB u.l⟩
        have LZ := (Below.refl w5.heap.size w5).alloc (Nat.le_refl _) (.cells #[PartT.val ⟨aA, cA, halfA u.l⟩, PartT.val ⟨aB, cB, halfB u.l⟩] 27)
        have LD : Below w5.heap.size w5 (w5.alloc (.cells #[PartT.val ⟨aA, cA, halfA u.l⟩, PartT.val ⟨aB, cB, halfB u.l⟩] 27)).drew := LZ.drew
        have O2d : OwnV (w5.alloc (.cells #[PartT.val ⟨aA, cA, halfA u.l⟩, PartT.val ⟨aB, cB, halfB u.l⟩] 27)).drew w5.heap.size _ _ := O2
        have hzs : (w5.alloc (.cells #[PartT.val ⟨aA, cA, halfA u.l⟩, PartT.val ⟨aB, cB, halfB u.l⟩] 27)).drew.heap.size = w5.heap.size + 1 := by simp
        have hkz : Row (w5.alloc (.cells #[PartT.val ⟨aA, cA, halfA u.l⟩, PartT.val ⟨aB, cB, halfB u.l⟩] 27)).drew k 36 #[.slice a4 ur.length c4, .slice ag G.length cg, .slice ab Bd.length cb, .int .i64 ((t : Int) + 1)] := O.out.row.below LD
        have bz : Below w4.heap.size w4 (w5.alloc (.cells #[PartT.val ⟨aA, cA, halfA u.l⟩, PartT.val ⟨aB, cB, halfB u.l⟩] 27)).drew := O.out.low.trans (LD.mono O.out.low.size)
        obtain ⟨v6, w6, r6, o6, g6⟩ := run_append_parts (w5.alloc (.cells #[PartT.val ⟨aA, cA, halfA u.l⟩, PartT.val ⟨aB, cB, halfB u.l⟩] 27)).drew w5.heap.size _ _ ur O2d a4 c4 (L4.out.below bz) (by simp; omega) (by rw [hzs]; omega) 34
        obtain ⟨a6, c6, rfl⟩ := o6.shape
        have hkl := O.out.row.lt
        have hk6 : Row w6 k 36 #[.slice a4 ur.length c4, .slice ag G.length cg, .slice ab Bd.length cb, .int .i64 ((t : Int) + 1)] := (g6.block k hkz.lt (fun e => by
          have e' : k = w5.heap.size := Option.some.inj e
          omega)).trans hkz
        have b6 : Below w4.heap.size w4 w6 := bz.grown g6 (by have := O.out.low.size; rw [hzs]; omega) (fun j hj => by cases hj; exact O.out.low.size)
        have LW : Below w5.heap.size w5 w6 := LD.grown g6 (by rw [hzs]; omega) (fun j hj => by cases hj; exact Nat.le_refl _)
        have hlen : ([⟨aA, cA, halfA u.l⟩, ⟨aB, cB, halfB u.l⟩] ++ ur : List PartT).length = ur.length + 1 + 1 := by simp
        rw [hlen] at r6 o6
        have b7 := b6.setCell (p := ⟨k, 0, none⟩) O.out.kn (.slice a6 (ur.length + 1 + 1) c6)
        have hs7 : w6.heap.size ≤ (w6.setCell ⟨k, 0, none⟩ (.slice a6 (ur.length + 1 + 1) c6)).heap.size := by simp [World.setCell]
        have hj7 : ∀ j, j ≠ k → (w6.setCell ⟨k, 0, none⟩ (.slice a6 (ur.length + 1 + 1) c6)).heap[j]? = w6.heap[j]? := fun j hj => heap_setCell_other _ _ _ _ (by simpa using hj)
        have SU7 := SU.out.below b7
        have each7 : ∀ q ∈ ([⟨aA, cA, halfA u.l⟩, ⟨aB, cB, halfB u.l⟩] ++ ur : List PartT), StrsP (w6.setCell ⟨k, 0, none⟩ (.slice a6 (ur.length + 1 + 1) c6)) q.a q.cap q.l := by
          intro q hq
          simp only [List.cons_append, List.nil_append, List.mem_cons] at hq
          rcases hq with rfl | rfl | hq
          · exact pA _ SU7
          · exact pB _ SU7
          · exact (L4.out.below b7).each q hq
        have each6 : ∀ q ∈ ([⟨aA, cA, halfA u.l⟩, ⟨aB, cB, halfB u.l⟩] ++ ur : List PartT), StrsP w6 q.a q.cap q.l := by
          intro q hq
          simp only [List.cons_append, List.nil_append, List.mem_cons] at hq
          rcases hq with rfl | rfl | hq
          · exact pA _ (SU.out.below b6)
          · exact pB _ (SU.out.below b6)
          · exact (L4.out.below b6).each q hq
        obtain ⟨hl6, l6, n6⟩ := o6.reads each6
        clear hl6
        have l7 := l6.turn hs7 (fun x hx => hj7 _ (by have := (n6 x hx).1; omega)) each7
        have zg : Oz (w6.setCell ⟨k, 0, none⟩ (.slice a6 (ur.length + 1 + 1) c6)) w4.heap.size (.slice ag G.length cg) G := (O.out.good.below LW).same hs7 (fun j e => hj7 j (fun h => O.out.gk (h ▸ e)))
        have zb : Oz (w6.setCell ⟨k, 0, none⟩ (.slice a6 (ur.length + 1 + 1) c6)) w4.heap.size (.slice ab Bd.length cb) Bd := (O.out.bad.below LW).same hs7 (fun j e => hj7 j (fun h => O.out.bk (h ▸ e)))
        have row7 : Row (w6.setCell ⟨k, 0, none⟩ (.slice a6 (ur.length + 1 + 1) c6)) k 36 #[.slice a6 (ur.length + 1 + 1) c6, .slice ag G.length cg, .slice ab Bd.length cb, .int .i64 ((t : Int) + 1)] := heap_setCell_same w6 k 0 _ _ _ hk6
        have DU0 := DUU.out hu0
        have FIN := Lib.hid (fun cs hcs => mk_ref (w7 := w6.setCell ⟨k, 0, none⟩ (.slice a6 (ur.length + 1 + 1) c6)) (p' := ⟨halfA u.l :: halfB u.l :: ur.map PartT.l, G, Bd, t + 1⟩) HD.out BB.out NS.out b7 l7 rfl zg.reads.2 zb.reads.2
          (fun x hx => by have q1 := n6 x hx; have q2 := O.out.low.size; have q3 := NS.out; exact ⟨by omega, by omega⟩)
          (fun q hq h0 x hx => by
            simp only [List.cons_append, List.nil_append, List.mem_cons] at hq
            rcases hq with rfl | rfl | hq
            · obtain ⟨y, hy, e⟩ := dA x hx
              exact .inl (e ▸ DU0 y hy)
            · obtain ⟨y, hy, e⟩ := dB x hx
              exact .inl (e ▸ DU0 y hy)
            · exact .inl (DU.out q hq h0 x hx))
          (fun x hx => by have q1 := zg.at x.block (by rw [hx]; rfl); have q3 := NS.out; exact ⟨by omega, q1.2⟩)
          (fun x hx => by have q1 := zb.at x.block (by rw [hx]; rfl); have q3 := NS.out; exact ⟨by omega, q1.2⟩) cs (by rw [hlen]; exact hcs))
        have RB7 := Lib.hid (RB.out.below b7)
        have TG := Lib.hid (show tellH p false = ⟨halfA u.l :: halfB u.l :: ur.map PartT.l, G, Bd, t + 1⟩ by rw [(tell_two HR.out h1).1, hpg, hpb, hpt])
        have TN := Lib.hid (show tellN p = 0 by unfold tellN; rw [HR.out]; rfl)
        simp only [PartT.val] at r6
        have R6 := Lib.hid r6
        have LDH := Lib.hid (ld_rp row7)
        have STH := Lib.hid (st_rp RB7.out rfl a6 (ur.length + 1 + 1) c6 ag G.length cg ab Bd.length cb ((t : Int) + 1))
        have CH := Lib.hid (cellsR4 O.out.row)
        have hkz' := hkz
        unfold PartT.val at hkz'
        have ZH := Lib.hid (cellsR4 hkz')
        have YH := Lib.hid (cellsR4 hk6)
        have EA := Lib.hid eA
        have EB := Lib.hid eB
        clear hkz' eA eB hzs
        have hx1 : (((u.l.length : Nat) : Int) == 1) = false := by rw [beq_eq_false_iff_ne]; omega
        clear r6 o6 g6 hk6 b6 b7 LW hs7 hj7 SU7 each7 each6 l6 n6 l7 zg zb row7 O2 LZ O2d hkz bz pA pB dA dB DU0 hlen
        generalize halfA u.l = hA at *
        generalize halfB u.l = hB at *
        generalize hm : halfN u.l.length = m at *
        obtain ⟨m0, hm0, hm0'⟩ : ∃ m0 : Nat, ((u.l.length : Nat) : Int) / 2 = (m0 : Int) ∧ m0 = u.l.length / 2 := ⟨_, by omega, rfl⟩
        by_cases hp : u.l.length % 2 = 1
        · have hr2 : (((u.l.length : Nat) : Int) % 2 == 1) = true := by rw [beq_iff_eq]; omega
          have hm2 : (m0 : Int) + 1 = (m : Int) := by omega
          clear hm0' hmv hm hmn hp
          go_upto_region 15 with (fail)
          have ld := LDH.out
          have st := STH.out
          have eA := EA.out
          have eB := EB.out
          obtain ⟨⟨c0, c1, c2, c3⟩, cf⟩ := CH.out
          obtain ⟨⟨z0, z1, z2, z3⟩, zf⟩ := ZH.out
          obtain ⟨⟨y0, y1, y2, y3⟩, yf⟩ := YH.out
          go_region_law (refine step_append_eq rfl _ _ 34 34 rfl _ _ rfl rfl _ _ R6.out ?_)
          all_goals
            go_wp2_with fail
            (try simp only [Exit.inBlock, Exit.then])
            apply bodyPost_ret
            case hd => rfl
            case hr => exact results_cell_one rfl _ _ (w.heap.size + 1) _ rfl (loadR (setRow_heap _ _ _ _ _ _ RB7.out))
            case hR =>
              obtain ⟨q1, q2⟩ := FIN.out #[.slice a6 (ur.length + 1 + 1) c6, .slice ag G.length cg, .slice ab Bd.length cb, .int .i64 ((t : Int) + 1)] (by simp)
              exact ⟨_, by rw [TN.out]; rfl, by rw [TG.out]; exact q1, q2⟩
        · have hr2 : (((u.l.length : Nat) : Int) % 2 == 1) = false := by rw [beq_eq_false_iff_ne]; omega
          obtain rfl : m0 = m := by omega
          clear hm0' hmv hm hmn hp
          go_upto_region 15 with (fail)
          have ld := LDH.out
          have st := STH.out
          have eA := EA.out
          have eB := EB.out
          obtain ⟨⟨c0, c1, c2, c3⟩, cf⟩ := CH.out
          obtain ⟨⟨z0, z1, z2, z3⟩, zf⟩ := ZH.out
          obtain ⟨⟨y0, y1, y2, y3⟩, yf⟩ := YH.out
          go_region_law (refine step_append_eq rfl _ _ 34 34 rfl _ _ rfl rfl _ _ R6.out ?_)
          all_goals
            go_wp2_with fail
            (try simp only [Exit.inBlock, Exit.then])
            apply bodyPost_ret
            case hd => rfl
            case hr => exact results_cell_one rfl _ _ (w.heap.size + 1) _ rfl (loadR (setRow_heap _ _ _ _ _ _ RB7.out))
            case hR =>
              obtain ⟨q1, q2⟩ := FIN.out #[.slice a6 (ur.length + 1 + 1) c6, .slice ag G.length cg, .slice ab Bd.length cb, .int .i64 ((t : Int) + 1)] (by simp)
              exact ⟨_, by rw [TN.out]; rfl, by rw [TG.out]; exact q1, q2⟩

theorem refTell_any {n : Nat} (h : RefP w D v p) (ok : OkH n p) (hn : n ≤ 1000) (b : Bool) : Calls Try.prog 18 #[v, .bool b] w (RTellPost D p b w) := by
  obtain ⟨ra, rc, us, ga, gc, ba, bc, h⟩ := h
  cases us with
  | nil => exact refTell_none h b
  | cons u ur => exact refTell_some h ok hn b
end

end Go.Proofs.Ytbhknaggbenfnaa
