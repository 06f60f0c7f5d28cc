/- What both Reads of states stand on: what is read, step by step; a state in its variable while it is read. -/
import Derived.Test.YtfmpibmhhfmajaaGreatDoorSnOwn
import Derived.Test.YtfmpibmhhfmajaaGreatDoorSnRow
import Derived.Test.YtfmpibmhhfmajaaGreatDoorPOr
import Derived.Test.YtfmpibmhhfmajaaGreatDoorPBt
import Derived.Test.YtfmpibmhhfmajaaGreatDoorPOb
import Derived.Test.YtfmpibmhhfmajaaGreatDoorMgEffects
import Derived.Test.YtfmpibmhhfmajaaGreatDoorPSc
import Derived.Test.YtfmpibmhhfmajaaGreatDoorMgBatches
import Derived.Test.YtfmpibmhhfmajaaGreatDoorMgOrders
namespace Go.Proofs.YtfmpibmhhfmajaaGreatDoor
set_option maxRecDepth 100000
open Go.RowKit Go.ChangeShapes Go.WideShapes Go.ChangeAt

/-- All that stands ahead of how many orders there are. -/
def setS (dm : Nat) (s : Sc) : Hd × Sc :=
  let w := capsS s
  let m := capsS w.2
  let l := numS 100 m.2
  let n := numS 96 l.2
  let d := doorsS dm n.1 n.2
  let t := numS 1099511627776 d.2
  let b := numS 1000000000000 t.2
  let k := numS 1000000000000 b.2
  (⟨w.1.1, w.1.2, m.1.1, m.1.2, l.1, d.1, t.1, b.1, k.1, 0⟩, k.2)
theorem headS_set (dm : Nat) (s : Sc) : headS dm s = (⟨(setS dm s).1.wc, (setS dm s).1.ww, (setS dm s).1.mc, (setS dm s).1.mw, (setS dm s).1.limit, (setS dm s).1.doors, (setS dm s).1.now, (setS dm s).1.nb, (setS dm s).1.nk, (numS 400 (setS dm s).2).1⟩, (numS 400 (setS dm s).2).2) := rfl
theorem read_parts (dm bm : Nat) {s s0 s1 s2 s3 s4 : Sc} {H : Hd} {m n : Nat} {ol : List Od} {bl : List Bt} (h1 : setS dm s = (H, s0)) (h2 : numS 400 s0 = (m, s1)) (h3 : ordersO m s1 = some (ol, s2)) (h4 : numS bm s2 = (n, s3)) (h5 : batchesO n s3 = some (bl, s4)) :
    readS dm bm s = match boxO s4 with
      | none => none
      | some l => some (stOf H ol bl l, (boxS s4).2) := by
  unfold readS
  rw [headS_set, h1]
  simp only
  rw [h2]
  unfold tailS
  simp only
  rw [h3]
  simp only
  rw [h4]
  simp only
  rw [h5]
  rfl
theorem read_noO (dm bm : Nat) {s s0 s1 : Sc} {H : Hd} {m : Nat} (h1 : setS dm s = (H, s0)) (h2 : numS 400 s0 = (m, s1)) (h3 : ordersO m s1 = none) : readS dm bm s = none := by
  unfold readS
  rw [headS_set, h1]
  simp only
  rw [h2]
  unfold tailS
  simp only
  rw [h3]
theorem read_noB (dm bm : Nat) {s s0 s1 s2 s3 : Sc} {H : Hd} {m n : Nat} {ol : List Od} (h1 : setS dm s = (H, s0)) (h2 : numS 400 s0 = (m, s1)) (h3 : ordersO m s1 = some (ol, s2)) (h4 : numS bm s2 = (n, s3)) (h5 : batchesO n s3 = none) : readS dm bm s = none := by
  unfold readS
  rw [headS_set, h1]
  simp only
  rw [h2]
  unfold tailS
  simp only
  rw [h3]
  simp only
  rw [h4]
  simp only
  rw [h5]
/-- What a read state is, where its bytes are just all. -/
theorem readM_is {dm bm : Nat} {l : List Nat} {st : St} {s : Sc} (h : readS dm bm (some l) = some (st, s)) : readM dm bm l = if (s == some []) && rightS st then some st else none := by
  unfold readM
  rw [h]
  cases s with
  | none => rfl
  | some r =>
    cases r with
    | nil => rfl
    | cons x r => rfl
theorem readM_no {dm bm : Nat} {l : List Nat} (h : readS dm bm (some l) = none) : readM dm bm l = none := by
  unfold readM
  rw [h]
theorem read_few {dm bm : Nat} {l : List Nat} (hb : Bytes l) (hl : l.length ≤ 1000000) {o : StR} (h : readS dm bm (some l) = some (o.st, some [])) : FewS o ∨ 1000000 < o.ords.length := by
  have := readS_back dm bm (s := some l) (fun b e => by cases e; exact hb) h
  rw [List.append_nil] at this
  injection this with this
  have hm := stateL_many o.st
  rw [← this] at hm
  have h2 : o.st.bats.length = o.bats.length := by simp [StR.st, btsOf]
  have h3 : o.st.effs.length = o.effs.length := rfl
  by_cases h4 : 1000000 < o.ords.length
  · exact .inr h4
  · exact .inl ⟨by omega, by omega, by omega⟩
/-- The sizes of what was read. -/
structure FitR (o : StR) : Prop where
  doors : o.doors.length ≤ 96
  many : o.ords.length ≤ 400
  ords : ∀ y ∈ o.ords, (∀ x ∈ y.o.ls, x.sku.size ≤ 32) ∧ y.o.ls.length ≤ 8 ∧ y.o.id.size ≤ 32 ∧ y.o.car.size ≤ 32 ∧ y.o.zone.size ≤ 32 ∧ y.o.serv.size ≤ 32
  bats : ∀ y ∈ o.bats, FitsB y.b
  effs : ∀ e ∈ o.effs, e.order.size ≤ 32
theorem stP_own {W : World} {B : Nat} {o : StR} (h : OwnSt W B o) (f : FitR o) : StP W o := by
  obtain ⟨f1, _, f2, f3, f4⟩ := f
  obtain ⟨a1, c1, e1, d1⟩ := h.doors.ints
  injection e1 with e1 _ e2
  obtain ⟨a2, c2, e3, d2⟩ := h.ords.sl
  injection e3 with e3 _ e4
  obtain ⟨a3, c3, e5, d3⟩ := h.bats.sl
  injection e5 with e5 _ e6
  obtain ⟨a4, c4, e7, d4⟩ := h.effs.sl
  injection e7 with e7 _ e8
  refine ⟨by rw [e1, e2]; exact d1, by unfold maxLen; omega, ⟨by rw [e3, e4]; exact d2, fun y hy => odP_own (h.lns y hy) (f2 y hy)⟩, ⟨by rw [e5, e6]; exact d3, fun y hy => ?_⟩, ⟨by rw [e7, e8]; exact d4, fun e he => by unfold maxLen; have := f4 e he; omega⟩⟩
  have hf := f3 y hy
  obtain ⟨a5, c5, e9, d5⟩ := (h.mems y hy).strs
  injection e9 with e9 _ e10
  exact btP_of (by rw [e9, e10]; exact d5) hf
theorem ordersO_more {n k : Nat} {s sk : Sc} {acc : List Od} (h : ordersO n s = (ordersO (k + 1) sk).map fun p => (acc ++ p.1, p.2)) {o : Od} (ht : takeV sk = some o) : ordersO n s = (ordersO k (takeS sk).2).map fun p => ((acc ++ [o]) ++ p.1, p.2) := by
  rw [h, ordersO_succ, ht, Option.bind_some]
  cases ordersO k (takeS sk).2 with
  | none => rfl
  | some p => simp
theorem ordersO_stop {n k : Nat} {s sk : Sc} {acc : List Od} (h : ordersO n s = (ordersO (k + 1) sk).map fun p => (acc ++ p.1, p.2)) (ht : takeV sk = none) : ordersO n s = none := by
  rw [h, ordersO_succ, ht]
  rfl
theorem batchesO_more {n k : Nat} {s sk : Sc} {acc : List Bt} (h : batchesO n s = (batchesO (k + 1) sk).map fun p => (acc ++ p.1, p.2)) {o : Bt} (ht : takeBV sk = some o) : batchesO n s = (batchesO k (takeB sk).2).map fun p => ((acc ++ [o]) ++ p.1, p.2) := by
  rw [h, batchesO_succ, ht, Option.bind_some]
  cases batchesO k (takeB sk).2 with
  | none => rfl
  | some p => simp
theorem batchesO_stop {n k : Nat} {s sk : Sc} {acc : List Bt} (h : batchesO n s = (batchesO (k + 1) sk).map fun p => (acc ++ p.1, p.2)) (ht : takeBV sk = none) : batchesO n s = none := by
  rw [h, batchesO_succ, ht]
  rfl
theorem takeV_yes {s : Sc} {o : Od} (h : takeV s = some o) : takeO s = o ∧ takeE s = 0 ∧ o = (takeS s).1 := by
  refine ⟨by unfold takeO; rw [h]; rfl, by unfold takeE; rw [h]; rfl, ?_⟩
  unfold takeV at h
  split at h
  · injection h with h
    exact h.symm
  · cases h
theorem takeV_no {s : Sc} (h : takeV s = none) : takeE s = 101 := by unfold takeE; rw [h]; rfl
theorem takeBV_yes {s : Sc} {o : Bt} (h : takeBV s = some o) : takeBO s = o ∧ o = (takeB s).1 := by
  refine ⟨by unfold takeBO; rw [h]; rfl, ?_⟩
  unfold takeBV at h
  split at h
  · injection h with h
    exact h.symm
  · cases h
theorem boxO_sizes {s : Sc} (h : BytesS s) : ∀ e ∈ boxV s, e.order.size ≤ 32 := by
  intro e he
  unfold boxV at he
  cases hb : boxO s with
  | none => rw [hb] at he; cases he
  | some l =>
    rw [hb] at he
    obtain ⟨r, h1, _⟩ := boxO_some hb
    have := effsS_order (numS 1048576 s).1 (numS_bytes h 1048576) e
    rw [show effsS (numS 1048576 s).1 (numS 1048576 s).2 = boxS s from rfl, h1] at this
    exact this he
theorem step_append_int {w : World} {ops : Array Oper} {o : Oper} {a : Act} {K : Act → World → Prop} {Q : Exit → Act → World → Prop} {E : Prop} (hgd : o.guard = none) (s x : Operand)
    (ho : o.op = .call { callee := .builtin .append, args := #[s, x], argTypes := #[32, 32] }) (base : Nat) (v : Value) (xs ys : List Int) (hs : a.eval s = v) (hown : OwnI w base v xs) (A : Option Addr) (cA : Nat)
    (hx : a.eval x = .slice A ys.length cA) (hy : IntsP w A cA ys) (hlen : xs.length + ys.length ≤ 10000000) (hb : base ≤ w.heap.size)
    (h : ∀ v' w', OwnI w' base v' (xs ++ ys) → w.grownBy w' v.ownBlock → K (a.put o.dst v') w') :
    if Region.wanted o (yielded ops a.tmps) = true then Oper.wp Tryz.prog o a w K Q else E := by
  have hw : Region.wanted o (yielded ops a.tmps) = true := by simp [Region.wanted, hgd]
  rw [if_pos hw]
  obtain ⟨v', w', hr, h1, h2⟩ := run_append_int w base v xs ys hown A cA hy hlen hb o.type
  unfold Oper.wp execOp
  simp only [ho, resolve, invoke, builtin, Sem.run_bind, Sem.run_pure, Result.andThen_ok, List.map_toArray, List.map_cons, List.map_nil, hs, hx, hr]
  exact h v' w' h1 h2
theorem OwnI.shape {w : World} {base : Nat} {v : Value} {l : List Int} (h : OwnI w base v l) : ∃ a c, v = .slice a l.length c := by
  obtain ⟨a, c, e, _⟩ := h.ints
  exact ⟨a, c, e⟩
theorem OwnI.row {w : World} {base : Nat} {v : Value} {l : List Int} (h : OwnI w base v l) : ∀ k, v.ownBlock = some k → base ≤ k := fun k hk => (World.ownsRow.lt h k hk).1
section
variable (ev : Operand → Value) (d : Option Tmp) (ty : TypeId) (pos : String) (af : Array Edge) (gd : Option (Nat × Bool)) (w : World)
theorem bsOr3 (n : Nat) (ps : Array (Nat × Operand)) : (execOp ev ⟨d, .buildSlice 33 n ps, ty, pos, af, gd⟩).run Tryz.prog w = BsX 33 n (ps.map fun (i, x) => (i, ev x)) w := rfl
theorem bsBa3 (n : Nat) (ps : Array (Nat × Operand)) : (execOp ev ⟨d, .buildSlice 34 n ps, ty, pos, af, gd⟩).run Tryz.prog w = BsX 34 n (ps.map fun (i, x) => (i, ev x)) w := rfl
theorem bs_or3 (x : OdR) : BsX 33 1 #[(0, orV x)] w = .ok (.value (.slice (some ⟨w.heap.size, 0, none⟩) 1 1)) (w.alloc (.cells (orC x) 93)) := by kernel_rfl
theorem bs_ba3 (x : BtR) : BsX 34 1 #[(0, baV x)] w = .ok (.value (.slice (some ⟨w.heap.size, 0, none⟩) 1 1)) (w.alloc (.cells (baC x) 98)) := by kernel_rfl
end
theorem or_one (W : World) (n : Nat) (hn : W.heap.size = n) (y : OdR) : SlP LO (W.alloc (.cells (orC y) 93)) (some ⟨n, 0, none⟩) 1 [y] := hn ▸ SlP.one LO_ok W y
theorem ba_one (W : World) (n : Nat) (hn : W.heap.size = n) (y : BtR) : SlP LB (W.alloc (.cells (baC y) 98)) (some ⟨n, 0, none⟩) 1 [y] := hn ▸ SlP.one LB_ok W y
/-- No more is left than there was. -/
theorem left_few (dm bm : Nat) {l b : List Nat} (hb : Bytes l) {s0 s1 s2 s3 : Sc} {H : Hd} {m n : Nat} {ol : List Od} {bl : List Bt} (h1 : setS dm (some l) = (H, s0)) (h2 : numS 400 s0 = (m, s1)) (h3 : ordersO m s1 = some (ol, s2)) (h4 : numS bm s2 = (n, s3)) (h5 : batchesO n s3 = some (bl, some b)) : b.length ≤ l.length := by
  have hB : BytesS (some l) := fun x e => by cases e; exact hb
  have y1 : BytesS s1 := by have := headS_bytes dm hB; rw [headS_set, h1] at this; simp only at this; rwa [h2] at this
  have y2 : BytesS s2 := ordersO_bytes _ y1 h3
  have y3 : BytesS s3 := by have := numS_bytes y2 bm; rwa [h4] at this
  obtain ⟨e3, _, _⟩ := batchesO_back _ y3 h5
  have e2 := numS_back y2 (m := bm) (r := batchesL bl ++ b) (by rw [h4]; exact e3)
  rw [e2] at h3
  obtain ⟨e1, e0, _⟩ := ordersO_back _ y1 h3
  have e := headS_back dm hB (r := ordersL ol ++ (numL (numS bm s2).1 ++ (batchesL bl ++ b))) (by rw [headS_set, h1]; simp only; rw [h2]; exact e1) (os := ol) [] [] (by rw [headS_set, h1]; simp only; rw [h2]; exact e0)
  injection e with e
  have := congrArg List.length e
  simp only [List.length_append] at this
  omega
theorem int_one (W : World) (x : Int) : IntsP (W.alloc (.cells #[.int .i64 x] 3)) (some ⟨W.heap.size, 0, none⟩) 1 [x] := ints_one W x 3
theorem row_base {W : World} {base base' n len : Nat} {e : TypeId} {v : Value} {cs : List Value} (h : W.ownsRow base e n v len cs) (hb : base' ≤ base) : W.ownsRow base' e n v len cs := by
  refine ⟨h.1, ?_⟩
  rcases h.2 with h1 | ⟨b, cap, cur, e1, h1, h2, h3⟩
  · exact .inl h1
  · exact .inr ⟨b, cap, cur, e1, Nat.le_trans hb h1, h2, h3⟩
theorem OwnSt.base {W : World} {B B' : Nat} {o : StR} (h : OwnSt W B o) (hb : B' ≤ B) : OwnSt W B' o :=
  ⟨row_base h.doors hb, row_base h.ords hb, fun y hy => row_base (h.lns y hy) hb, row_base h.bats hb, fun y hy => row_base (h.mems y hy) hb, row_base h.effs hb⟩

/-- The result's variable, what is read from, a state in its variable. -/
structure RsK (w : World) (g c : Nat) (o : StR) (s : Sc) (W : World) : Prop where
  res : Row W w.heap.size 37 (stC noStR)
  rd : RdS W g s
  but : But g w W
  out : Row W c 37 (stC o)
  hg : g ≠ w.heap.size
  hgc : g < c
  hc : w.heap.size < c
structure RsI (w : World) (g c : Nat) (o : StR) (s : Sc) (W : World) : Prop where
  k : RsK w g c o s W
  own : OwnSt W (c + 1) o
theorem RsK.call {w W W' : World} {g c : Nat} {o : StR} {s s' : Sc} (i : RsK w g c o s W) (r : RdS W' g s') (b : But g W W') : RsK w g c o s' W' := by
  have h1 := i.hg; have h2 := i.hgc; have h3 := i.hc
  exact ⟨i.res.but b (by omega), r, i.but.trans b, i.out.but b (by omega), h1, h2, h3⟩
theorem RsI.call {w W W' : World} {g c : Nat} {o : StR} {s s' : Sc} (i : RsI w g c o s W) (r : RdS W' g s') (b : But g W W') : RsI w g c o s' W' := by
  have h2 := i.k.hgc
  exact ⟨i.k.call r b, i.own.keep fun k k1 k2 => b.block k k2 (by omega)⟩
theorem RsK.far {w W W' : World} {g c k : Nat} {o : StR} {s : Sc} (i : RsK w g c o s W) (hk : c < k) (b : But k W W') : RsK w g c o s W' := by
  have h1 := i.hg; have h2 := i.hgc; have h3 := i.hc
  exact ⟨i.res.but b (by omega), i.rd.other (by omega) b, i.but.new (k := k) (by omega) b, i.out.but b (by omega), h1, h2, h3⟩
theorem RsI.below {w W W' : World} {g c : Nat} {o : StR} {s : Sc} (i : RsI w g c o s W) (b : Below W.heap.size W W') : RsI w g c o s W' := by
  have h1 := i.k.hg; have h2 := i.k.hgc; have h3 := i.k.hc
  exact ⟨⟨i.k.res.below b, i.k.rd.below b, i.k.but.trans (.of b), i.k.out.below b, h1, h2, h3⟩, i.own.keep fun k _ k2 => b.block k k2⟩
theorem RsK.below {w W W' : World} {g c : Nat} {o : StR} {s : Sc} (i : RsK w g c o s W) (b : Below W.heap.size W W') : RsK w g c o s W' := by
  have h1 := i.hg; have h2 := i.hgc; have h3 := i.hc
  exact ⟨i.res.below b, i.rd.below b, i.but.trans (.of b), i.out.below b, h1, h2, h3⟩
theorem RsK.put {w W : World} {g c : Nat} {o o' : StR} {s : Sc} (i : RsK w g c o s W) (j : Nat) (v : Value) (e : (stC o).setIfInBounds j v = stC o') (own : OwnSt W (c + 1) o') : RsI w g c o' s (W.setCell ⟨c, j, none⟩ v) := by
  have h1 := i.hg; have h2 := i.hgc; have h3 := i.hc
  have b : But c W (W.setCell ⟨c, j, none⟩ v) := (But.refl _ _).set j v
  exact ⟨⟨i.res.but b (by omega), i.rd.other (k := c) (by omega) b, i.but.new (k := c) (by omega) b, e ▸ i.out.set j v, h1, h2, h3⟩, own.keep fun k k1 k2 => b.block k k2 (by omega)⟩
theorem RsI.set {w W : World} {g c : Nat} {o o' : StR} {s : Sc} (i : RsI w g c o s W) (j : Nat) (v : Value) (e : (stC o).setIfInBounds j v = stC o') (hl : OwnSt W (c + 1) o → OwnSt W (c + 1) o') : RsI w g c o' s (W.setCell ⟨c, j, none⟩ v) := i.k.put j v e (hl i.own)
theorem RsI.fin {w W : World} {g c : Nat} {o : StR} {s : Sc} (i : RsI w g c o s W) (ds : Array Value) (_hgl : g < w.heap.size ∨ w.heap.size < g) :
    OwnSt (W.setRow w.heap.size ds) w.heap.size o ∧ But g w (W.setRow w.heap.size ds) ∧ (g < w.heap.size → RdS (W.setRow w.heap.size ds) g s) := by
  have h1 := i.k.hg; have h2 := i.k.hgc; have h3 := i.k.hc
  refine ⟨(i.own.keep fun k k1 k2 => setRow_other _ _ k _ (by omega)).base (by omega), i.k.but.new (Nat.le_refl _) ((But.refl _ _).setRow ds), fun hg => i.k.rd.other hg ((But.refl _ _).setRow ds)⟩

/-- The same, where the doors lie in front of the state's variable. -/
structure RuJ (w : World) (g c : Nat) (o : StR) (s : Sc) (W : World) : Prop where
  k : RsK w g c o s W
  dr : OwnI W (w.heap.size + 1) (.slice o.da o.doors.length o.dc) o.doors
  dc : ∀ x, o.da = some x → x.block < c
structure RuI (w : World) (g c : Nat) (o : StR) (s : Sc) (W : World) : Prop where
  j : RuJ w g c o s W
  own : OwnSt W (c + 1) (stDoors o [] none 0)
theorem RuI.k {w W : World} {g c : Nat} {o : StR} {s : Sc} (i : RuI w g c o s W) : RsK w g c o s W := i.j.k
theorem RuI.call {w W W' : World} {g c : Nat} {o : StR} {s s' : Sc} (hg : g < w.heap.size) (i : RuI w g c o s W) (r : RdS W' g s') (b : But g W W') : RuI w g c o s' W' := by
  have h2 := i.k.hgc
  refine ⟨⟨i.k.call r b, row_else i.j.dr fun x hx => b.block _ (rowS_at i.j.dr x hx).2 (by have := (rowS_at i.j.dr x hx).1; omega), i.j.dc⟩, i.own.keep fun k k1 k2 => b.block k k2 (by omega)⟩
theorem RuI.below {w W W' : World} {g c : Nat} {o : StR} {s : Sc} (i : RuI w g c o s W) (b : Below W.heap.size W W') : RuI w g c o s W' :=
  ⟨⟨i.k.below b, OwnI.below i.j.dr b, i.j.dc⟩, i.own.keep fun k _ k2 => b.block k k2⟩
theorem RuJ.far {w W W' : World} {g c k : Nat} {o : StR} {s : Sc} (i : RuJ w g c o s W) (hk : c < k) (b : But k W W') : RuJ w g c o s W' :=
  ⟨i.k.far hk b, row_else i.dr fun x hx => b.block _ (rowS_at i.dr x hx).2 (by have q := i.dc x hx; omega), i.dc⟩
theorem RuJ.put {w W : World} {g c : Nat} {o o' : StR} {s : Sc} (i : RuJ w g c o s W) (j : Nat) (v : Value) (e : (stC o).setIfInBounds j v = stC o') (hd : o'.doors = o.doors ∧ o'.da = o.da ∧ o'.dc = o.dc) (own : OwnSt W (c + 1) (stDoors o' [] none 0)) : RuI w g c o' s (W.setCell ⟨c, j, none⟩ v) := by
  have h1 := i.k.hg; have h2 := i.k.hgc; have h3 := i.k.hc
  obtain ⟨e1, e2, e3⟩ := hd
  have b : But c W (W.setCell ⟨c, j, none⟩ v) := (But.refl _ _).set j v
  refine ⟨⟨⟨i.k.res.but b (by omega), i.k.rd.other (k := c) (by omega) b, i.k.but.new (k := c) (by omega) b, e ▸ i.k.out.set j v, h1, h2, h3⟩, ?_, ?_⟩, own.keep fun k k1 k2 => b.block k k2 (by omega)⟩
  · rw [e1, e2, e3]
    exact row_else i.dr fun x hx => b.block _ (rowS_at i.dr x hx).2 (by have q := i.dc x hx; omega)
  · rw [e2]
    exact i.dc
theorem RuI.fin {w W : World} {g c : Nat} {o : StR} {s : Sc} (i : RuI w g c o s W) (ds : Array Value) (_hgl : g < w.heap.size) :
    OwnSt (W.setRow w.heap.size ds) w.heap.size o ∧ But g w (W.setRow w.heap.size ds) ∧ (g < w.heap.size → RdS (W.setRow w.heap.size ds) g s) := by
  have h1 := i.k.hg; have h2 := i.k.hgc; have h3 := i.k.hc
  have ow0 : OwnSt (W.setRow w.heap.size ds) (c + 1) (stDoors o [] none 0) := i.own.keep fun k k1 k2 => setRow_other _ _ k _ (by omega)
  have ow := ow0.base (B' := w.heap.size) (by omega)
  refine ⟨⟨row_base (row_else i.j.dr fun x hx => setRow_other _ _ _ _ (by have := (rowS_at i.j.dr x hx).1; omega)) (by omega), ow.ords, ow.lns, ow.bats, ow.mems, ow.effs⟩, i.k.but.new (Nat.le_refl _) ((But.refl _ _).setRow ds), fun hg => i.k.rd.other hg ((But.refl _ _).setRow ds)⟩

theorem read_yes {dm bm : Nat} (hdm : 95 ≤ dm) (hbm : 400 ≤ bm) {l : List Nat} (hb : Bytes l) (hl : l.length ≤ 1000000) {st : St} {s : Sc} (h : readS dm bm (some l) = some (st, s)) (h1 : (s == some []) = true) (h2 : rightS st = true) : readV l = st ∧ readE l = 0 := by
  have := readM_is h
  rw [readM_same hdm hbm hb hl, h1, h2] at this
  have : readO l = some st := this
  unfold readV readE
  rw [this]
  exact ⟨rfl, rfl⟩
theorem read_not {dm bm : Nat} (hdm : 95 ≤ dm) (hbm : 400 ≤ bm) {l : List Nat} (hb : Bytes l) (hl : l.length ≤ 1000000) {st : St} {s : Sc} (h : readS dm bm (some l) = some (st, s)) (h1 : ((s == some []) && rightS st) = false) : readV l = noSt ∧ readE l = 161 := by
  have := readM_is h
  rw [readM_same hdm hbm hb hl, h1] at this
  have : readO l = none := this
  unfold readV readE
  rw [this]
  exact ⟨rfl, rfl⟩
theorem read_none {dm bm : Nat} (hdm : 95 ≤ dm) (hbm : 400 ≤ bm) {l : List Nat} (hb : Bytes l) (hl : l.length ≤ 1000000) (h : readS dm bm (some l) = none) : readV l = noSt ∧ readE l = 161 := by
  have := readM_no h
  rw [readM_same hdm hbm hb hl] at this
  unfold readV readE
  rw [this]
  exact ⟨rfl, rfl⟩
theorem few_of {dm bm : Nat} {l : List Nat} (hb : Bytes l) (hl : l.length ≤ 1000000) {o : StR} {s : Sc} (h : readS dm bm (some l) = some (o.st, s)) (hs : (s == some []) = true) (f : FitR o) : FewS o := by
  have e : s = some [] := (sc_beq s).1 hs
  rw [e] at h
  rcases read_few hb hl h with q | q
  · exact q
  · have := f.many
    omega
end Go.Proofs.YtfmpibmhhfmajaaGreatDoor
