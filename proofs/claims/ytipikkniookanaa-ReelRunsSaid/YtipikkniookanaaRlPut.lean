/- What put of package reel answers: a frame goes out piece by piece. -/
import Derived.RangeFuncNested
import Derived.RangeFuncBound
import Derived.RangeFuncCalls
import Derived.RangeFuncLeaves
import Derived.Shelf.Abstract
import Derived.Shelf.RegionOpen
import Derived.WalkKit
import Derived.OwnWalkIn
import Derived.TacticsInMore
import Derived.LoopNIn
import Derived.LoopIn
import Derived.Test.YtipikkniookanaaRlRow
namespace Go.Proofs.Ytipikkniookanaa
set_option maxRecDepth 100000
open Go.RowKit Go.Shelf
attribute [local go_sem] Oper.semAt_some

/-- The variable in which the frame lies. -/
def FrV (w : World) (B : Nat) (v : Value) : Prop := w.heap[B]? = some (.cells #[v] 24 (0, 0))
theorem FrV.cell {w : World} {B : Nat} {v : Value} (h : FrV w B v) : w.cell? ⟨B, 0, none⟩ = some v := by
  unfold FrV at h
  simp [World.cell?, h]

set_option maxHeartbeats 4000000 in
theorem chunks1_in (F : Fence) (n : Nat) (hf : F.fn 79) (hro : F.round = none) (hn : 1 ≤ n) (l Bf : Nat) (a : Option Addr) (cap : Nat) (fr : List Nat) (hfr : fr.length ≤ 1000000) (m : Nat) (hm : Hid (m = (fr.length + 47) / 48))
    (sl : Fin m → Value) (hsl : Hid (∀ (k : Fin m) W, (Instr.slice 24 (.slice a fr.length cap) (some (.int .i64 ((k.val * 48 : Nat) : Int))) (some (.int .i64 ((min (k.val * 48 + 48) fr.length : Nat) : Int))) none).run Try.prog W = .ok (sl k) W))
    (J Jx : List (Fin m) → World → Prop)
    (hY : Hid (∀ pre (x : Fin m) W, J pre W → pre.length < m → YieldAt F (n - 1) Try.prog l #[.int .i64 (x.val : Int), sl x] W fun e W' =>
      (e = .returned (.bool true) ∧ J (pre ++ [x]) W' ∧ W'.heap[Bf]? = W.heap[Bf]?) ∨ (e = .returned (.bool false) ∧ Jx (pre ++ [x]) W')))
    (W : World) (hB : FrV W Bf (.slice a fr.length cap)) (h0 : J [] W) :
    CallsIn F n Try.prog 79 #[.func (.yield l) #[] #[], .pointer (some ⟨Bf, 0, none⟩)] W fun e W' => (∃ v, e = .returned v) ∧
      ((∃ ys : List (Fin m), ys.map Fin.val = List.range m ∧ J ys W') ∨ (∃ (pre : List (Fin m)), (∃ j, j ≤ m ∧ pre.map Fin.val = List.range j) ∧ Jx pre W')) := by
  refine callsIn_of_wp Try.func79 rfl hf ?_ hro
  simp only [Try.ntmps79, List.size_toArray, List.length_cons, List.length_nil, Nat.reduceAdd, Nat.reduceSub, Array.replicate_succ, Array.replicate_zero, List.push_toArray, List.append_toArray, List.nil_append, List.cons_append]
  have hm6 : m ≤ 30000 := by have := hm.out; omega
  gi_wp2
  gi_loopw [3] (fun i wr => ∃ (k : Nat) (pre : List (Fin m)), i = .int .i64 (k : Int) ∧ k ≤ m ∧ Hid (pre.map Fin.val = List.range k) ∧ Hid (FrV wr Bf (.slice a fr.length cap)) ∧ J pre wr)
    (fun i _ => m - (intOf i).toNat)
  case atStart => exact ⟨0, [], rfl, Nat.zero_le _, Lib.hid rfl, Lib.hid hB, h0⟩
  case round =>
    obtain ⟨k, pre, rfl, hk, HP, HB, hJ⟩ := hrel
    have hc := HB.out.cell
    obtain ⟨q, hq, HQ⟩ : ∃ q : Nat, (k : Int) * 48 = (q : Int) ∧ Hid (q = k * 48) := ⟨k * 48, by omega, rfl⟩
    by_cases hlt : k < m
    · have hql : q < fr.length := by have := hm.out; have := HQ.out; omega
      have hlen : pre.length < m := by have := congrArg List.length HP.out; simp at this; omega
      obtain ⟨fn, tmps, assign, body, hy, hR⟩ := hY.out pre ⟨k, hlt⟩ wr hJ hlen
      have hs := hsl.out ⟨k, hlt⟩
      obtain ⟨t, ht, HT⟩ : ∃ t : Nat, (if (fr.length : Int) < (q : Int) + 48 then (fr.length : Int) else (q : Int) + 48) = (t : Int) ∧ Hid (t = min (k * 48 + 48) fr.length) := ⟨min (k * 48 + 48) fr.length, by have := HQ.out; split <;> omega, rfl⟩
      dsimp only at hs hy
      rw [← HQ.out] at hs
      rw [← HQ.out] at HT
      rw [← HT.out] at hs
      generalize sl ⟨k, hlt⟩ = v at *
      have HS : Hid ((pre ++ [(⟨k, hlt⟩ : Fin m)]).map Fin.val = List.range (k + 1)) := Lib.hid (by rw [List.map_append, HP.out, List.range_succ]; rfl)
      gi_wp2
      refine hR.mono ?_
      rintro e W3 (⟨rfl, hJ3, hk3⟩ | ⟨rfl, hJx3⟩)
      · have HB3 : Hid (FrV W3 Bf (.slice a fr.length cap)) := Lib.hid (hk3.trans HB.out)
        gi_wp2
        go_roundw
        case rel => exact ⟨k + 1, pre ++ [⟨k, hlt⟩], by go_num, by omega, HS, HB3, hJ3⟩
        case measure => simp [intOf]; omega
      · gi_wp2
        refine bodyPost_ret (results_none rfl _ _ _) rfl ?_
        exact ⟨⟨_, rfl⟩, .inr ⟨pre ++ [⟨k, hlt⟩], ⟨k + 1, by omega, HS.out⟩, hJx3⟩⟩
    · have hql : ¬ q < fr.length := by have := hm.out; have := HQ.out; omega
      have hkm : k = m := by omega
      gi_wp2
      go_end0
      exact ⟨⟨_, rfl⟩, .inl ⟨pre, by rw [HP.out, hkm], hJ⟩⟩

theorem chunks1_stops (F : Fence) (n : Nat) (hf : F.fn 79) (hro : F.round = none) (hn : 1 ≤ n) (Bf : Nat) (a : Option Addr) (cap : Nat) (fr : List Nat) (hfr : fr.length ≤ 1000000) (m : Nat) (hm : m = (fr.length + 47) / 48)
    (sl : Fin m → Value) (hsl : ∀ (k : Fin m) W, (Instr.slice 24 (.slice a fr.length cap) (some (.int .i64 ((k.val * 48 : Nat) : Int))) (some (.int .i64 ((min (k.val * 48 + 48) fr.length : Nat) : Int))) none).run Try.prog W = .ok (sl k) W)
    (w : World) (hB : FrV w Bf (.slice a fr.length cap)) :
    SeqStopsK F n Try.prog 79 #[.pointer (some ⟨Bf, 0, none⟩)] (fun x : Fin m => #[.int .i64 (x.val : Int), sl x]) (fun W W' => W'.heap[Bf]? = W.heap[Bf]?) (fun ys => ys.map Fin.val = List.range m) (fun pre => ∃ j, j ≤ m ∧ pre.map Fin.val = List.range j) m w :=
  fun l J Jx W hW _ _ hY h0 => chunks1_in F n hf hro hn l Bf a cap fr hfr m (Lib.hid hm) sl (Lib.hid hsl) J Jx (Lib.hid hY) W ((hW.block _ (Array.getElem?_eq_some_iff.1 hB).1).trans hB) h0

set_option maxHeartbeats 1000000 in
theorem chunks_any (a : Option Addr) (n cap : Nat) (w : World) : Calls Try.prog 53 #[.slice a n cap] w (fun e w' => e = .returned (.func (.func 79) #[] #[.pointer (some ⟨w.heap.size, 0, none⟩)]) ∧ w.alloc (.cells #[.slice a n cap] 24) = w') := by
  go_enter Try.func53, Try.ntmps53
  go_wp2_with fail
  go_ret
  exact ⟨rfl, rfl⟩


/-- One piece more, where there was no error. -/
def stepK (side : Int) (round at_ : Nat) (cs : List (List Nat)) (s : Int × Pl) (k : Nat) : Int × Pl := if s.1 == 0 then s.2.mput side round ((at_ + k : Nat) : Int) (cs.getD k []) else s
def runK (P : Pl) (side : Int) (round at_ : Nat) (cs : List (List Nat)) (ks : List Nat) : Int × Pl := ks.foldl (stepK side round at_ cs) (0, P)

theorem putC_append (side : Int) (round : Nat) (ys : List (List Nat)) : ∀ (xs : List (List Nat)) (P : Pl) (at_ : Nat), P.putC side round at_ (xs ++ ys) = if (P.putC side round at_ xs).1 == 0 then (P.putC side round at_ xs).2.putC side round (at_ + xs.length) ys else P.putC side round at_ xs := by
  intro xs
  induction xs with
  | nil => intro P at_; simp [Pl.putC]
  | cons c r ih =>
    intro P at_
    simp only [List.cons_append, Pl.putC]
    split
    · rw [ih, List.length_cons, show at_ + 1 + r.length = at_ + (r.length + 1) by omega]
    · rfl
theorem putC_one (P : Pl) (side : Int) (round at_ : Nat) (c : List Nat) : P.putC side round at_ [c] = P.mput side round (at_ : Int) c := by
  simp only [Pl.putC]
  split
  · rename_i h
    rw [beq_iff_eq] at h
    exact Prod.ext h.symm rfl
  · rfl
theorem runK_range (P : Pl) (side : Int) (round at_ : Nat) (cs : List (List Nat)) : ∀ m, m ≤ cs.length → runK P side round at_ cs (List.range m) = P.putC side round at_ (cs.take m) := by
  intro m
  induction m with
  | zero => intro _; rfl
  | succ m ih =>
    intro h
    have hm := ih (by omega)
    have e : cs.take (m + 1) = cs.take m ++ [cs[m]] := by rw [List.take_add_one, List.getElem?_eq_getElem (by omega)]; rfl
    unfold runK at hm ⊢
    rw [List.range_succ, List.foldl_append, hm, e, putC_append]
    simp only [List.foldl_cons, List.foldl_nil, stepK]
    rw [List.getD_eq_getElem?_getD, List.getElem?_eq_getElem (by omega), Option.getD_some]
    split
    · rw [putC_one, List.length_take, Nat.min_eq_left (by omega)]
    · rfl
theorem putC_part (P : Pl) (side : Int) (round at_ : Nat) (cs : List (List Nat)) (m : Nat) (h : (P.putC side round at_ (cs.take m)).1 ≠ 0) : P.putC side round at_ cs = P.putC side round at_ (cs.take m) := by
  have e : cs = cs.take m ++ cs.drop m := (List.take_append_drop m cs).symm
  conv => lhs; rw [e]
  rw [putC_append, if_neg (by simpa using h)]
theorem runK_snoc (P : Pl) (side : Int) (round at_ : Nat) (cs : List (List Nat)) (ks : List Nat) (k : Nat) (h : (runK P side round at_ cs ks).1 = 0) : runK P side round at_ cs (ks ++ [k]) = (runK P side round at_ cs ks).2.mput side round ((at_ + k : Nat) : Int) (cs.getD k []) := by
  unfold runK at h ⊢
  rw [List.foldl_append]
  simp only [List.foldl_cons, List.foldl_nil]
  unfold stepK at h ⊢
  rw [if_pos (by rw [beq_iff_eq]; exact h)]
theorem stepK_few (side : Int) (round at_ : Nat) (cs : List (List Nat)) (ks : List Nat) : ∀ s : Int × Pl, (ks.foldl (stepK side round at_ cs) s).2.loose.length ≤ s.2.loose.length + ks.length := by
  induction ks with
  | nil => intro s; simp
  | cons k r ih =>
    intro s
    rw [List.foldl_cons, List.length_cons]
    refine Nat.le_trans (ih _) ?_
    have : (stepK side round at_ cs s k).2.loose.length ≤ s.2.loose.length + 1 := by
      unfold stepK
      split
      · exact mput_few _ _ _ _ _
      · omega
    omega
theorem runK_few (P : Pl) (side : Int) (round at_ : Nat) (cs : List (List Nat)) (ks : List Nat) : (runK P side round at_ cs ks).2.loose.length ≤ P.loose.length + ks.length := stepK_few side round at_ cs ks (0, P)

/-- The blocks of a plate. -/
def Rmin (g bs bl : Nat) (lv : Value) (k : Nat) : Prop := k = g ∨ k = bs ∨ k = bl ∨ lv.ownBlock = some k
theorem PlM.shrink {w : World} {R : Nat → Prop} {g bs bl : Nat} {lv : Value} {P : Pl} (h : PlM w R g bs bl lv P) : PlM w (Rmin g bs bl lv) g bs bl lv P :=
  ⟨h.good, fun k hk => by
    rcases hk with rfl | rfl | rfl | hk
    · exact h.dom _ h.rg
    · exact h.dom _ h.rbs
    · exact h.dom _ h.rbl
    · exact h.dom _ (h.lob k hk).1, h.head, h.rs, h.rl, h.lo, h.n1, h.n2, h.n3, .inl rfl, .inr (.inl rfl), .inr (.inr (.inl rfl)), fun b hb => ⟨.inr (.inr (.inr hb)), (h.lob b hb).2⟩⟩
theorem PlM.within {w : World} {R : Nat → Prop} {g bs bl : Nat} {lv : Value} {P : Pl} (h : PlM w R g bs bl lv P) : ∀ k, Rmin g bs bl lv k → R k := by
  rintro k (rfl | rfl | rfl | hk)
  · exact h.rg
  · exact h.rbs
  · exact h.rbl
  · exact (h.lob k hk).1
theorem PlM.areCells {w : World} {R : Nat → Prop} {g bs bl : Nat} {lv : Value} {P : Pl} (h : PlM w R g bs bl lv P) : ∀ k, Rmin g bs bl lv k → ∃ o : Obj, w.heap[k]? = some o ∧ o.isCells = true := by
  rintro k (rfl | rfl | rfl | hk)
  · exact ⟨_, h.head, rfl⟩
  · obtain ⟨cs, h1, _⟩ := h.rs
    exact ⟨_, h1, rfl⟩
  · obtain ⟨cs, h1, _⟩ := h.rl
    exact ⟨_, h1, rfl⟩
  · rcases h.lo.2 with ⟨rfl, _⟩ | ⟨b, cap, cur, rfl, _, h2, _⟩
    · cases hk
    · simp [Value.ownBlock] at hk
      subst hk
      exact ⟨_, h2, rfl⟩

/-- The plate behind so many pieces, in what was its own or new; all else of the loop's beginning is as it was, but S. -/
def PutI (g : Nat) (P : Pl) (side : Int) (round at_ : Nat) (cs : List (List Nat)) (R S : Nat → Prop) (wl : World) (ks : List Nat) (W : World) : Prop :=
  ∃ bs bl lv, PlM W (Rmin g bs bl lv) g bs bl lv (runK P side round at_ cs ks).2 ∧ (∀ k, Rmin g bs bl lv k → R k ∨ wl.heap.size ≤ k) ∧ Keep S wl W

theorem PutI.grown {g : Nat} {P : Pl} {side : Int} {round at_ : Nat} {cs : List (List Nat)} {R S : Nat → Prop} {wl W W' : World} {ks : List Nat} {row : Option Nat} (h : PutI g P side round at_ cs R S wl ks W) (hg : W.grownBy W' row)
    (hr : ∀ r, row = some r → wl.heap.size ≤ r ∧ ∃ o : Obj, W.heap[r]? = some o ∧ o.isCells = false) : PutI g P side round at_ cs R S wl ks W' := by
  obtain ⟨bs, bl, lv, h1, h2, h3⟩ := h
  refine ⟨bs, bl, lv, h1.same hg.size (fun k hk => hg.block k (h1.dom k hk) (fun e => ?_)), h2, h3.grown hg (fun k e hlt => ?_)⟩
  · obtain ⟨_, o, ho, hc⟩ := hr k e.symm
    obtain ⟨o', ho', hc'⟩ := h1.areCells k hk
    rw [ho] at ho'
    injection ho' with ho'
    subst ho'
    rw [hc] at hc'
    cases hc'
  · have := (hr k e).1
    omega

theorem keepsFrom_put {W W' : World} {R : Nat → Prop} {g bs bl : Nat} {lv : Value} {P : Pl} (hp : PlM W R g bs bl lv P) (hk : Keep (Rmin g bs bl lv) W W') (B : Nat) : KeepsFrom B W W' :=
  ⟨hk.size, fun k o _ ho hc => (hk.block k (Array.getElem?_eq_some_iff.1 ho).1 (fun hr => by
    obtain ⟨o', ho', hc'⟩ := hp.areCells k hr
    rw [ho] at ho'
    injection ho' with ho'
    subst ho'
    rw [hc] at hc'
    cases hc')).trans ho⟩

theorem putI_next {g : Nat} {P : Pl} {side : Int} {round at_ : Nat} {cs : List (List Nat)} {R : Nat → Prop} {wl W W' : World} {ks ks2 : List Nat} {k : Nat} {bs bl bs2 bl2 : Nat} {lv lv2 : Value} {Q : Pl} {T : Nat → Prop} {r : Int × Pl}
    (_hp : PlM W T g bs bl lv Q) (hR : ∀ k, Rmin g bs bl lv k → R k ∨ wl.heap.size ≤ k) (hK : Keep R wl W)
    (hp2 : PlM W' (ext (Rmin g bs bl lv) W W') g bs2 bl2 lv2 r.2) (hk2 : Keep (Rmin g bs bl lv) W W') (e : runK P side round at_ cs (ks ++ [k]) = r) (e2 : ks2 = ks ++ [k]) :
    PutI g P side round at_ cs R R wl ks2 W' := by
  subst e2
  refine ⟨bs2, bl2, lv2, by rw [e]; exact hp2.shrink, fun k hk => ?_, hK.trans hk2 (fun i hi hr => ?_)⟩
  · rcases hp2.within k hk with h | h
    · exact hR k h
    · exact .inr (Nat.le_trans hK.size h.1)
  · rcases hR i hr with h | h
    · exact h
    · omega

theorem PutI.setBox {g : Nat} {P : Pl} {side : Int} {round at_ : Nat} {cs : List (List Nat)} {R : Nat → Prop} {wl W : World} {ks : List Nat} (h : PutI g P side round at_ cs R R wl ks W) {b : Nat} (hb : ¬ R b) (hlt : b < wl.heap.size) (v : Value) :
    PutI g P side round at_ cs R (fun k => R k ∨ k = b) wl ks (W.setCell ⟨b, 0, none⟩ v) := by
  obtain ⟨bs, bl, lv, h1, h2, h3⟩ := h
  refine ⟨bs, bl, lv, h1.same (by simp [World.setCell]) (fun k hk => heap_setCell_other _ _ _ _ (fun e => ?_)), h2, Keep.setCell ⟨h3.os, h3.tape, h3.output, h3.size, fun k hk hr => h3.block k hk (fun e => hr (.inl e))⟩ (fun _ => .inr rfl) v⟩
  subst e
  rcases h2 _ hk with h | h
  · exact hb h
  · exact absurd hlt (Nat.not_lt.2 h)

theorem PutI.fin {g : Nat} {P : Pl} {side : Int} {round at_ : Nat} {cs : List (List Nat)} {R S : Nat → Prop} {w wl W : World} {ks : List Nat} (h : PutI g P side round at_ cs R S wl ks W) (hb : Below w.heap.size w wl) (hS : ∀ k, S k → R k ∨ w.heap.size ≤ k) (hd : ∀ k, R k → k < w.heap.size) :
    PlateP W (ext R w W) g (runK P side round at_ cs ks).2 ∧ Keep R w W := by
  obtain ⟨bs, bl, lv, h1, h2, h3⟩ := h
  have hk : Keep R w W := ⟨h3.os.trans hb.os, h3.tape.trans hb.tape, h3.output.trans hb.output, Nat.le_trans hb.size h3.size, fun k hk hr => (h3.block k (Nat.lt_of_lt_of_le hk hb.size) (fun e => by
    rcases hS k e with h | h
    · exact hr h
    · omega)).trans (hb.block k hk)⟩
  refine ⟨⟨bs, bl, lv, h1.mono (fun k e => ?_) (fun k e => ?_)⟩, hk⟩
  · rcases e with h | h
    · exact Nat.lt_of_lt_of_le (hd k h) hk.size
    · exact h.2
  · rcases h2 k e with h | h
    · exact .inl h
    · exact .inr ⟨Nat.le_trans hb.size h, h1.dom k e⟩

theorem chunk_part (fr : List Nat) (k : Nat) : (fr.drop (k * 48)).take (min (k * 48 + 48) fr.length - k * 48) = (fr.drop (k * 48)).take 48 := by
  by_cases h : k * 48 + 48 ≤ fr.length
  · rw [Nat.min_eq_left h]
    congr 1
    omega
  · rw [Nat.min_eq_right (by omega), List.take_of_length_le (by rw [List.length_drop]; omega), List.take_of_length_le (by rw [List.length_drop]; omega)]

theorem alloc_at {w : World} {k : Nat} {cs : Array Value} {T : TypeId} (h : w.heap.size = k) : (w.alloc (.cells cs T)).heap[k]? = some (.cells cs T (0, 0)) := by
  subst h
  exact heap_alloc_new w _

set_option maxHeartbeats 4000000 in
theorem rput_any {w : World} {R : Nat → Prop} {g bs bl : Nat} {lv : Value} {P : Pl} (h : PlM w R g bs bl lv P) (side : Int) (round at_ : Nat) (bv : Value) (kd : Nat) (hkd : kd < 256) (a : Option Addr) (cap : Nat) (t : List Nat) (hB : BytesP w a cap t) (ht : t.length ≤ 65536) (hat : at_ ≤ 10000) (hlo : P.loose.length + cellsN t.length ≤ 100000) :
    Calls Try.prog 36 #[ptr g, .int .i64 side, .agg #[.int .u64 (round : Int), .int .i64 (at_ : Int), bv], .agg #[.int .u8 (kd : Int), .slice a t.length cap]] w (PlPost (P.putC side round at_ (chunksL (frameL kd t))) R g w) := by
  obtain ⟨W5, hW5⟩ : ∃ W5, ((((w.alloc (.cells #[ptr g] 28)).alloc (.cells #[.int .i64 side] 3)).alloc (.cells #[.int .u64 (round : Int), .int .i64 (at_ : Int), bv] 64)).alloc (.cells #[.int .u8 (kd : Int), .slice a t.length cap] 76)).alloc (.cells #[.int .i64 0] 30) = W5 := ⟨_, rfl⟩
  have b5 : Below w.heap.size w W5 := by
    rw [← hW5]
    exact (((((Below.refl w.heap.size w).alloc (Nat.le_refl _) _).alloc (by simp) _).alloc (by simp; omega) _).alloc (by simp; omega) _).alloc (by simp; omega) _
  have hz5 : W5.heap.size = w.heap.size + 5 := by rw [← hW5]; simp
  have hbox : W5.heap[w.heap.size]? = some (.cells #[ptr g] 28) ∧ W5.heap[w.heap.size + 1]? = some (.cells #[.int .i64 side] 3) ∧ RowV W5 (w.heap.size + 1 + 1) (.int .u64 (round : Int)) (.int .i64 (at_ : Int)) bv ∧ W5.heap[w.heap.size + 1 + 1 + 1 + 1]? = some (.cells #[.int .i64 0] 30) := by
    rw [← hW5]
    unfold RowV
    refine ⟨?_, ?_, ?_, ?_⟩
    · rw [Below.heap_alloc _ _ _ (by simp; omega), Below.heap_alloc _ _ _ (by simp; omega), Below.heap_alloc _ _ _ (by simp; omega), Below.heap_alloc _ _ _ (by simp)]
      exact heap_alloc_new w _
    · rw [Below.heap_alloc _ _ _ (by simp), Below.heap_alloc _ _ _ (by simp), Below.heap_alloc _ _ _ (by simp)]
      exact alloc_at (by simp)
    · rw [Below.heap_alloc _ _ _ (by simp), Below.heap_alloc _ _ _ (by simp)]
      exact alloc_at (by simp)
    · exact alloc_at (by simp)
  have HBX := Lib.hid hbox
  have CF := Lib.hid (frame_any kd a cap t W5 (hB.below b5) hkd ht)
  have HFB := Lib.hid (frameL_bytes hkd hB.byte)
  have hfl : (frameL kd t).length ≤ 1000000 := by rw [frameL_len]; have := numL_three ht; omega
  have HCN := Lib.hid (frame_cells kd ht)
  have HH := Lib.hid h
  obtain ⟨fr, hfr⟩ : ∃ fr, frameL kd t = fr := ⟨_, rfl⟩
  rw [hfr] at CF HFB hfl HCN ⊢
  have HW5 := Lib.hid hW5
  clear h hB hfr hbox hW5
  refine (callsIn_wide (n := 6)).1 ?_
  refine callsIn_of_wp_marks Try.func36 rfl trivial ?_ rfl
  simp only [Try.ntmps36, List.size_toArray, List.length_cons, List.length_nil, Nat.reduceAdd, Nat.reduceSub, Array.replicate_succ, Array.replicate_zero, List.push_toArray, List.append_toArray, List.nil_append, List.cons_append]
  gi_wp2
  rw [HW5.out]
  refine ⟨trivial, ?_⟩
  refine (callsIn_wide.2 CF.out).mono ?_
  rintro e w6 ⟨v6, rfl, o6, b6⟩
  obtain ⟨a6, c6, rfl, hB6⟩ := o6.bytes HFB.out
  have HB6 := Lib.hid hB6
  have HOF := Lib.hid (show ∀ b o, a6 = some ⟨b, o, none⟩ → w.heap.size ≤ b from fun b o e => Nat.le_trans b5.size (o6.row b (by cases e; rfl)))
  have B6 := Lib.hid (b5.trans (b6.mono b5.size))
  have B56 := Lib.hid b6
  have CC := Lib.hid (chunks_any a6 fr.length c6 w6)
  clear o6 hB6 b6
  gi_wp2
  refine ⟨trivial, ?_⟩
  refine (callsIn_wide.2 CC.out).mono ?_
  rintro e w7 ⟨rfl, hw7⟩
  have hcap := HB6.out.cap
  obtain ⟨m, hm⟩ : ∃ m, m = (fr.length + 47) / 48 := ⟨_, rfl⟩
  have hsx : ∀ k : Fin m, ∃ p : Option Addr × Nat, (∀ W, (Instr.slice 24 (.slice a6 fr.length c6) (some (.int .i64 ((k.val * 48 : Nat) : Int))) (some (.int .i64 ((min (k.val * 48 + 48) fr.length : Nat) : Int))) none).run Try.prog W = .ok (.slice p.1 ((chunksL fr).getD k.val []).length p.2) W) ∧ ∀ W, BytesP W a6 c6 fr → BytesP W p.1 p.2 ((chunksL fr).getD k.val []) := fun k => by
    have hk := k.isLt
    obtain ⟨a', c', h1, h2⟩ := slice_part (a := a6) hcap (k.val * 48) (min (k.val * 48 + 48) fr.length) _ _ rfl rfl (by omega) (by omega)
    have e : (fr.drop (k.val * 48)).take (min (k.val * 48 + 48) fr.length - k.val * 48) = (chunksL fr).getD k.val [] := by
      rw [chunk_part, List.getD_eq_getElem?_getD]
      unfold chunksL
      rw [chop_get _ _ _ (by omega)]
      rfl
    rw [e] at h1 h2
    exact ⟨(a', c'), h1, h2⟩
  obtain ⟨sp, hsp⟩ := Classical.axiomOfChoice hsx
  have HSP := Lib.hid hsp
  have hF7 : FrV w7 w6.heap.size (.slice a6 fr.length c6) := by rw [← hw7]; exact alloc_at rfl
  have b7 : Below w6.heap.size w6 w7 := by rw [← hw7]; exact (Below.refl _ _).alloc (Nat.le_refl _) _
  have hz7 : w7.heap.size = w6.heap.size + 1 := by rw [← hw7]; simp
  have HB7 := Lib.hid (HB6.out.below b7)
  have B7 := Lib.hid (B6.out.trans (b7.mono B6.out.size))
  have B57 := Lib.hid (B56.out.trans (b7.mono B56.out.size))
  have HP7 := Lib.hid (HH.out.below B7.out)
  have hR := Lib.hid HH.out.dom
  clear hw7 hsx hsp CC CF HB6 HH
  gi_wp2
  refine wpIn_rangeFunc_ownG rfl (by omega) (gf := 79) (lb := #[.pointer (some ⟨w6.heap.size, 0, none⟩)]) rfl trivial (enters_of Try.func79 (by kernel_rfl) rfl)
    (chunks1_stops Fence.wide 5 trivial rfl (by omega) w6.heap.size a6 c6 fr hfl m hm (fun k => .slice (sp k).1 ((chunksL fr).getD k.val []).length (sp k).2) (fun k W => (HSP.out k).1 W) w7 hF7)
    (fun h1 h2 => h2.trans h1) (fun W l o o' hl _ _ _ => World.putObj_heap_other (by omega)) (Below.refl _ _) (fun _ => rfl)
    (fun pre W => PutI g P side round at_ (chunksL fr) R R w7 (pre.map Fin.val) W ∧ (runK P side round at_ (chunksL fr) (pre.map Fin.val)).1 = 0)
    (fun c pre W => c = .ret ∧ PutI g P side round at_ (chunksL fr) R (fun k => R k ∨ k = w.heap.size + 1 + 1 + 1 + 1) w7 (pre.map Fin.val) W ∧ (runK P side round at_ (chunksL fr) (pre.map Fin.val)).1 ≠ 0 ∧ W.heap[w.heap.size + 1 + 1 + 1 + 1]? = some (.cells #[.int .i64 (runK P side round at_ (chunksL fr) (pre.map Fin.val)).1] 30 (0, 0)))
    ?own ?ownx ?start (fun x => { tmps := #[ptr g, .int .i64 side, .agg #[.int .u64 (round : Int), .int .i64 (at_ : Int), bv], .agg #[.int .u8 (kd : Int), .slice a t.length cap], .pointer (some ⟨w.heap.size, 0, none⟩), .pointer (some ⟨w.heap.size + 1, 0, none⟩), .pointer (some ⟨w.heap.size + 1 + 1, 0, none⟩), .pointer (some ⟨w.heap.size + 1 + 1 + 1, 0, none⟩), .pointer (some ⟨w.heap.size + 1 + 1 + 1 + 1, 0, none⟩), .slice a6 fr.length c6, .int .i64 0, .int .i64 (x.val : Int), .slice (sp x).1 ((chunksL fr).getD x.val []).length (sp x).2, undef, .tuple #[.slice a6 fr.length c6, .int .i64 0], .agg #[.int .u8 (kd : Int), .slice a t.length cap], .tuple #[.slice a6 fr.length c6, .int .i64 0], .slice a6 fr.length c6, .int .i64 0, .slice a6 fr.length c6, .func (.func 79) #[] #[.pointer (some ⟨w6.heap.size, 0, none⟩)], .int .i64 (x.val : Int), .slice (sp x).1 ((chunksL fr).getD x.val []).length (sp x).2, undef, undef, undef, undef, undef, undef, undef, undef, undef, undef, undef, undef, undef], defers := [] }) ?asg ?rnd ?fin ?stp
  case own => exact fun s W W' row hs hg hr => ⟨hs.1.grown hg hr, hs.2⟩
  case ownx =>
    rintro c s W W' row ⟨hc, hs, hn, hb⟩ hg hr
    refine ⟨hc, hs.grown hg hr, hn, (hg.block _ (Array.getElem?_eq_some_iff.1 hb).1 (fun e => ?_)).trans hb⟩
    have := (hr _ e.symm).1
    have := B57.out.size
    omega
  case start => exact ⟨⟨bs, bl, lv, HP7.out.shrink, fun k hk => .inl (HP7.out.within k hk), Keep.refl _ _⟩, rfl⟩
  case asg =>
    intro l x W K hK
    gi_wp2
    exact hK
  case rnd =>
    rintro l pre x W ⟨⟨bs', bl', lv', hp, hR', hK⟩, h0⟩ hlen
    have hnR : ∀ k, w.heap.size ≤ k → ¬ R k := fun k hk hr => by have := hR.out k hr; omega
    have hbx : ∀ k, w.heap.size ≤ k → k < W5.heap.size → W.heap[k]? = W5.heap[k]? := fun k h1 h2 => (hK.block k (Nat.lt_of_lt_of_le h2 B57.out.size) (hnR k h1)).trans (B57.out.block k h2)
    have e0 := (hbx w.heap.size (Nat.le_refl _) (by omega)).trans HBX.out.1
    have e1 := (hbx (w.heap.size + 1) (by omega) (by omega)).trans HBX.out.2.1
    have e2 := HBX.out.2.2.1.same (hbx (w.heap.size + 1 + 1) (by omega) (by omega))
    have e4 := (hbx (w.heap.size + 1 + 1 + 1 + 1) (by omega) (by omega)).trans HBX.out.2.2.2
    have f0 : W.cell? ⟨w.heap.size, 0, none⟩ = some (ptr g) := by simp [World.cell?, e0]
    have f1 : W.cell? ⟨w.heap.size + 1, 0, none⟩ = some (.int .i64 side) := by simp [World.cell?, e1]
    obtain ⟨f2, f3, _⟩ := e2.cells
    have hBW : BytesP W a6 c6 fr := HB7.out.keep hK (fun _ b o e hr => hnR b (HOF.out b o e) hr)
    have CM := Lib.hid (mput_any hp side round ((at_ + x.val : Nat) : Int) (sp x).1 (sp x).2 ((chunksL fr).getD x.val []) ((HSP.out x).2 W hBW) (by
      have := runK_few P side round at_ (chunksL fr) (pre.map Fin.val)
      rw [List.length_map] at this
      have h2 := HCN.out
      rw [chunksL_len] at h2
      omega))
    have HRK := Lib.hid (runK_snoc P side round at_ (chunksL fr) (pre.map Fin.val) x.val h0)
    have hmp : (pre ++ [x]).map Fin.val = pre.map Fin.val ++ [x.val] := by simp
    have HMP := Lib.hid hmp
    have hx := x.isLt
    have hcell : (at_ : Int) + (x.val : Int) = ((at_ + x.val : Nat) : Int) := by omega
    generalize ((at_ + x.val : Nat) : Int) = q at *
    generalize x.val = xv at *
    generalize (chunksL fr).getD xv [] = ck at *
    clear hmp
    gi_wp2
    refine ⟨trivial, ?_⟩
    refine (CallsIn.inRound l (callsIn_wide.2 CM.out)).mono ?_
    rintro e W' ⟨rfl, ⟨bs2, bl2, lv2, hp2⟩, hk2⟩
    have HI2 := Lib.hid (putI_next hp hR' hK hp2 hk2 HRK.out HMP.out)
    have HKF := Lib.hid (keepsFrom_put hp hk2 w7.heap.size)
    have HW' : Hid (∀ k, w.heap.size ≤ k → k < w7.heap.size → W'.heap[k]? = W.heap[k]?) := Lib.hid (fun k h1 h2 => hk2.block k (Nat.lt_of_lt_of_le h2 hK.size) (fun hr => by
      rcases hR' k hr with h | h
      · exact hnR k h1 h
      · omega))
    rw [← HMP.out] at HRK
    rw [← HRK.out]
    clear hp hp2 hk2 CM hR' HSP
    cases her : ((runK P side round at_ (chunksL fr) ((pre ++ [x]).map Fin.val)).1 == 0) with
    | true =>
      have hr0 : (runK P side round at_ (chunksL fr) ((pre ++ [x]).map Fin.val)).1 = 0 := by simpa using her
      have HR0 := Lib.hid hr0
      rw [hr0]
      have hkp : W'.heap[w6.heap.size]? = W.heap[w6.heap.size]? := HW'.out _ B6.out.size (by omega)
      have HKP := Lib.hid hkp
      clear her hr0 hkp
      gi_wp2
      exact ⟨HKF.out, HKP.out, HI2.out, HR0.out⟩
    | false =>
      have hrn : (runK P side round at_ (chunksL fr) ((pre ++ [x]).map Fin.val)).1 ≠ 0 := by simpa using her
      have HRN := Lib.hid hrn
      have hb8 := (HW'.out (w.heap.size + 1 + 1 + 1 + 1) (by omega) (Nat.lt_of_lt_of_le (by omega) B57.out.size)).trans e4
      have g4 : W'.cell? ⟨w.heap.size + 1 + 1 + 1 + 1, 0, none⟩ = some (.int .i64 0) := by simp [World.cell?, hb8]
      have z4 : W'.frozen? ⟨w.heap.size + 1 + 1 + 1 + 1, 0, none⟩ = false := by simp [World.frozen?, hb8]
      have HI3 := Lib.hid (HI2.out.setBox (b := w.heap.size + 1 + 1 + 1 + 1) (fun hr => hnR _ (by omega) hr) (Nat.lt_of_lt_of_le (by omega) B57.out.size) (.int .i64 (runK P side round at_ (chunksL fr) ((pre ++ [x]).map Fin.val)).1))
      have HKF2 := Lib.hid (HKF.out.trans ((KeepsOthers.setCell W' ⟨w.heap.size + 1 + 1 + 1 + 1, 0, none⟩ (.int .i64 (runK P side round at_ (chunksL fr) ((pre ++ [x]).map Fin.val)).1)).from _))
      have HB8 := Lib.hid (show (W'.setCell ⟨w.heap.size + 1 + 1 + 1 + 1, 0, none⟩ (.int .i64 (runK P side round at_ (chunksL fr) ((pre ++ [x]).map Fin.val)).1)).heap[w.heap.size + 1 + 1 + 1 + 1]? = some (.cells #[.int .i64 (runK P side round at_ (chunksL fr) ((pre ++ [x]).map Fin.val)).1] 30 (0, 0)) by
        rw [heap_setCell_same W' _ 0 _ _ _ hb8]
        rfl)
      clear hb8 hrn
      obtain ⟨er, HER⟩ : ∃ er, Hid ((runK P side round at_ (chunksL fr) ((pre ++ [x]).map Fin.val)).1 = er) := ⟨_, rfl⟩
      rw [HER.out] at HI3 HKF2 HB8 HRN her
      rw [HER.out]
      gi_wp2
      exact ⟨HKF2.out, rfl, HI3.out, by rw [HER.out]; exact HRN.out, by rw [HER.out]; exact HB8.out⟩
  case fin =>
    rintro D ys W hD hS ⟨⟨bs', bl', lv', hp, hR', hK⟩, h0⟩ hKD
    have hnR : ∀ k, w.heap.size ≤ k → ¬ R k := fun k hk hr => by have := hR.out k hr; omega
    have hb8 := ((hK.block (w.heap.size + 1 + 1 + 1 + 1) (Nat.lt_of_lt_of_le (by omega) B57.out.size) (hnR _ (by omega))).trans (B57.out.block _ (by omega))).trans HBX.out.2.2.2
    have g4 : W.cell? ⟨w.heap.size + 1 + 1 + 1 + 1, 0, none⟩ = some (.int .i64 0) := by simp [World.cell?, hb8]
    have z4 : W.frozen? ⟨w.heap.size + 1 + 1 + 1 + 1, 0, none⟩ = false := by simp [World.frozen?, hb8]
    have hKD2 := (KeepsOthers.setCell W ⟨w.heap.size + 1 + 1 + 1 + 1, 0, none⟩ (.int .i64 0)).same D _ hKD rfl
    have hc5 := cell_kept (World.cell?_setCell_same' W ⟨w.heap.size + 1 + 1 + 1 + 1, 0, none⟩ (.int .i64 0) (by rw [g4]; rfl)) (grownBy_putObj' _ D (.deferred none)) (fun r e => by cases e; exact ⟨_, hKD2, rfl⟩)
    have hI : PutI g P side round at_ (chunksL fr) R R w7 (ys.map Fin.val) W := ⟨bs', bl', lv', hp, hR', hK⟩
    have hI2 := (hI.setBox (b := w.heap.size + 1 + 1 + 1 + 1) (fun hr => hnR _ (by omega) hr) (Nat.lt_of_lt_of_le (by omega) B57.out.size) (.int .i64 0)).grown (grownBy_putObj' _ D (.deferred none)) (fun r e => by cases e; exact ⟨hD, _, hKD2, rfl⟩)
    obtain ⟨h7, h8⟩ := hI2.fin B7.out (fun k e => e.elim .inl (fun e => .inr (by omega))) hR.out
    have hall : runK P side round at_ (chunksL fr) (ys.map Fin.val) = P.putC side round at_ (chunksL fr) := by
      rw [hS, hm, ← chunksL_len, runK_range _ _ _ _ _ _ (Nat.le_refl _), List.take_length]
    rw [hall] at h7 h0
    have H7 := Lib.hid h7
    have H8 := Lib.hid h8
    have H0 := Lib.hid h0
    clear h7 h8 hI hI2 hp hK hall h0
    gi_wp2
    refine ⟨by simp, .inl ⟨_, _, rfl, run_takeDeferred hKD2, ?_⟩⟩
    refine ⟨.int .i64 0, ?_, by rw [H0.out], H7.out, H8.out⟩
    simp [results, Try.f36, go_sem, hc5]
  case stp =>
    rintro D c pre W hD ⟨j, hj, hpre⟩ ⟨rfl, hI, hn, hb8⟩ hKD
    have g4 : W.cell? ⟨w.heap.size + 1 + 1 + 1 + 1, 0, none⟩ = some (.int .i64 (runK P side round at_ (chunksL fr) (pre.map Fin.val)).1) := by simp [World.cell?, hb8]
    have hc5 := cell_kept g4 (grownBy_putObj' _ D (.deferred none)) (fun r e => by cases e; exact ⟨_, hKD, rfl⟩)
    have hI2 := hI.grown (grownBy_putObj' _ D (.deferred none)) (fun r e => by cases e; exact ⟨hD, _, hKD, rfl⟩)
    obtain ⟨h7, h8⟩ := hI2.fin B7.out (fun k e => e.elim .inl (fun e => .inr (by omega))) hR.out
    have hall : runK P side round at_ (chunksL fr) (pre.map Fin.val) = P.putC side round at_ (chunksL fr) := by
      have hr := runK_range P side round at_ (chunksL fr) j (by rw [chunksL_len, ← hm]; exact hj)
      rw [← hpre] at hr
      rw [hr]
      exact (putC_part P side round at_ (chunksL fr) j (by rw [← hr]; exact hn)).symm
    rw [hall] at h7 hc5
    have H7 := Lib.hid h7
    have H8 := Lib.hid h8
    clear h7 h8 hI hI2 hall hn
    gi_wp2
    refine ⟨by simp, .inl ⟨_, _, rfl, run_takeDeferred hKD, ?_⟩⟩
    refine ⟨.int .i64 (P.putC side round at_ (chunksL fr)).1, ?_, rfl, H7.out, H8.out⟩
    simp [results, Try.f36, go_sem, hc5]

end Go.Proofs.Ytipikkniookanaa
