/- Tell of a plan, whatever it is told. -/
import Derived.Test.YtbhknaggbenfnaaHvTell
import Derived.Lib.AppendZeros
namespace Go.Proofs.Ytbhknaggbenfnaa
set_option maxRecDepth 100000
open Go.RowKit

/-- It is told so. -/
def TellPost (R : Nat → Prop) (g : Nat) (p : Hv ByteArray) (b : Bool) (w : World) (e : Ending) (w' : World) : Prop := e = .returned (.int .i64 (tellN p)) ∧ PlanP w' (ext R w w') g (tellH p b) ∧ Keep R w w'

/-- What a plan is like once its last list is taken. -/
structure Mid (w : World) (R : Nat → Prop) (g : Nat) (p : Hv ByteArray) (vu vg vb : Value) (us : List PartT) (u : PartT) (w2 : World) : Prop where
  pn : PnM w2 R g ⟨us.reverse.map PartT.l, p.good, p.bad, p.tries + 1⟩ vu vg vb us
  kp : Keep R w w2
  st : StrsP w2 u.a u.cap u.l

section
variable {w w1 w2 : World} {R : Nat → Prop} {g n b1 cap : Nat} {p : Hv ByteArray} {vu vg vb : Value} {us ys : List PartT} {u : PartT}

theorem Mid.good (h : Mid w R g p vu vg vb ys u w2) (hr : p.rest = u.l :: ys.reverse.map PartT.l) {w3 w4 : World} {v : Value} (ho : OwnT w3 0 v (p.good ++ u.l)) (hg : w2.grownBy w3 vg.ownBlock) (hv : v.ownBlock = vg.ownBlock ∨ v.ownBlock = some w2.heap.size) (h4 : w4 = w3.setCell ⟨g, 1, none⟩ v) :
    TellPost R g p true w (.returned (.int .i64 0)) w4 := by
  obtain ⟨q1, q2⟩ := h.pn.setGood ho hg hv w4 h4
  have k := h.kp.trans q2 (fun _ _ e => e)
  refine ⟨by unfold tellN; rw [hr]; rfl, ⟨vu, v, vb, ys, ?_⟩, k⟩
  rw [(tell_good hr).1]
  exact q1.mono (fun i hi => hi.elim (fun e => q1.dom i (.inl e)) (fun e => e.2)) (fun i hi => hi.elim .inl (fun e => .inr ⟨Nat.le_trans h.kp.size e.1, e.2⟩))
theorem Mid.bad (h : Mid w R g p vu vg vb ys u w2) (hr : p.rest = u.l :: ys.reverse.map PartT.l) (h1 : u.l.length = 1) {w3 w4 : World} {v : Value} (ho : OwnT w3 0 v (p.bad ++ u.l)) (hg : w2.grownBy w3 vb.ownBlock) (hv : v.ownBlock = vb.ownBlock ∨ v.ownBlock = some w2.heap.size) (h4 : w4 = w3.setCell ⟨g, 2, none⟩ v) :
    TellPost R g p false w (.returned (.int .i64 0)) w4 := by
  obtain ⟨q1, q2⟩ := h.pn.setBad ho hg hv w4 h4
  have k := h.kp.trans q2 (fun _ _ e => e)
  refine ⟨by unfold tellN; rw [hr]; rfl, ⟨vu, vg, v, ys, ?_⟩, k⟩
  rw [(tell_one hr h1).1]
  exact q1.mono (fun i hi => hi.elim (fun e => q1.dom i (.inl e)) (fun e => e.2)) (fun i hi => hi.elim .inl (fun e => .inr ⟨Nat.le_trans h.kp.size e.1, e.2⟩))
theorem Mid.two (h : Mid w R g p vu vg vb ys u w2) (hr : p.rest = u.l :: ys.reverse.map PartT.l) (h1 : u.l.length ≠ 1) {w0 w3 w4 : World} {v : Value} (hb0 : Below w2.heap.size w2 w0) {x y : PartT} (e1 : y.l = halfA u.l) (e2 : x.l = halfB u.l)
    (hx : OwnT w0 w2.heap.size x.val x.l) (hy : OwnT w0 w2.heap.size y.val y.l) (ho : OwnU w3 v (ys ++ [x, y])) (hg : (w0.alloc (.cells #[x.val, y.val] 27)).grownBy w3 vu.ownBlock) (hv : v.ownBlock = vu.ownBlock ∨ v.ownBlock = some (w0.heap.size + 1)) (h4 : w4 = w3.setCell ⟨g, 0, none⟩ v) :
    TellPost R g p false w (.returned (.int .i64 0)) w4 := by
  have nw : ∀ z : PartT, OwnT w0 w2.heap.size z.val z.l → ∀ a, z.a = some a → w2.heap.size ≤ a.block ∧ a.block < w0.heap.size := fun z hz a ha => by
    have : z.val.ownBlock = some a.block := by unfold PartT.val; rw [ha]; rfl
    exact ⟨hz.ge _ this, hz.lt _ this⟩
  obtain ⟨q1, q2⟩ := h.pn.setRest hb0 hx.reads.2 hy.reads.2 (nw x hx) (nw y hy) ho hg hv w4 h4
  have k := h.kp.trans q2 (fun _ _ e => e)
  refine ⟨by unfold tellN; rw [hr]; rfl, ⟨v, vg, vb, ys ++ [x, y], ?_⟩, k⟩
  rw [(tell_two hr h1).1, ← e1, ← e2]
  exact q1.mono (fun i hi => hi.elim (fun e => q1.dom i (.inl e)) (fun e => e.2)) (fun i hi => hi.elim .inl (fun e => .inr ⟨Nat.le_trans h.kp.size e.1, e.2⟩))

theorem Mid.row (h : Mid w R g p vu vg vb ys u w2) {w3 : World} {row : Option Nat} (hg : w2.grownBy w3 row) (hr : row = vg.ownBlock ∨ row = vb.ownBlock) : w3.heap[g]? = w2.heap[g]? :=
  hg.block g (h.pn.dom g h.pn.rg) (fun e => by
    rcases hr with rfl | rfl
    · exact (h.pn.rgd g e.symm).2.1 rfl
    · exact (h.pn.rbd g e.symm).2.1 rfl)
/-- What is done with a list that is good, or one bad name alone. -/
theorem Mid.app (h : Mid w R g p vu vg vb ys u w2) {l : List ByteArray} {v : Value} (hv : v = vg ∧ l = p.good ∨ v = vb ∧ l = p.bad) (hl : l.length ≤ 1000) (hu : u.l.length ≤ 1000) (h0 : u.l ≠ []) (ty : TypeId) :
    ∃ a' c' w3, (Builtin.append_ #[27, 27] ty #[v, .slice u.a u.l.length u.cap]).run Try.prog w2 = .ok (.slice a' (l ++ u.l).length c') w3 ∧ OwnT w3 0 (.slice a' (l ++ u.l).length c') (l ++ u.l) ∧ w2.grownBy w3 v.ownBlock ∧
      ((Value.slice a' (l ++ u.l).length c').ownBlock = v.ownBlock ∨ (Value.slice a' (l ++ u.l).length c').ownBlock = some w2.heap.size) ∧ w3.heap[g]? = w2.heap[g]? := by
  have ho : OwnT w2 0 v l := by
    rcases hv with ⟨rfl, rfl⟩ | ⟨rfl, rfl⟩
    · exact h.pn.good
    · exact h.pn.bad
  obtain ⟨a', c', w3, k1, k2, k3, k4⟩ := run_append_at w2 v l u.l ho u.a u.cap h.st h0 (by omega) ty
  exact ⟨a', c', w3, k1, k2, k3, k4, h.row k3 (by rcases hv with ⟨rfl, _⟩ | ⟨rfl, _⟩; exact .inl rfl; exact .inr rfl)⟩
/-- Both halves of a list are to be tried. -/
theorem Mid.push (h : Mid w R g p vu vg vb ys u w2) (hy : ys.length ≤ 1000) {w0 : World} (hb : Below w2.heap.size w2 w0) (x y : PartT) (ty : TypeId) :
    ∃ a' c' w3, (Builtin.append_ #[34, 34] ty #[vu, .slice (some ⟨w0.heap.size, 0, none⟩) 2 2]).run Try.prog (w0.alloc (.cells #[x.val, y.val] 27)) = .ok (.slice a' (ys ++ [x, y]).length c') w3 ∧ OwnU w3 (.slice a' (ys ++ [x, y]).length c') (ys ++ [x, y]) ∧
      (w0.alloc (.cells #[x.val, y.val] 27)).grownBy w3 vu.ownBlock ∧ ((Value.slice a' (ys ++ [x, y]).length c').ownBlock = vu.ownBlock ∨ (Value.slice a' (ys ++ [x, y]).length c').ownBlock = some (w0.heap.size + 1)) ∧ w3.heap[g]? = w2.heap[g]? ∧ w0.heap[g]? = w2.heap[g]? := by
  have ho : OwnU w0 vu ys := ownsRow_same h.pn.un (fun k hk => hb.block k (h.pn.un.lt k hk))
  have hgl := h.pn.dom g h.pn.rg
  have hs := hb.size
  obtain ⟨a', c', w3, k1, k2, k3, k4⟩ := run_append_lists w0 vu ys ho x y (by omega) ty
  exact ⟨a', c', w3, k1, k2, k3, k4, (k3.block g (by simp; omega) (fun e => (h.pn.ru g e.symm).2 rfl)).trans ((Below.heap_alloc _ _ _ (by omega)).trans (hb.block g hgl)), hb.block g hgl⟩

set_option maxHeartbeats 8000000 in
theorem tell_none_any (h : PnM w R g p vu vg vb []) (b : Bool) : Calls Try.prog 14 #[.pointer (some ⟨g, 0, none⟩), .bool b] w (TellPost R g p b w) := by
  obtain ⟨c0, c1, c2, c3, cf⟩ := head4 h.head
  obtain ⟨a, cap, rfl, _, _⟩ := h.un.shape
  have er : p.rest = [] := by rw [← h.rest]; rfl
  have E := Lib.hid (show TellPost R g p b w (.returned (.int .i64 121)) w from ⟨by unfold tellN; rw [er]; rfl, by rw [(tell_none er b).1]; exact ⟨_, vg, vb, [], h.ext⟩, Keep.refl _ _⟩)
  clear h er
  simp only [List.length_nil] at c0
  go_enter Try.func14, Try.ntmps14
  go_wp2_with fail
  go_ret
  exact E.out

set_option maxHeartbeats 8000000 in
theorem tell_good_any (h : PnM w R g p vu vg vb (ys ++ [u])) (ok : OkH n p) (hn : n ≤ 1000) : Calls Try.prog 14 #[.pointer (some ⟨g, 0, none⟩), .bool true] w (TellPost R g p true w) := by
  obtain ⟨ag, cg, rfl⟩ := h.good.shape
  obtain ⟨ab, cb, rfl⟩ := h.bad.shape
  obtain ⟨c0, c1, c2, c3, cf⟩ := head4 h.head
  have HR := Lib.hid (rest_last h.rest)
  obtain ⟨b1, cap, rfl, hc, hb, d1⟩ := h.un.at ys.length (by simp)
  rw [List.getElem_append_right (by simp)] at d1
  simp only [Nat.sub_self, List.getElem_cons_zero, PartT.val] at d1
  rw [List.length_append, List.length_singleton] at c0 hc
  have hm : ys.length ≤ 1000 := by
    have h1 := ok.lists
    rw [HR.out] at h1
    simp at h1
    omega
  have HL := Lib.hid (show p.good.length ≤ 1000 ∧ p.bad.length ≤ 1000 ∧ u.l.length ≤ 1000 ∧ u.l ≠ [] ∧ p.tries + 1 ≤ 3000 by
    have h1 := ok.size
    have h2 := mem_flat (l := u.l) (r := p.rest) (by rw [HR.out]; simp)
    have h3 := ok.time
    exact ⟨by omega, by omega, by omega, ok.full u.l (by rw [HR.out]; simp), by omega⟩)
  have CD := Lib.hid (delete_any b1 cap ys u w (by have := h.un; rwa [List.length_append, List.length_singleton] at this) hm)
  have MID := Lib.hid (fun (w1 : World) (o1 : OwnU w1 (.slice (some ⟨b1, 0, none⟩) ys.length cap) ys) (g1 : w.grownBy w1 (some b1)) =>
    (show Mid w R g p (.slice (some ⟨b1, 0, none⟩) ys.length cap) _ _ ys u ((w1.setCell ⟨g, 0, none⟩ (.slice (some ⟨b1, 0, none⟩) ys.length cap)).setCell ⟨g, 3, none⟩ (.int .i64 ((p.tries : Int) + 1))) by
      have q := h.pop o1 rfl g1 _ rfl
      rw [Int.natCast_add] at q
      exact ⟨q.1, q.2.1, q.2.2⟩))
  have HG := Lib.hid (show ∀ w1, w.grownBy w1 (some b1) → w1.heap[g]? = some (.cells #[.slice (some ⟨b1, 0, none⟩) (ys.length + 1) cap, .slice ag p.good.length cg, .slice ab p.bad.length cb, .int .i64 (p.tries : Int)] 47 (0, 0)) from fun w1 g1 => by
    rw [g1.block g (h.dom g h.rg) (fun e => (h.ru g e.symm).2 rfl), h.head, List.length_append, List.length_singleton])
  have ht : p.tries + 1 ≤ 3000 := HL.out.2.2.2.2
  clear h ok cf
  generalize hM : ys.length = m at *
  have HM := Lib.hid hM
  clear hM
  have hw : IntKind.i64.wrap (m : Int) = (m : Int) := by rw [IntKind.wrap_i64]; omega
  have hw1 : IntKind.i64.wrap ((m : Int) + 1) = (m : Int) + 1 := by rw [IntKind.wrap_i64]; omega
  have hwt : IntKind.i64.wrap ((p.tries : Int) + 1) = (p.tries : Int) + 1 := by rw [IntKind.wrap_i64]; omega
  have hlt : (m : Int) < (m : Int) + 1 := by omega
  have hn0 : ¬ ((m : Int) < 0) := by omega
  obtain ⟨t, ht'⟩ : ∃ t : Nat, (p.tries : Int) = (t : Int) := ⟨_, rfl⟩
  rw [ht'] at c3 hwt
  simp only [ht'] at MID HG
  clear ht'
  go_enter Try.func14, Try.ntmps14
  go_wp2_with fail
  refine CD.out.mono ?_
  rintro e w1 ⟨he, o1, g1⟩
  rw [HM.out] at he o1
  subst he
  have HMid := Lib.hid (MID.out w1 o1 g1)
  obtain ⟨z0, z1, z2, z3, zf⟩ := head4 (HG.out w1 g1)
  obtain ⟨a3, n3, w3, r3, o3, g3, v3, e3⟩ := HMid.out.app (.inl ⟨rfl, rfl⟩) HL.out.1 HL.out.2.2.1 HL.out.2.2.2.1 27
  have hh := HMid.out.pn.head
  rw [← e3] at hh
  obtain ⟨_, y1, _, _, yf⟩ := head4 hh
  have FIN := Lib.hid (by have q := HMid.out.good HR.out o3 g3 v3 rfl; rwa [List.length_append] at q)
  have R3 := Lib.hid r3
  clear MID HG o1 g1 CD HMid o3 g3 v3 e3 hh r3
  go_wp2_with (at_builtin; go_must (refine Lib.wpList_append_run _ rfl _ _ 27 27 rfl _ _ rfl rfl _ _ R3.out ?_))
  go_wp2_with fail
  go_ret
  exact FIN.out

set_option maxHeartbeats 8000000 in
theorem tell_bad_any (h : PnM w R g p vu vg vb (ys ++ [u])) (ok : OkH n p) (hn : n ≤ 1000) (h1 : u.l.length = 1) : Calls Try.prog 14 #[.pointer (some ⟨g, 0, none⟩), .bool false] w (TellPost R g p false w) := by
  obtain ⟨ag, cg, rfl⟩ := h.good.shape
  obtain ⟨ab, cb, rfl⟩ := h.bad.shape
  obtain ⟨c0, c1, c2, c3, cf⟩ := head4 h.head
  have HR := Lib.hid (rest_last h.rest)
  obtain ⟨b1, cap, rfl, hc, hb, d1⟩ := h.un.at ys.length (by simp)
  rw [List.getElem_append_right (by simp)] at d1
  simp only [Nat.sub_self, List.getElem_cons_zero, PartT.val] at d1
  rw [List.length_append, List.length_singleton] at c0 hc
  have hm : ys.length ≤ 1000 := by
    have h1 := ok.lists
    rw [HR.out] at h1
    simp at h1
    omega
  have HL := Lib.hid (show p.good.length ≤ 1000 ∧ p.bad.length ≤ 1000 ∧ u.l.length ≤ 1000 ∧ u.l ≠ [] ∧ p.tries + 1 ≤ 3000 by
    have h1 := ok.size
    have h2 := mem_flat (l := u.l) (r := p.rest) (by rw [HR.out]; simp)
    have h3 := ok.time
    exact ⟨by omega, by omega, by omega, ok.full u.l (by rw [HR.out]; simp), by omega⟩)
  have CD := Lib.hid (delete_any b1 cap ys u w (by have := h.un; rwa [List.length_append, List.length_singleton] at this) hm)
  have MID := Lib.hid (fun (w1 : World) (o1 : OwnU w1 (.slice (some ⟨b1, 0, none⟩) ys.length cap) ys) (g1 : w.grownBy w1 (some b1)) =>
    (show Mid w R g p (.slice (some ⟨b1, 0, none⟩) ys.length cap) _ _ ys u ((w1.setCell ⟨g, 0, none⟩ (.slice (some ⟨b1, 0, none⟩) ys.length cap)).setCell ⟨g, 3, none⟩ (.int .i64 ((p.tries : Int) + 1))) by
      have q := h.pop o1 rfl g1 _ rfl
      rw [Int.natCast_add] at q
      exact ⟨q.1, q.2.1, q.2.2⟩))
  have HG := Lib.hid (show ∀ w1, w.grownBy w1 (some b1) → w1.heap[g]? = some (.cells #[.slice (some ⟨b1, 0, none⟩) (ys.length + 1) cap, .slice ag p.good.length cg, .slice ab p.bad.length cb, .int .i64 (p.tries : Int)] 47 (0, 0)) from fun w1 g1 => by
    rw [g1.block g (h.dom g h.rg) (fun e => (h.ru g e.symm).2 rfl), h.head, List.length_append, List.length_singleton])
  have ht : p.tries + 1 ≤ 3000 := HL.out.2.2.2.2
  clear h ok cf
  generalize hM : ys.length = m at *
  have HM := Lib.hid hM
  clear hM
  have hw : IntKind.i64.wrap (m : Int) = (m : Int) := by rw [IntKind.wrap_i64]; omega
  have hw1 : IntKind.i64.wrap ((m : Int) + 1) = (m : Int) + 1 := by rw [IntKind.wrap_i64]; omega
  have hwt : IntKind.i64.wrap ((p.tries : Int) + 1) = (p.tries : Int) + 1 := by rw [IntKind.wrap_i64]; omega
  have hlt : (m : Int) < (m : Int) + 1 := by omega
  have hn0 : ¬ ((m : Int) < 0) := by omega
  obtain ⟨t, ht'⟩ : ∃ t : Nat, (p.tries : Int) = (t : Int) := ⟨_, rfl⟩
  rw [ht'] at c3 hwt
  simp only [ht'] at MID HG
  clear ht'
  have HH1 := Lib.hid h1
  clear h1
  go_enter Try.func14, Try.ntmps14
  go_wp2_with fail
  refine CD.out.mono ?_
  rintro e w1 ⟨he, o1, g1⟩
  rw [HM.out] at he o1
  subst he
  have HMid := Lib.hid (MID.out w1 o1 g1)
  obtain ⟨z0, z1, z2, z3, zf⟩ := head4 (HG.out w1 g1)
  obtain ⟨a3, n3, w3, r3, o3, g3, v3, e3⟩ := HMid.out.app (.inr ⟨rfl, rfl⟩) HL.out.2.1 HL.out.2.2.1 HL.out.2.2.2.1 27
  have hh := HMid.out.pn.head
  rw [← e3] at hh
  obtain ⟨_, _, y1, _, yf⟩ := head4 hh
  have FIN := Lib.hid (by have q := HMid.out.bad HR.out HH1.out o3 g3 v3 rfl; rwa [List.length_append] at q)
  have hx : (((u.l.length : Nat) : Int) == 1) = true := by rw [HH1.out]; rfl
  have R3 := Lib.hid r3
  clear MID HG o1 g1 CD HMid o3 g3 v3 e3 hh r3
  go_wp2_with (at_builtin; go_must (refine Lib.wpList_append_run _ rfl _ _ 27 27 rfl _ _ rfl rfl _ _ R3.out ?_))
  go_wp2_with fail
  go_ret
  exact FIN.out

set_option maxHeartbeats 8000000 in
theorem tell_two_any (h : PnM w R g p vu vg vb (ys ++ [u])) (ok : OkH n p) (hn : n ≤ 1000) (h1 : ¬ u.l.length = 1) : Calls Try.prog 14 #[.pointer (some ⟨g, 0, none⟩), .bool false] w (TellPost R g p false w) := by
  obtain ⟨ag, cg, rfl⟩ := h.good.shape
  obtain ⟨ab, cb, rfl⟩ := h.bad.shape
  obtain ⟨c0, c1, c2, c3, cf⟩ := head4 h.head
  have HR := Lib.hid (rest_last h.rest)
  obtain ⟨b1, cap, rfl, hc, hb, d1⟩ := h.un.at ys.length (by simp)
  rw [List.getElem_append_right (by simp)] at d1
  simp only [Nat.sub_self, List.getElem_cons_zero, PartT.val] at d1
  rw [List.length_append, List.length_singleton] at c0 hc
  have hm : ys.length ≤ 1000 := by
    have h1 := ok.lists
    rw [HR.out] at h1
    simp at h1
    omega
  have HL := Lib.hid (show p.good.length ≤ 1000 ∧ p.bad.length ≤ 1000 ∧ u.l.length ≤ 1000 ∧ u.l ≠ [] ∧ p.tries + 1 ≤ 3000 by
    have h1 := ok.size
    have h2 := mem_flat (l := u.l) (r := p.rest) (by rw [HR.out]; simp)
    have h3 := ok.time
    exact ⟨by omega, by omega, by omega, ok.full u.l (by rw [HR.out]; simp), by omega⟩)
  have CD := Lib.hid (delete_any b1 cap ys u w (by have := h.un; rwa [List.length_append, List.length_singleton] at this) hm)
  have MID := Lib.hid (fun (w1 : World) (o1 : OwnU w1 (.slice (some ⟨b1, 0, none⟩) ys.length cap) ys) (g1 : w.grownBy w1 (some b1)) =>
    (show Mid w R g p (.slice (some ⟨b1, 0, none⟩) ys.length cap) _ _ ys u ((w1.setCell ⟨g, 0, none⟩ (.slice (some ⟨b1, 0, none⟩) ys.length cap)).setCell ⟨g, 3, none⟩ (.int .i64 ((p.tries : Int) + 1))) by
      have q := h.pop o1 rfl g1 _ rfl
      rw [Int.natCast_add] at q
      exact ⟨q.1, q.2.1, q.2.2⟩))
  have HG := Lib.hid (show ∀ w1, w.grownBy w1 (some b1) → w1.heap[g]? = some (.cells #[.slice (some ⟨b1, 0, none⟩) (ys.length + 1) cap, .slice ag p.good.length cg, .slice ab p.bad.length cb, .int .i64 (p.tries : Int)] 47 (0, 0)) from fun w1 g1 => by
    rw [g1.block g (h.dom g h.rg) (fun e => (h.ru g e.symm).2 rfl), h.head, List.length_append, List.length_singleton])
  have ht : p.tries + 1 ≤ 3000 := HL.out.2.2.2.2
  clear h ok cf
  generalize hM : ys.length = m at *
  have HM := Lib.hid hM
  clear hM
  have hw : IntKind.i64.wrap (m : Int) = (m : Int) := by rw [IntKind.wrap_i64]; omega
  have hw1 : IntKind.i64.wrap ((m : Int) + 1) = (m : Int) + 1 := by rw [IntKind.wrap_i64]; omega
  have hwt : IntKind.i64.wrap ((p.tries : Int) + 1) = (p.tries : Int) + 1 := by rw [IntKind.wrap_i64]; omega
  have hlt : (m : Int) < (m : Int) + 1 := by omega
  have hn0 : ¬ ((m : Int) < 0) := by omega
  obtain ⟨t, ht'⟩ : ∃ t : Nat, (p.tries : Int) = (t : Int) := ⟨_, rfl⟩
  rw [ht'] at c3 hwt
  simp only [ht'] at MID HG
  clear ht'
  have HH1 := Lib.hid h1
  clear h1
  go_enter Try.func14, Try.ntmps14
  go_wp2_with fail
  refine CD.out.mono ?_
  rintro e w1 ⟨he, o1, g1⟩
  rw [HM.out] at he o1
  subst he
  have HMid := Lib.hid (MID.out w1 o1 g1)
  obtain ⟨z0, z1, z2, z3, zf⟩ := head4 (HG.out w1 g1)
  have CS := Lib.hid (split_any u.a u.cap u.l _ HMid.out.st (by have := HL.out.2.2.1; omega))
  have hx : (((u.l.length : Nat) : Int) == 1) = false := by rw [beq_eq_false_iff_ne]; have := HH1.out; omega
  clear MID HG o1 g1 CD
  go_wp2_with fail
  refine CS.out.mono ?_
  rintro e w0 ⟨v1, v2, rfl, o1, o2, b0⟩
  obtain ⟨a1, c1', rfl⟩ := o1.shape
  obtain ⟨a2, c2', rfl⟩ := o2.shape
  obtain ⟨a3, n3, w3, r3, o3, g3, v3, e3, e4⟩ := HMid.out.push (by rw [HM.out]; exact hm) b0 ⟨a2, c2', halfB u.l⟩ ⟨a1, c1', halfA u.l⟩ 34
  have hh := HMid.out.pn.head
  have hh' := hh
  rw [← e3] at hh
  rw [← e4] at hh'
  obtain ⟨y0, _, _, _, yf⟩ := head4 hh
  obtain ⟨x0, _, _, _, xf⟩ := head4 hh'
  have FIN := Lib.hid (by have q := HMid.out.two HR.out HH1.out b0 (x := ⟨a2, c2', halfB u.l⟩) (y := ⟨a1, c1', halfA u.l⟩) rfl rfl o2 o1 o3 g3 v3 rfl; simpa only [List.length_append, List.length_cons, List.length_nil, Nat.zero_add, Nat.reduceAdd] using q)
  simp only [PartT.val] at r3
  have R3 := Lib.hid r3
  clear HMid o3 g3 v3 e3 e4 hh hh' o1 o2 b0 r3
  go_wp2_with (at_builtin; go_must (refine Lib.wpList_append_run _ rfl _ _ 34 34 rfl _ _ rfl rfl _ _ R3.out ?_))
  go_wp2_with fail
  go_ret
  exact FIN.out

theorem tell_any (h : PnM w R g p vu vg vb us) (ok : OkH n p) (hn : n ≤ 1000) (b : Bool) : Calls Try.prog 14 #[.pointer (some ⟨g, 0, none⟩), .bool b] w (TellPost R g p b w) := by
  rcases last_or us with rfl | ⟨ys, u, rfl⟩
  · exact tell_none_any h b
  · cases b with
    | true => exact tell_good_any h ok hn
    | false =>
      by_cases h1 : u.l.length = 1
      · exact tell_bad_any h ok hn h1
      · exact tell_two_any h ok hn h1
end

end Go.Proofs.Ytbhknaggbenfnaa
