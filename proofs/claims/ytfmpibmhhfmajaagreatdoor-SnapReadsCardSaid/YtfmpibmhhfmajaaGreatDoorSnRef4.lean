/- The document's bytes of a state. -/
import Derived.Test.YtfmpibmhhfmajaaGreatDoorSnRef3
import Derived.Test.YtfmpibmhhfmajaaGreatDoorPOr
import Derived.Test.YtfmpibmhhfmajaaGreatDoorPBt
import Derived.Test.YtfmpibmhhfmajaaGreatDoorPOb
namespace Go.Proofs.YtfmpibmhhfmajaaGreatDoor
set_option maxRecDepth 100000
open Go.RowKit Go.ChangeShapes Go.WideShapes Go.ChangeAt
attribute [local go_sem ↓] ldOr stOr alOr bxOr bdOr ldBa stBa alBa bxBa bdBa ldSt stSt alSt bxSt bdSt
attribute [local go_sem] al_or bx_or st_ornew bd_or al_ba bx_ba st_banew bd_ba al_sta bx_sta st_stnew bd_sta

/-- A state in its variable, the bytes so far. -/
structure SwI (w : World) (r : StR) (acc : List Nat) (v : Value) (W : World) : Prop where
  on : OnI w r W
  own : OwnB W (w.heap.size + 1) v acc
  few : w.heap.size + 1 ≤ W.heap.size
theorem SwI.below {w W W' : World} {r : StR} {acc : List Nat} {v : Value} (h : SwI w r acc v W) (b : Below W.heap.size W W') : SwI w r acc v W' := ⟨h.on.below b, h.own.below b, Nat.le_trans h.few b.size⟩
theorem SwI.laid {w W W' : World} {r : StR} {acc : List Nat} {v : Value} {o : Obj} (h : SwI w r acc v W) (b : Below (W.alloc o).heap.size (W.alloc o) W') : SwI w r acc v W' := (h.below ((Below.refl _ _).alloc (Nat.le_refl _) o)).below b
theorem SwI.put {w W W' : World} {r : StR} {acc acc' : List Nat} {v v' : Value} (h : SwI w r acc v W) (was : StP w r) (own : OwnB W' (w.heap.size + 1) v' acc') (g : W.grownBy W' v.ownBlock) : SwI w r acc' v' W' := by
  have hr := h.own.row
  have hl : Below w.heap.size w W' := h.on.low.grown g h.on.low.size (fun k hk => by have := hr k hk; omega)
  exact ⟨⟨(g.block _ h.on.one.lt (fun e => by have := hr _ e.symm; omega)).trans h.on.one, was.below hl, hl⟩, own, Nat.le_trans h.few g.size⟩
theorem linesL_len : ∀ (l : List Ln), (∀ x ∈ l, lineB x = true) → (linesL l).length ≤ 62 * l.length
  | [], _ => by simp [linesL]
  | x :: l, h => by
    obtain ⟨h0, h1, h2, h3, h4⟩ := lineB_of (h x (by simp))
    have h5 := linesL_len l (fun y hy => h y (by simp [hy]))
    have t1 := textL_32 (right_32 (s := x.sku) h0)
    have t2 := numL_ten (show x.qty.toNat < 18446744073709551616 by omega)
    have t3 := numL_ten (show x.wt.toNat < 18446744073709551616 by omega)
    rw [linesL_cons, List.length_append, List.length_cons, lineL, List.length_append, List.length_append]
    omega
theorem orderL_len {o : Od} (h : rightO o = true) : (orderL o).length ≤ 1000 := by
  obtain ⟨k1, k2, k3, r4, r5, r6⟩ := rightO_of h
  obtain ⟨k4, k5, k6⟩ := groupB_of k2
  obtain ⟨⟨_, k8⟩, k9, _⟩ := (rightLB_iff _).1 k3
  have t1 := textL_32 (right_32 k1)
  have t2 := textL_32 (right_32 k4)
  have t3 := textL_32 (right_32 k5)
  have t4 := textL_32 (right_32 k6)
  have t5 := linesL_len _ k9
  have t6 := numL_ten (show o.ls.length < 18446744073709551616 by omega)
  have t7 := numL_ten (show o.total.toNat < 18446744073709551616 by omega)
  have t8 := numL_ten (show o.phase.toNat < 18446744073709551616 by omega)
  have q5 := givenN_le o.given
  have t9 := numL_ten (show givenN o.given < 18446744073709551616 by omega)
  have t10 := numL_ten (show o.ref.toNat < 18446744073709551616 by omega)
  have t11 := numL_ten (show o.batch.toNat < 18446744073709551616 by omega)
  unfold orderL
  simp only [List.length_append]
  omega
theorem ordersL_drop (l : List OdR) (k : Nat) (h : k < l.length) : ordersL (odsOf (l.drop k)) = orderL l[k].o ++ ordersL (odsOf (l.drop (k + 1))) := by
  rw [List.drop_eq_getElem_cons h]
  exact ordersL_cons _ _
theorem batchesL_drop (l : List BtR) (k : Nat) (h : k < l.length) : batchesL (btsOf (l.drop k)) = batchL l[k].b ++ batchesL (btsOf (l.drop (k + 1))) := by
  rw [List.drop_eq_getElem_cons h]
  exact batchesL_cons _ _
end Go.Proofs.YtfmpibmhhfmajaaGreatDoor
