/- What SnapReads wants besides: MgState, MgStates, BkRead. -/
import Derived.Test.YtfmpibmhhfmajaaGreatDoorMgLines
import Derived.Test.YtfmpibmhhfmajaaGreatDoorMgOrders
import Derived.Test.YtfmpibmhhfmajaaGreatDoorMgBatches
import Derived.Test.YtfmpibmhhfmajaaGreatDoorMgEffects
import Derived.Test.YtfmpibmhhfmajaaGreatDoorPDy
import Derived.OwnWalk
import Derived.Deep.DeepCutAuto
import Derived.Test.YtfmpibmhhfmajaaGreatDoorMgState
import Derived.Test.YtfmpibmhhfmajaaGreatDoorRows
import Derived.OpenShut
import Derived.ChangeSlices
import Derived.Test.YtfmpibmhhfmajaaGreatDoorMgBase
import Derived.Test.YtfmpibmhhfmajaaGreatDoorPLb
import Derived.Test.YtfmpibmhhfmajaaGreatDoorLbShelf
import Derived.Test.YtfmpibmhhfmajaaGreatDoorPSl
import Derived.Test.YtfmpibmhhfmajaaGreatDoorDyShelf
import Derived.Test.YtfmpibmhhfmajaaGreatDoorMgStates
import Derived.Test.YtfmpibmhhfmajaaGreatDoorMgRight
import Derived.Test.YtfmpibmhhfmajaaGreatDoorMgProg
import Derived.Test.YtfmpibmhhfmajaaGreatDoorMgCopy
import Derived.Test.YtfmpibmhhfmajaaGreatDoorPSc
import Derived.Test.YtfmpibmhhfmajaaGreatDoorPOr
import Derived.Test.YtfmpibmhhfmajaaGreatDoorPBt
import Derived.Test.YtfmpibmhhfmajaaGreatDoorPOb
import Derived.Test.YtfmpibmhhfmajaaGreatDoorSnPlain
import Derived.Test.YtfmpibmhhfmajaaGreatDoorSnLay
import Derived.Test.YtfmpibmhhfmajaaGreatDoorSnPlain2
import Derived.Test.YtfmpibmhhfmajaaGreatDoorSnRef3
import Derived.Test.YtfmpibmhhfmajaaGreatDoorSnRef4
import Derived.Test.YtfmpibmhhfmajaaGreatDoorSnKinds
import Derived.Test.YtfmpibmhhfmajaaGreatDoorSnLines
import Derived.Test.YtfmpibmhhfmajaaGreatDoorSnTold
import Derived.Test.YtfmpibmhhfmajaaGreatDoorSnRight
import Derived.Test.YtfmpibmhhfmajaaGreatDoorSnCon
import Derived.Test.YtfmpibmhhfmajaaGreatDoorSnRow
import Derived.Test.YtfmpibmhhfmajaaGreatDoorSnOwn
import Derived.Test.YtfmpibmhhfmajaaGreatDoorSnRead0
import Derived.Test.YtfmpibmhhfmajaaGreatDoorSnReadP
import Derived.Test.YtfmpibmhhfmajaaGreatDoorSnReadP2
import Derived.Test.YtfmpibmhhfmajaaGreatDoorSnReadP3
import Derived.Test.YtfmpibmhhfmajaaGreatDoorSnReadD
import Derived.Test.YtfmpibmhhfmajaaGreatDoorSnCmd
import Derived.Test.YtfmpibmhhfmajaaGreatDoorSnState
import Derived.Test.YtfmpibmhhfmajaaGreatDoorSnAlive
import Derived.Test.YtfmpibmhhfmajaaGreatDoorRSnapReadsA
namespace Go.Proofs.YtfmpibmhhfmajaaGreatDoor

/- MgState: States, as the document tells them. -/
section
/- StPlain: Plain facts on all that a desk knows: what is there, whether it hangs together. -/
section
set_option maxRecDepth 100000

theorem countP_drop {α : Type} (P : α → Bool) (l : List α) (k : Nat) (h : k < l.length) : (l.take (k + 1)).countP P = (l.take k).countP P + (if P l[k] then 1 else 0) := by
  rw [List.take_succ_eq_append_getElem h, List.countP_append]
  simp [List.countP_cons]
end

/- StLay: Orders, batches and states as values: how they lie, whole loads, stores and new variables told at once. -/
section
set_option maxRecDepth 100000
open Go.RowKit Go.ChangeShapes Go.WideShapes Go.ChangeAt

section
variable (ev : Operand → Value) (d : Option Tmp) (ty : TypeId) (pos : String) (af : Array Edge) (gd : Option (Nat × Bool)) (w : World)
end

end

/- StRef: What the document's Order, Batch and Weight of layer 15 answer. -/
section
set_option maxRecDepth 100000
open Go.RowKit Go.ChangeShapes Go.WideShapes Go.ChangeAt
attribute [local go_sem ↓] ldOr stOr alOr bxOr bdOr ldBa stBa alBa bxBa bdBa ldSt stSt alSt bxSt bdSt
attribute [local go_sem] al_or bx_or st_ornew bd_or al_ba bx_ba st_banew bd_ba al_sta bx_sta st_stnew bd_sta

/-- An order and whether it is there. -/
def OrdOut (q : Option Od) (w : World) (e : Ending) (w' : World) : Prop := ∃ x : OdR, e = .returned (.tuple #[orV x, .bool q.isSome]) ∧ x.o = q.getD noOd ∧ OdP w' x.a x.c x.o ∧ Below w.heap.size w w'
def BatOut (q : Option Bt) (w : World) (e : Ending) (w' : World) : Prop := ∃ x : BtR, e = .returned (.tuple #[baV x, .bool q.isSome]) ∧ x.b = q.getD noBt ∧ BtP w' x.a x.c x.b ∧ Below w.heap.size w w'

set_option maxHeartbeats 4000000 in
theorem refOrder_any (r : StR) (id : ByteArray) (w : World) (h : StP w r) : Calls Tryz.prog 113 #[stV r, .string id] w (OrdOut (findO (odsOf r.ords) id) w) := by
  have I := Lib.hid (FoI.begin w r h 93 (orC noOdR))
  have hl := h.ords.sl.len
  have H := Lib.hid h
  have c9 := I.out.box.st.2.2.2.2.1
  unfold maxLen at hl
  clear h
  go_enter Tryz.func113, Tryz.ntmps113
  go_wp2_with fail
  generalize (w.alloc (.cells (stC r) 37)).alloc (.cells (orC noOdR) 93) = W0 at *
  clear c9
  go_loopw [11] (fun i wr => ∃ (k : Nat), k ≤ r.ords.length ∧ i = .int .i64 k ∧ Hid (findO (odsOf r.ords) id = findO (odsOf (r.ords.drop k)) id) ∧ Hid (FoI w r 93 (orC noOdR) wr)) (fun i _ => r.ords.length - (intOf i).toNat)
  case atStart => exact ⟨0, Nat.zero_le _, rfl, Lib.hid rfl, I⟩
  case round =>
    obtain ⟨k, hk, rfl, HF, HI⟩ := hrel
    by_cases hlt : k < r.ords.length
    · obtain ⟨b, o, e, hb, _, ld, _⟩ := HI.out.st.ords.ld k hlt
      have p1 := HI.out.st.ords.sl.cap
      have HD := Lib.hid (findO_drop r.ords id k hlt)
      have HP := Lib.hid (H.out.ords.each _ (List.getElem_mem hlt))
      rw [e]
      clear e
      generalize r.ords[k] = x at *
      have R := Lib.hid (Row.new wr (orC x) 93)
      have J := Lib.hid (HI.out.more (.cells (orC x) 93))
      have ld2 := ld_or R.out
      have c0 := R.out.o.1.1
      have st := st_or J.out.res x
      cases hx : (x.o.id.toList == id.toList) with
      | true =>
        have HE := Lib.hid (show findO (odsOf r.ords) id = some x.o by rw [HF.out, HD.out, hx]; rfl)
        go_wp2_with fail
        (try simp only [Exit.inBlock, Exit.then])
        apply bodyPost_ret
        case hd => rfl
        case hr => exact results_cell_one rfl _ _ (w.heap.size + 1) _ rfl (load10 (setRow_heap _ _ _ _ _ _ J.out.res))
        case hR => exact ⟨x, by rw [HE.out]; rfl, by rw [HE.out]; rfl, HP.out.below (J.out.done _), J.out.done _⟩
      | false =>
        have HN := Lib.hid (show findO (odsOf r.ords) id = findO (odsOf (r.ords.drop (k + 1))) id by rw [HF.out, HD.out, hx]; rfl)
        clear st
        go_wp2_with fail
        go_roundw
        case rel => exact ⟨k + 1, by omega, by go_num, HN, J⟩
        case measure => simp [intOf]; omega
    · have HE := Lib.hid (show findO (odsOf r.ords) id = none by rw [HF.out, List.drop_eq_nil_of_le (by omega)]; rfl)
      have st := st_or HI.out.res noOdR
      go_wp2_with fail
      (try simp only [Exit.inBlock, Exit.then])
      apply bodyPost_ret
      case hd => rfl
      case hr => exact results_cell_one rfl _ _ (w.heap.size + 1) _ rfl (load10 (setRow_heap _ _ _ _ _ _ HI.out.res))
      case hR => exact ⟨noOdR, by rw [HE.out]; rfl, by rw [HE.out]; rfl, OdP.none _ _ _, HI.out.done _⟩

set_option maxHeartbeats 4000000 in
theorem refBatch_any (r : StR) (id : Int) (w : World) (h : StP w r) : Calls Tryz.prog 61 #[stV r, .int .i64 id] w (BatOut (findB (btsOf r.bats) id) w) := by
  have I := Lib.hid (FoI.begin w r h 98 (baC noBtR))
  have hl := h.bats.sl.len
  have H := Lib.hid h
  have c9 := I.out.box.st.2.2.2.2.2.1
  unfold maxLen at hl
  clear h
  go_enter Tryz.func61, Tryz.ntmps61
  go_wp2_with fail
  generalize (w.alloc (.cells (stC r) 37)).alloc (.cells (baC noBtR) 98) = W0 at *
  clear c9
  go_loopw [11] (fun i wr => ∃ (k : Nat), k ≤ r.bats.length ∧ i = .int .i64 k ∧ Hid (findB (btsOf r.bats) id = findB (btsOf (r.bats.drop k)) id) ∧ Hid (FoI w r 98 (baC noBtR) wr)) (fun i _ => r.bats.length - (intOf i).toNat)
  case atStart => exact ⟨0, Nat.zero_le _, rfl, Lib.hid rfl, I⟩
  case round =>
    obtain ⟨k, hk, rfl, HF, HI⟩ := hrel
    by_cases hlt : k < r.bats.length
    · obtain ⟨b, o, e, hb, _, ld, _⟩ := HI.out.st.bats.ld k hlt
      have p1 := HI.out.st.bats.sl.cap
      have HD := Lib.hid (findB_drop r.bats id k hlt)
      have HP := Lib.hid (H.out.bats.each _ (List.getElem_mem hlt))
      rw [e]
      clear e
      generalize r.bats[k] = x at *
      have R := Lib.hid (Row.new wr (baC x) 98)
      have J := Lib.hid (HI.out.more (.cells (baC x) 98))
      have ld2 := ld_ba R.out
      have c0 := R.out.b.1.1
      have st := st_ba J.out.res x
      cases hx : (x.b.id == id) with
      | true =>
        have HE := Lib.hid (show findB (btsOf r.bats) id = some x.b by rw [HF.out, HD.out, hx]; rfl)
        go_wp2_with fail
        (try simp only [Exit.inBlock, Exit.then])
        apply bodyPost_ret
        case hd => rfl
        case hr => exact results_cell_one rfl _ _ (w.heap.size + 1) _ rfl (load9B (setRow_heap _ _ _ _ _ _ J.out.res))
        case hR => exact ⟨x, by rw [HE.out]; rfl, by rw [HE.out]; rfl, HP.out.below (J.out.done _), J.out.done _⟩
      | false =>
        have HN := Lib.hid (show findB (btsOf r.bats) id = findB (btsOf (r.bats.drop (k + 1))) id by rw [HF.out, HD.out, hx]; rfl)
        clear st
        go_wp2_with fail
        go_roundw
        case rel => exact ⟨k + 1, by omega, by go_num, HN, J⟩
        case measure => simp [intOf]; omega
    · have HE := Lib.hid (show findB (btsOf r.bats) id = none by rw [HF.out, List.drop_eq_nil_of_le (by omega)]; rfl)
      have st := st_ba HI.out.res noBtR
      go_wp2_with fail
      (try simp only [Exit.inBlock, Exit.then])
      apply bodyPost_ret
      case hd => rfl
      case hr => exact results_cell_one rfl _ _ (w.heap.size + 1) _ rfl (load9B (setRow_heap _ _ _ _ _ _ HI.out.res))
      case hR => exact ⟨noBtR, by rw [HE.out]; rfl, by rw [HE.out]; rfl, BtP.none _ _ _, HI.out.done _⟩

set_option maxHeartbeats 4000000 in
theorem refWeighS_any (r : StR) (a : Option Addr) (cap : Nat) (ids : List ByteArray) (w : World) (h : StP w r) (hs : StrsP w a cap ids) (hm : ids.length ≤ 1000000) : Calls Tryz.prog 112 #[stV r, .slice a ids.length cap] w (NumP (weighS (odsOf r.ords) ids) w) := by
  have CO := Lib.hid (fun id W hW => refOrder_any r id W hW)
  have CW := Lib.hid (fun a cap l W hW hm => refWeight_any a cap l W hW hm)
  have I := Lib.hid (And.intro (Row.new w (stC r) 37) ((Below.refl w.heap.size w).alloc (Nat.le_refl _) (.cells (stC r) 37)))
  have H := Lib.hid h
  have S := Lib.hid hs
  have p1 := hs.cap
  clear h hs
  go_enter Tryz.func112, Tryz.ntmps112
  go_wp2_with fail
  generalize w.alloc (.cells (stC r) 37) = W0 at *
  go_loopw [5, 12] (fun s i wr => ∃ (k : Nat), k ≤ ids.length ∧ i = .int .i64 k ∧ s = .int .i64 (weighS (odsOf r.ords) (ids.take k)) ∧ Hid (Row wr w.heap.size 37 (stC r) ∧ Below w.heap.size w wr)) (fun _ i _ => ids.length - (intOf i).toNat)
  case atStart => exact ⟨0, Nat.zero_le _, rfl, rfl, I⟩
  case round =>
    obtain ⟨k, hk, rfl, rfl, HI⟩ := hrel
    by_cases hlt : k < ids.length
    · obtain ⟨b, o, e, hb, c0⟩ := (S.out.below HI.out.2).at k hlt
      rw [e]
      clear e
      have HT := Lib.hid (weighS_take (odsOf r.ords) ids k hlt)
      have hb1 := weighS_bound (odsOf r.ords) (ids.take k)
      have hb2 := weightV_bound (orderV (odsOf r.ords) ids[k]).ls
      have hlen : (ids.take k).length ≤ 1000000 := by rw [List.length_take]; omega
      have q1 : 0 ≤ weighS (odsOf r.ords) (ids.take k) := hb1.1
      have q2 : weighS (odsOf r.ords) (ids.take k) ≤ 800000000000000 := by omega
      have ld := ld_sta HI.out.1
      have CO1 := Lib.hid (CO.out ids[k] wr (H.out.below HI.out.2))
      clear hb1 hlen
      generalize ids[k] = id at *
      generalize weighS (odsOf r.ords) (ids.take k) = s at *
      go_wp2_with fail
      refine CO1.out.mono ?_
      rintro x w1 ⟨x, rfl, hx, hP, b1⟩
      have B1 := HI.out.2.trans (b1.mono HI.out.2.size)
      have R := Lib.hid (Row.new w1 (orC x) 93)
      have B2 := Lib.hid (B1.alloc B1.size (.cells (orC x) 93))
      have I2 := Lib.hid (((HI.out.1.below b1).more (.cells (orC x) 93)))
      have c1 := R.out.o.1.2.1
      have CW1 := Lib.hid (CW.out x.a x.c x.o.ls (w1.alloc (.cells (orC x) 93)) (hP.lns.below ((Below.refl _ _).alloc (Nat.le_refl _) _)) hP.len)
      have hv : weightV x.o.ls = weightV (orderV (odsOf r.ords) id).ls := by rw [hx]; rfl
      rw [hv] at CW1
      clear hx hv B1 b1 hP CO1
      generalize weightV (orderV (odsOf r.ords) id).ls = v at *
      go_wp2_with fail
      refine CW1.out.mono ?_
      rintro e w2 ⟨rfl, b2⟩
      have J := Lib.hid (And.intro (I2.out.below b2) (B2.out.trans (b2.mono B2.out.size)))
      clear b2 I2 B2 CW1 c1 R
      go_wp2_with fail
      go_roundw
      case rel => exact ⟨k + 1, by omega, by go_num, by rw [HT.out], J⟩
      case measure => simp [intOf]; omega
    · have HT := Lib.hid (show weighS (odsOf r.ords) (ids.take k) = weighS (odsOf r.ords) ids by rw [List.take_of_length_le (by omega)])
      go_wp2_with fail
      go_ret
      exact ⟨by rw [← HT.out]; rfl, HI.out.2⟩
end

/- StEq: Groups and caps held against each other. -/
section
set_option maxRecDepth 100000
open Go.RowKit Go.ChangeShapes Go.WideShapes Go.ChangeAt

section
variable (ev : Operand → Value) (d : Option Tmp) (ty : TypeId) (pos : String) (af : Array Edge) (gd : Option (Nat × Bool)) (w : World)
end
end

/- StRef2: What the document's Inside, asks and batchOk of layer 15 answer. -/
section
set_option maxRecDepth 100000
open Go.RowKit Go.ChangeShapes Go.WideShapes Go.ChangeAt
attribute [local go_sem ↓] ldOr stOr alOr bxOr bdOr ldBa stBa alBa bxBa bdBa ldSt stSt alSt bxSt bdSt ldEf stEf alEf bxEf eqEf bdEf bsEf ldGr bxGr eqGr
attribute [local go_sem] al_or bx_or st_ornew bd_or al_ba bx_ba st_banew bd_ba al_sta bx_sta st_stnew bd_sta al_ef bx_ef st_new bd_ef bs_ef bs_ef0 bx_gr ne_gr

theorem tab_one (W : World) : (Instr.index 182 (.agg #[.int .i64 0, .int .i64 0, .int .i64 0, .int .i64 0, .int .i64 3, .int .i64 4, .int .i64 0, .int .i64 5, .int .i64 6]) (.int .i64 1)).run Tryz.prog W = .ok (.agg #[.int .i64 0, .int .i64 3, .int .i64 4]) W := by kernel_rfl
theorem tab_two (W : World) : (Instr.index 182 (.agg #[.int .i64 0, .int .i64 0, .int .i64 0, .int .i64 0, .int .i64 3, .int .i64 4, .int .i64 0, .int .i64 5, .int .i64 6]) (.int .i64 2)).run Tryz.prog W = .ok (.agg #[.int .i64 0, .int .i64 5, .int .i64 6]) W := by kernel_rfl
theorem row_a1 (W : World) : (Instr.index 181 (.agg #[.int .i64 0, .int .i64 3, .int .i64 4]) (.int .i64 1)).run Tryz.prog W = .ok (.int .i64 3) W := by kernel_rfl
theorem row_a2 (W : World) : (Instr.index 181 (.agg #[.int .i64 0, .int .i64 3, .int .i64 4]) (.int .i64 2)).run Tryz.prog W = .ok (.int .i64 4) W := by kernel_rfl
theorem row_b1 (W : World) : (Instr.index 181 (.agg #[.int .i64 0, .int .i64 5, .int .i64 6]) (.int .i64 1)).run Tryz.prog W = .ok (.int .i64 5) W := by kernel_rfl
theorem row_b2 (W : World) : (Instr.index 181 (.agg #[.int .i64 0, .int .i64 5, .int .i64 6]) (.int .i64 2)).run Tryz.prog W = .ok (.int .i64 6) W := by kernel_rfl
set_option maxHeartbeats 4000000 in
theorem inside_any (r : BtR) (w : World) (hk : r.b.kind = 1 ∨ r.b.kind = 2) (hp : r.b.phase = 1 ∨ r.b.phase = 2) : Calls Tryz.prog 114 #[baV r] w (NumP (insideN r.b.kind r.b.phase) w) := by
  have R := Lib.hid (Row.new w (baC r) 98)
  have B := Lib.hid ((Below.refl w.heap.size w).alloc (Nat.le_refl _) (.cells (baC r) 98))
  have c3 := R.out.b.1.2.2.2.1
  have c4 := R.out.b.1.2.2.2.2
  rcases hk with hk | hk <;> rcases hp with hp | hp
  all_goals
    rw [hk] at c3
    rw [hp] at c4
    have HE := Lib.hid (show insideN r.b.kind r.b.phase = _ by rw [hk, hp])
    clear hk hp
    have t1 := tab_one
    have t2 := tab_two
    have t3 := row_a1
    have t4 := row_a2
    have t5 := row_b1
    have t6 := row_b2
    go_enter Tryz.func114, Tryz.ntmps114
    go_wp2_with fail
    go_region
    go_wp2_with fail
    go_ret
    exact ⟨by rw [HE.out]; rfl, by first | exact B.out | exact B.out.drew⟩

theorem askN_take (l : List Ef) (kind : Int) (id : ByteArray) (batch : Int) (k : Nat) (h : k < l.length) : askN (l.take (k + 1)) kind id batch = askN (l.take k) kind id batch + (if askP kind id batch l[k] then 1 else 0) := countP_drop _ l k h
theorem askN_le (l : List Ef) (kind : Int) (id : ByteArray) (batch : Int) : askN l kind id batch ≤ l.length := List.countP_le_length

set_option maxHeartbeats 4000000 in
theorem asks15_any (r : StR) (kind : Int) (id : ByteArray) (batch : Int) (w : World) (h : StP w r) : Calls Tryz.prog 116 #[stV r, .int .i64 kind, .string id, .int .i64 batch] w (NumP (askN r.effs kind id batch : Nat) w) := by
  have I := Lib.hid (And.intro (Row.new w (stC r) 37) ((Below.refl w.heap.size w).alloc (Nat.le_refl _) (.cells (stC r) 37)))
  have H := Lib.hid h
  have hl := h.effs.sl.len
  have p1 := h.effs.sl.cap
  have c11 := I.out.1.st.2.2.2.2.2.2
  unfold maxLen at hl
  clear h
  go_enter Tryz.func116, Tryz.ntmps116
  go_wp2_with fail
  generalize w.alloc (.cells (stC r) 37) = W0 at *
  clear c11
  go_loopw [9, 15] (fun s i wr => ∃ (k : Nat), k ≤ r.effs.length ∧ i = .int .i64 k ∧ s = .int .i64 (askN (r.effs.take k) kind id batch : Nat) ∧ Hid (Below w.heap.size w wr)) (fun _ i _ => r.effs.length - (intOf i).toNat)
  case atStart => exact ⟨0, Nat.zero_le _, rfl, rfl, Lib.hid I.out.2⟩
  case round =>
    obtain ⟨k, hk, rfl, rfl, HI⟩ := hrel
    by_cases hlt : k < r.effs.length
    · obtain ⟨b, o, e, hb, ld, _⟩ := (H.out.effs.below HI.out).ld k hlt
      rw [e]
      clear e
      have HT := Lib.hid (askN_take r.effs kind id batch k hlt)
      have hn : askN (r.effs.take k) kind id batch ≤ k := by have := askN_le (r.effs.take k) kind id batch; rw [List.length_take] at this; omega
      generalize r.effs[k] = x at *
      generalize askN (r.effs.take k) kind id batch = n at *
      have R := Lib.hid (Row.new wr (efC x) 138)
      have J := Lib.hid (HI.out.alloc HI.out.size (.cells (efC x) 138))
      obtain ⟨⟨_, d1, _⟩, d3, _, d5⟩ := R.out.e
      cases k1 : (x.kind == kind) with
      | false =>
        have HN := Lib.hid (show askN (r.effs.take (k + 1)) kind id batch = n by rw [HT.out]; simp [askP, k1])
        go_wp2_with fail
        go_roundw
        case rel => exact ⟨k + 1, by omega, by go_num, by rw [HN.out], J⟩
        case measure => simp [intOf]; omega
      | true =>
        cases k2 : (x.order.toList == id.toList) with
        | false =>
          have HN := Lib.hid (show askN (r.effs.take (k + 1)) kind id batch = n by rw [HT.out]; simp [askP, k1, k2])
          go_wp2_with fail
          go_roundw
          case rel => exact ⟨k + 1, by omega, by go_num, by rw [HN.out], J⟩
          case measure => simp [intOf]; omega
        | true =>
          cases k3 : (x.batch == batch) with
          | false =>
            have HN := Lib.hid (show askN (r.effs.take (k + 1)) kind id batch = n by rw [HT.out]; simp [askP, k1, k2, k3])
            go_wp2_with fail
            go_roundw
            case rel => exact ⟨k + 1, by omega, by go_num, by rw [HN.out], J⟩
            case measure => simp [intOf]; omega
          | true =>
            have HN := Lib.hid (show askN (r.effs.take (k + 1)) kind id batch = n + 1 by rw [HT.out]; simp [askP, k1, k2, k3])
            go_wp2_with fail
            go_roundw
            case rel => exact ⟨k + 1, by omega, by go_num, by rw [HN.out]; go_num, J⟩
            case measure => simp [intOf]; omega
    · have HT := Lib.hid (show askN (r.effs.take k) kind id batch = askN r.effs kind id batch by rw [List.take_of_length_le (by omega)])
      go_wp2_with fail
      go_ret
      exact ⟨by rw [← HT.out]; rfl, HI.out⟩
end

/- StRef3: What the document's batchOk of layer 15 answers. -/
section
set_option maxRecDepth 100000
open Go.RowKit Go.ChangeShapes Go.WideShapes Go.ChangeAt
attribute [local go_sem ↓] ldOr stOr alOr bxOr bdOr ldBa stBa alBa bxBa bdBa ldSt stSt alSt bxSt bdSt ldEf stEf alEf bxEf eqEf bdEf bsEf ldGr bxGr eqGr
attribute [local go_sem] al_or bx_or st_ornew bd_or al_ba bx_ba st_banew bd_ba al_sta bx_sta st_stnew bd_sta al_ef bx_ef st_new bd_ef bs_ef bs_ef0 bx_gr ne_gr

set_option maxHeartbeats 8000000 in
theorem batchOk_any (r : StR) (x : BtR) (w : World) (h : StP w r) (hx : BtP w x.a x.c x.b) : Calls Tryz.prog 60 #[stV r, baV x] w (Tell (batchOk (odsOf r.ords) r.nb x.b) w) := by
  have I := Lib.hid (BkI.begin w r x h hx)
  have HE := Lib.hid (show batchOk (odsOf r.ords) r.nb x.b = (rightBt x.b && (x.b.phase != 3 && (decide (x.b.mem.length ≠ 0) && (decide (x.b.id < r.nb) && ((weighS (odsOf r.ords) x.b.mem == x.b.wt) && x.b.mem.all (memOk (odsOf r.ords) x.b)))))) from rfl)
  have HM := Lib.hid hx.mem
  have HS := Lib.hid h
  clear h hx
  cases k1 : rightBt x.b with
  | false =>
    go_enter Tryz.func60, Tryz.ntmps60
    go_wp2_with fail
    generalize (w.alloc (.cells (stC r) 37)).alloc (.cells (baC x) 98) = W at *
    have f1 : ∀ p : Far W, LdX 98 (.pointer (some ⟨w.heap.size + 1, 0, none⟩)) (farOf W p) = .ok (.value (baV x)) (farOf W p) := fun p => ld_ba (I.out.below (far_below W p)).two
    have f2 : ∀ p : Far W, LdX 37 (.pointer (some ⟨w.heap.size, 0, none⟩)) (farOf W p) = .ok (.value (stV r)) (farOf W p) := fun p => ld_sta (I.out.below (far_below W p)).one
    have g0 := fun p : Far W => (I.out.below (far_below W p)).two.b.1.1
    have g1 := fun p : Far W => (I.out.below (far_below W p)).two.b.1.2.1
    have g4 := fun p : Far W => (I.out.below (far_below W p)).two.b.1.2.2.2.2
    have g8 := fun p : Far W => (I.out.below (far_below W p)).two.b.2.2.2.2
    have g7 := fun p : Far W => (I.out.below (far_below W p)).one.st.2.2.1
    have C1 := Lib.hid (fun p : Far W => refBtRight_any x.a x.c x.b _ (I.out.below (far_below W p)).bt)
    try rw [k1] at C1
    refine wp_region_far (by kernel_rfl) (by kernel_rfl) ?_
    repeat (first | go_big_quiet_step (first | (go_at_call 111; exact calls_far (C1.out _))) | quiet_step (first | (go_at_call 111; exact calls_far (C1.out _))))
    refine wpQuiet_nil ?_
    intro _ hw'
    obtain ⟨p, hw''⟩ := hw'
    subst hw''
    have B4 := Lib.hid (I.out.below (far_below W p)).low
    clear f1 f2 g0 g1 g4 g8 g7 C1
    go_wp2_with fail
    go_ret
    exact ⟨by rw [HE.out]; simp only [k1, Bool.false_and]; try rfl, B4.out⟩
  | true =>
    have HK := Lib.hid (rightBt_kind k1)
    cases k2 : (x.b.phase == 3) with
    | true =>
      have k2d : (x.b.phase != 3) = false := by simp only [bne, k2]; rfl
      go_enter Tryz.func60, Tryz.ntmps60
      go_wp2_with fail
      generalize (w.alloc (.cells (stC r) 37)).alloc (.cells (baC x) 98) = W at *
      have f1 : ∀ p : Far W, LdX 98 (.pointer (some ⟨w.heap.size + 1, 0, none⟩)) (farOf W p) = .ok (.value (baV x)) (farOf W p) := fun p => ld_ba (I.out.below (far_below W p)).two
      have f2 : ∀ p : Far W, LdX 37 (.pointer (some ⟨w.heap.size, 0, none⟩)) (farOf W p) = .ok (.value (stV r)) (farOf W p) := fun p => ld_sta (I.out.below (far_below W p)).one
      have g0 := fun p : Far W => (I.out.below (far_below W p)).two.b.1.1
      have g1 := fun p : Far W => (I.out.below (far_below W p)).two.b.1.2.1
      have g4 := fun p : Far W => (I.out.below (far_below W p)).two.b.1.2.2.2.2
      have g8 := fun p : Far W => (I.out.below (far_below W p)).two.b.2.2.2.2
      have g7 := fun p : Far W => (I.out.below (far_below W p)).one.st.2.2.1
      have C1 := Lib.hid (fun p : Far W => refBtRight_any x.a x.c x.b _ (I.out.below (far_below W p)).bt)
      try rw [k1] at C1
      refine wp_region_far (by kernel_rfl) (by kernel_rfl) ?_
      repeat (first | go_big_quiet_step (first | (go_at_call 111; exact calls_far (C1.out _))) | quiet_step (first | (go_at_call 111; exact calls_far (C1.out _))))
      refine wpQuiet_nil ?_
      intro _ hw'
      obtain ⟨p, hw''⟩ := hw'
      subst hw''
      have B4 := Lib.hid (I.out.below (far_below W p)).low
      clear f1 f2 g0 g1 g4 g8 g7 C1
      go_wp2_with fail
      go_ret
      exact ⟨by rw [HE.out]; simp only [k1, k2d, Bool.false_and, Bool.and_false]; try rfl, B4.out⟩
    | false =>
      have k2d : (x.b.phase != 3) = true := by simp only [bne, k2]; rfl
      cases k3 : ((x.b.mem.length : Int) == 0) with
      | true =>
        have k3d : decide (x.b.mem.length ≠ 0) = false := by have : x.b.mem.length = 0 := (by simpa using k3); simp [this]
        go_enter Tryz.func60, Tryz.ntmps60
        go_wp2_with fail
        generalize (w.alloc (.cells (stC r) 37)).alloc (.cells (baC x) 98) = W at *
        have f1 : ∀ p : Far W, LdX 98 (.pointer (some ⟨w.heap.size + 1, 0, none⟩)) (farOf W p) = .ok (.value (baV x)) (farOf W p) := fun p => ld_ba (I.out.below (far_below W p)).two
        have f2 : ∀ p : Far W, LdX 37 (.pointer (some ⟨w.heap.size, 0, none⟩)) (farOf W p) = .ok (.value (stV r)) (farOf W p) := fun p => ld_sta (I.out.below (far_below W p)).one
        have g0 := fun p : Far W => (I.out.below (far_below W p)).two.b.1.1
        have g1 := fun p : Far W => (I.out.below (far_below W p)).two.b.1.2.1
        have g4 := fun p : Far W => (I.out.below (far_below W p)).two.b.1.2.2.2.2
        have g8 := fun p : Far W => (I.out.below (far_below W p)).two.b.2.2.2.2
        have g7 := fun p : Far W => (I.out.below (far_below W p)).one.st.2.2.1
        have C1 := Lib.hid (fun p : Far W => refBtRight_any x.a x.c x.b _ (I.out.below (far_below W p)).bt)
        try rw [k1] at C1
        refine wp_region_far (by kernel_rfl) (by kernel_rfl) ?_
        repeat (first | go_big_quiet_step (first | (go_at_call 111; exact calls_far (C1.out _))) | quiet_step (first | (go_at_call 111; exact calls_far (C1.out _))))
        refine wpQuiet_nil ?_
        intro _ hw'
        obtain ⟨p, hw''⟩ := hw'
        subst hw''
        have B4 := Lib.hid (I.out.below (far_below W p)).low
        clear f1 f2 g0 g1 g4 g8 g7 C1
        go_wp2_with fail
        go_ret
        exact ⟨by rw [HE.out]; simp only [k1, k2d, k3d, Bool.false_and, Bool.and_false]; try rfl, B4.out⟩
      | false =>
        have k3d : decide (x.b.mem.length ≠ 0) = true := by simpa using k3
        cases k4 : decide (r.nb ≤ x.b.id) with
        | true =>
          have k4d : decide (x.b.id < r.nb) = false := by simp at k4 ⊢; omega
          go_enter Tryz.func60, Tryz.ntmps60
          go_wp2_with fail
          generalize (w.alloc (.cells (stC r) 37)).alloc (.cells (baC x) 98) = W at *
          have f1 : ∀ p : Far W, LdX 98 (.pointer (some ⟨w.heap.size + 1, 0, none⟩)) (farOf W p) = .ok (.value (baV x)) (farOf W p) := fun p => ld_ba (I.out.below (far_below W p)).two
          have f2 : ∀ p : Far W, LdX 37 (.pointer (some ⟨w.heap.size, 0, none⟩)) (farOf W p) = .ok (.value (stV r)) (farOf W p) := fun p => ld_sta (I.out.below (far_below W p)).one
          have g0 := fun p : Far W => (I.out.below (far_below W p)).two.b.1.1
          have g1 := fun p : Far W => (I.out.below (far_below W p)).two.b.1.2.1
          have g4 := fun p : Far W => (I.out.below (far_below W p)).two.b.1.2.2.2.2
          have g8 := fun p : Far W => (I.out.below (far_below W p)).two.b.2.2.2.2
          have g7 := fun p : Far W => (I.out.below (far_below W p)).one.st.2.2.1
          have C1 := Lib.hid (fun p : Far W => refBtRight_any x.a x.c x.b _ (I.out.below (far_below W p)).bt)
          try rw [k1] at C1
          refine wp_region_far (by kernel_rfl) (by kernel_rfl) ?_
          repeat (first | go_big_quiet_step (first | (go_at_call 111; exact calls_far (C1.out _))) | quiet_step (first | (go_at_call 111; exact calls_far (C1.out _))))
          refine wpQuiet_nil ?_
          intro _ hw'
          obtain ⟨p, hw''⟩ := hw'
          subst hw''
          have B4 := Lib.hid (I.out.below (far_below W p)).low
          clear f1 f2 g0 g1 g4 g8 g7 C1
          go_wp2_with fail
          go_ret
          exact ⟨by rw [HE.out]; simp only [k1, k2d, k3d, k4d, Bool.false_and, Bool.and_false]; try rfl, B4.out⟩
        | false =>
          have k4d : decide (x.b.id < r.nb) = true := by simp at k4 ⊢; omega
          have hm : x.b.mem.length ≤ 1000000 := Nat.le_trans HK.out.2.2 (by decide)
          cases k5 : (weighS (odsOf r.ords) x.b.mem == x.b.wt) with
          | false =>
            have k5' : (weighS (odsOf r.ords) x.b.mem != x.b.wt) = true := by simp only [bne, k5]; rfl
            go_enter Tryz.func60, Tryz.ntmps60
            go_wp2_with fail
            generalize (w.alloc (.cells (stC r) 37)).alloc (.cells (baC x) 98) = W at *
            have f1 : ∀ p : Far W, LdX 98 (.pointer (some ⟨w.heap.size + 1, 0, none⟩)) (farOf W p) = .ok (.value (baV x)) (farOf W p) := fun p => ld_ba (I.out.below (far_below W p)).two
            have f2 : ∀ p : Far W, LdX 37 (.pointer (some ⟨w.heap.size, 0, none⟩)) (farOf W p) = .ok (.value (stV r)) (farOf W p) := fun p => ld_sta (I.out.below (far_below W p)).one
            have g0 := fun p : Far W => (I.out.below (far_below W p)).two.b.1.1
            have g1 := fun p : Far W => (I.out.below (far_below W p)).two.b.1.2.1
            have g4 := fun p : Far W => (I.out.below (far_below W p)).two.b.1.2.2.2.2
            have g8 := fun p : Far W => (I.out.below (far_below W p)).two.b.2.2.2.2
            have g7 := fun p : Far W => (I.out.below (far_below W p)).one.st.2.2.1
            have C1 := Lib.hid (fun p : Far W => refBtRight_any x.a x.c x.b _ (I.out.below (far_below W p)).bt)
            have C2 := Lib.hid (fun p : Far W => refWeighS_any r x.a x.c x.b.mem _ (I.out.below (far_below W p)).st (HM.out.below ((I.out.below (far_below W p)).low)) hm)
            try rw [k1] at C1
            refine wp_region_far (by kernel_rfl) (by kernel_rfl) ?_
            repeat (first | go_big_quiet_step (first | (go_at_call 111; exact calls_far (C1.out _)) | (go_at_call 112; exact calls_far (C2.out _))) | quiet_step (first | (go_at_call 111; exact calls_far (C1.out _)) | (go_at_call 112; exact calls_far (C2.out _))))
            refine wpQuiet_nil ?_
            intro _ hw'
            obtain ⟨p, hw''⟩ := hw'
            subst hw''
            have B4 := Lib.hid (I.out.below (far_below W p)).low
            clear f1 f2 g0 g1 g4 g8 g7 C1 C2
            go_wp2_with fail
            go_ret
            exact ⟨by rw [HE.out]; simp only [k1, k2d, k3d, k4d, k5, Bool.false_and, Bool.and_false]; try rfl, B4.out⟩
          | true =>
            have k5' : (weighS (odsOf r.ords) x.b.mem != x.b.wt) = false := by simp only [bne, k5]; rfl
            go_enter Tryz.func60, Tryz.ntmps60
            go_wp2_with fail
            generalize (w.alloc (.cells (stC r) 37)).alloc (.cells (baC x) 98) = W at *
            have f1 : ∀ p : Far W, LdX 98 (.pointer (some ⟨w.heap.size + 1, 0, none⟩)) (farOf W p) = .ok (.value (baV x)) (farOf W p) := fun p => ld_ba (I.out.below (far_below W p)).two
            have f2 : ∀ p : Far W, LdX 37 (.pointer (some ⟨w.heap.size, 0, none⟩)) (farOf W p) = .ok (.value (stV r)) (farOf W p) := fun p => ld_sta (I.out.below (far_below W p)).one
            have g0 := fun p : Far W => (I.out.below (far_below W p)).two.b.1.1
            have g1 := fun p : Far W => (I.out.below (far_below W p)).two.b.1.2.1
            have g4 := fun p : Far W => (I.out.below (far_below W p)).two.b.1.2.2.2.2
            have g8 := fun p : Far W => (I.out.below (far_below W p)).two.b.2.2.2.2
            have g7 := fun p : Far W => (I.out.below (far_below W p)).one.st.2.2.1
            have C1 := Lib.hid (fun p : Far W => refBtRight_any x.a x.c x.b _ (I.out.below (far_below W p)).bt)
            have C2 := Lib.hid (fun p : Far W => refWeighS_any r x.a x.c x.b.mem _ (I.out.below (far_below W p)).st (HM.out.below ((I.out.below (far_below W p)).low)) hm)
            rw [k1] at C1
            refine wp_region_far (by kernel_rfl) (by kernel_rfl) ?_
            repeat (first | go_big_quiet_step (first | (go_at_call 111; exact calls_far (C1.out _)) | (go_at_call 112; exact calls_far (C2.out _))) | quiet_step (first | (go_at_call 111; exact calls_far (C1.out _)) | (go_at_call 112; exact calls_far (C2.out _))))
            refine wpQuiet_nil ?_
            intro _ hw'
            obtain ⟨p, hw''⟩ := hw'
            subst hw''
            replace I := Lib.hid (I.out.below (far_below W p))
            clear f1 f2 g0 g1 g4 g8 g7 C1 C2
            generalize farOf W p = W1 at *
            have HE2 := Lib.hid (show batchOk (odsOf r.ords) r.nb x.b = x.b.mem.all (memOk (odsOf r.ords) x.b) by rw [HE.out]; simp only [k1, k2d, k3d, k4d, k5, Bool.true_and])
            have HI := Lib.hid (fun W => inside_any x W HK.out.1 (by have := HK.out.2.1; simp at k2; omega))
            clear HE k1 k2 k2d k3 k3d k4 k4d k5 k5'
            have c8 := I.out.two.b.2.2.2.2
            have hml := HK.out.2.2
            have hmc := HM.out.cap
            go_wp2_with fail
            go_loopw [42] (fun i wr => ∃ (k : Nat), k ≤ x.b.mem.length ∧ i = .int .i64 k ∧ Hid (batchOk (odsOf r.ords) r.nb x.b = (x.b.mem.drop k).all (memOk (odsOf r.ords) x.b)) ∧ Hid (BkI w r x wr)) (fun i _ => x.b.mem.length - (intOf i).toNat)
            case atStart => exact ⟨0, Nat.zero_le _, rfl, HE2, I⟩
            case round =>
              obtain ⟨k, hk, rfl, HF, HJ⟩ := hrel
              clear I HE2 c8
              by_cases hlt : k < x.b.mem.length
              · obtain ⟨bb, oo, e, hb, c0⟩ := HJ.out.bt.mem.at k hlt
                rw [e]
                clear e
                have HD := Lib.hid (all_drop (memOk (odsOf r.ords) x.b) x.b.mem k hlt)
                have CO1 := Lib.hid (refOrder_any r x.b.mem[k] wr HJ.out.st)
                have ld := ld_sta HJ.out.one
                generalize x.b.mem[k] = id at *
                go_wp2_with fail
                refine CO1.out.mono ?_
                rintro e w1 ⟨y, rfl, hy, hP, b1⟩
                have HMm := Lib.hid (show memOk (odsOf r.ords) x.b id = ((findO (odsOf r.ords) id).isSome && ((y.o.batch == x.b.id) && (sameG y.o.car y.o.zone y.o.serv x.b.car x.b.zone x.b.serv && (y.o.phase == insideN x.b.kind x.b.phase)))) by unfold memOk orderV; rw [hy])
                have I2 := Lib.hid ((HJ.out.below b1).more (.cells (orC y) 93))
                have R2 := Lib.hid (Row.new w1 (orC y) 93)
                clear CO1 ld c0 hy hP b1
                cases q1 : (findO (odsOf r.ords) id).isSome with
                | false =>
                  go_wp2_with fail
                  generalize w1.alloc (.cells (orC y) 93) = W2 at *
                  generalize w1.heap.size = g at *
                  have f1 : ∀ p : Far W2, LdX 98 (.pointer (some ⟨w.heap.size + 1, 0, none⟩)) (farOf W2 p) = .ok (.value (baV x)) (farOf W2 p) := fun p => ld_ba (I2.out.below (far_below W2 p)).two
                  have f3 : ∀ p : Far W2, LdX 24 (.pointer (some ⟨w.heap.size + 1, 5, none⟩)) (farOf W2 p) = .ok (.value (grV x.b.car x.b.zone x.b.serv)) (farOf W2 p) := fun p => ld_grAt (I2.out.below (far_below W2 p)).two.b.2.1 (I2.out.below (far_below W2 p)).two.b.2.2.1 (I2.out.below (far_below W2 p)).two.b.2.2.2.1
                  have f5 : ∀ p : Far W2, LdX 24 (.pointer (some ⟨g, 2, none⟩)) (farOf W2 p) = .ok (.value (grV y.o.car y.o.zone y.o.serv)) (farOf W2 p) := fun p => ld_grAt (R2.out.below (far_below W2 p)).o.1.2.2.1 (R2.out.below (far_below W2 p)).o.1.2.2.2.1 (R2.out.below (far_below W2 p)).o.1.2.2.2.2
                  have g0 := fun p : Far W2 => (I2.out.below (far_below W2 p)).two.b.1.1
                  have g9 := fun p : Far W2 => (R2.out.below (far_below W2 p)).o.2.2.2.2.2
                  have g6 := fun p : Far W2 => (R2.out.below (far_below W2 p)).o.2.2.1
                  have CI := Lib.hid (fun p : Far W2 => HI.out (farOf W2 p))
                  have HN := Lib.hid (show batchOk (odsOf r.ords) r.nb x.b = false by rw [HF.out, HD.out, HMm.out]; simp only [q1, Bool.false_and])
                  refine wp_region_far (by kernel_rfl) (by kernel_rfl) ?_
                  repeat (first | go_big_quiet_step ((go_at_call 114; exact calls_far (CI.out _))) | quiet_step ((go_at_call 114; exact calls_far (CI.out _))))
                  refine wpQuiet_nil ?_
                  intro _ hw'
                  obtain ⟨q, hw''⟩ := hw'
                  subst hw''
                  have B5 := Lib.hid (I2.out.below (far_below W2 q)).low
                  clear f1 f3 f5 g0 g9 g6 CI I2 R2
                  go_wp2_with fail
                  go_ret
                  exact ⟨by rw [HN.out]; try rfl, B5.out⟩
                | true =>
                  go_wp2_with fail
                  generalize w1.alloc (.cells (orC y) 93) = W2 at *
                  generalize w1.heap.size = g at *
                  have f1 : ∀ p : Far W2, LdX 98 (.pointer (some ⟨w.heap.size + 1, 0, none⟩)) (farOf W2 p) = .ok (.value (baV x)) (farOf W2 p) := fun p => ld_ba (I2.out.below (far_below W2 p)).two
                  have f3 : ∀ p : Far W2, LdX 24 (.pointer (some ⟨w.heap.size + 1, 5, none⟩)) (farOf W2 p) = .ok (.value (grV x.b.car x.b.zone x.b.serv)) (farOf W2 p) := fun p => ld_grAt (I2.out.below (far_below W2 p)).two.b.2.1 (I2.out.below (far_below W2 p)).two.b.2.2.1 (I2.out.below (far_below W2 p)).two.b.2.2.2.1
                  have f5 : ∀ p : Far W2, LdX 24 (.pointer (some ⟨g, 2, none⟩)) (farOf W2 p) = .ok (.value (grV y.o.car y.o.zone y.o.serv)) (farOf W2 p) := fun p => ld_grAt (R2.out.below (far_below W2 p)).o.1.2.2.1 (R2.out.below (far_below W2 p)).o.1.2.2.2.1 (R2.out.below (far_below W2 p)).o.1.2.2.2.2
                  have g0 := fun p : Far W2 => (I2.out.below (far_below W2 p)).two.b.1.1
                  have g9 := fun p : Far W2 => (R2.out.below (far_below W2 p)).o.2.2.2.2.2
                  have g6 := fun p : Far W2 => (R2.out.below (far_below W2 p)).o.2.2.1
                  have CI := Lib.hid (fun p : Far W2 => HI.out (farOf W2 p))
                  cases q2 : (y.o.batch == x.b.id) with
                  | false =>
                    have q2d : (y.o.batch != x.b.id) = true := by simp only [bne, q2]; rfl
                    have HN := Lib.hid (show batchOk (odsOf r.ords) r.nb x.b = false by rw [HF.out, HD.out, HMm.out]; simp only [q1, q2, Bool.false_and, Bool.and_false])
                    refine wp_region_far (by kernel_rfl) (by kernel_rfl) ?_
                    repeat (first | go_big_quiet_step ((go_at_call 114; exact calls_far (CI.out _))) | quiet_step ((go_at_call 114; exact calls_far (CI.out _))))
                    refine wpQuiet_nil ?_
                    intro _ hw'
                    obtain ⟨q, hw''⟩ := hw'
                    subst hw''
                    have B5 := Lib.hid (I2.out.below (far_below W2 q)).low
                    clear f1 f3 f5 g0 g9 g6 CI I2 R2
                    go_wp2_with fail
                    go_ret
                    exact ⟨by rw [HN.out]; try rfl, B5.out⟩
                  | true =>
                    have q2d : (y.o.batch != x.b.id) = false := by simp only [bne, q2]; rfl
                    cases q3 : (sameG y.o.car y.o.zone y.o.serv x.b.car x.b.zone x.b.serv) with
                    | false =>
                      have HN := Lib.hid (show batchOk (odsOf r.ords) r.nb x.b = false by rw [HF.out, HD.out, HMm.out]; simp only [q1, q2, q3, Bool.false_and, Bool.and_false])
                      refine wp_region_far (by kernel_rfl) (by kernel_rfl) ?_
                      repeat (first | go_big_quiet_step ((go_at_call 114; exact calls_far (CI.out _))) | quiet_step ((go_at_call 114; exact calls_far (CI.out _))))
                      refine wpQuiet_nil ?_
                      intro _ hw'
                      obtain ⟨q, hw''⟩ := hw'
                      subst hw''
                      have B5 := Lib.hid (I2.out.below (far_below W2 q)).low
                      clear f1 f3 f5 g0 g9 g6 CI I2 R2
                      go_wp2_with fail
                      go_ret
                      exact ⟨by rw [HN.out]; try rfl, B5.out⟩
                    | true =>
                      cases q4 : (y.o.phase == insideN x.b.kind x.b.phase) with
                      | false =>
                        have q4d : (y.o.phase != insideN x.b.kind x.b.phase) = true := by simp only [bne, q4]; rfl
                        have HN := Lib.hid (show batchOk (odsOf r.ords) r.nb x.b = false by rw [HF.out, HD.out, HMm.out]; simp only [q1, q2, q3, q4, Bool.false_and, Bool.and_false])
                        refine wp_region_far (by kernel_rfl) (by kernel_rfl) ?_
                        repeat (first | go_big_quiet_step ((go_at_call 114; exact calls_far (CI.out _))) | quiet_step ((go_at_call 114; exact calls_far (CI.out _))))
                        refine wpQuiet_nil ?_
                        intro _ hw'
                        obtain ⟨q, hw''⟩ := hw'
                        subst hw''
                        have B5 := Lib.hid (I2.out.below (far_below W2 q)).low
                        clear f1 f3 f5 g0 g9 g6 CI I2 R2
                        go_wp2_with fail
                        go_ret
                        exact ⟨by rw [HN.out]; try rfl, B5.out⟩
                      | true =>
                        have q4d : (y.o.phase != insideN x.b.kind x.b.phase) = false := by simp only [bne, q4]; rfl
                        have HN := Lib.hid (show batchOk (odsOf r.ords) r.nb x.b = (x.b.mem.drop (k + 1)).all (memOk (odsOf r.ords) x.b) by rw [HF.out, HD.out, HMm.out]; simp only [q1, q2, q3, q4, Bool.true_and])
                        refine wp_region_far (by kernel_rfl) (by kernel_rfl) ?_
                        repeat (first | go_big_quiet_step ((go_at_call 114; exact calls_far (CI.out _))) | quiet_step ((go_at_call 114; exact calls_far (CI.out _))))
                        refine wpQuiet_nil ?_
                        intro _ hw'
                        obtain ⟨q, hw''⟩ := hw'
                        subst hw''
                        have J := Lib.hid (I2.out.below (far_below W2 q))
                        clear f1 f3 f5 g0 g9 g6 CI I2 R2
                        go_wp2_with fail
                        go_roundw
                        case rel => exact ⟨k + 1, by omega, by go_num, HN, J⟩
                        case measure => simp [intOf]; omega
              · have HN := Lib.hid (show batchOk (odsOf r.ords) r.nb x.b = true by rw [HF.out, List.drop_eq_nil_of_le (by omega)]; rfl)
                go_wp2_with fail
                go_ret
                exact ⟨by rw [HN.out]; rfl, HJ.out.low⟩
end

/- StRef4: What the document's effectsOk of layer 15 answers. -/
section
set_option maxRecDepth 100000
open Go.RowKit Go.ChangeShapes Go.WideShapes Go.ChangeAt
attribute [local go_sem ↓] ldOr stOr alOr bxOr bdOr ldBa stBa alBa bxBa bdBa ldSt stSt alSt bxSt bdSt ldEf stEf alEf bxEf eqEf bdEf bsEf ldGr bxGr eqGr
attribute [local go_sem] al_or bx_or st_ornew bd_or al_ba bx_ba st_banew bd_ba al_sta bx_sta st_stnew bd_sta al_ef bx_ef st_new bd_ef bs_ef bs_ef0 bx_gr ne_gr

theorem effsOk_raw (r : StR) : effsOk (odsOf r.ords) (btsOf r.bats) r.effs r.nk =
    (r.ords.all (fun x => needO r.effs x.o) && (r.bats.all (fun x => needB r.effs x.b) && (r.effs.all (fun e => decide (e.key < r.nk)) && (decide (r.ords.countP (fun x => asksB x.o) + r.bats.countP (fun x => outB x.b) = r.effs.length) && rightE r.effs)))) := by
  unfold effsOk manyN odsOf btsOf
  rw [List.all_map, List.all_map, List.countP_map, List.countP_map]
  rfl
set_option maxHeartbeats 8000000 in
theorem effsOk_any (r : StR) (w : World) (h : StP w r) (ht : Tame r) : Calls Tryz.prog 63 #[stV r] w (Tell (effsOk (odsOf r.ords) (btsOf r.bats) r.effs r.nk) w) := by
  have I := Lib.hid (OnI.begin w r h)
  obtain ⟨hl1, hl2, hl3⟩ := ht.few
  have p1 := h.ords.sl.cap
  have p2 := h.bats.sl.cap
  have p3 := h.effs.sl.cap
  have c9 := I.out.one.st.2.2.2.2.1
  have HT := Lib.hid ht
  have HE := Lib.hid (effsOk_raw r)
  generalize effsOk (odsOf r.ords) (btsOf r.bats) r.effs r.nk = res at *
  clear h ht
  go_enter Tryz.func63, Tryz.ntmps63
  go_wp2_with fail
  generalize w.alloc (.cells (stC r) 37) = W0 at *
  clear c9
  go_loopw [3, 14] (fun s i wr => ∃ (k : Nat), k ≤ r.ords.length ∧ i = .int .i64 k ∧ s = .int .i64 ((r.ords.take k).countP (fun x => asksB x.o) : Nat) ∧ Hid (res = ((r.ords.drop k).all (fun x => needO r.effs x.o) && (r.bats.all (fun x => needB r.effs x.b) && (r.effs.all (fun e => decide (e.key < r.nk)) && (decide (r.ords.countP (fun x => asksB x.o) + r.bats.countP (fun x => outB x.b) = r.effs.length) && rightE r.effs))))) ∧ Hid (OnI w r wr)) (fun _ i _ => r.ords.length - (intOf i).toNat)
  case atStart => exact ⟨0, Nat.zero_le _, rfl, rfl, HE, I⟩
  case round =>
    obtain ⟨k, hk, rfl, rfl, HF, HI⟩ := hrel
    by_cases hlt : k < r.ords.length
    · obtain ⟨b, o, e, hb, _, ld, _⟩ := HI.out.st.ords.ld k hlt
      rw [e]
      clear e
      have HD := Lib.hid (all_drop (fun x => needO r.effs x.o) r.ords k hlt)
      have HC := Lib.hid (countP_drop (fun x => asksB x.o) r.ords k hlt)
      have hn : (r.ords.take k).countP (fun x => asksB x.o) ≤ k := Nat.le_trans List.countP_le_length (by rw [List.length_take]; omega)
      have hph := HT.out.ph _ (List.getElem_mem hlt)
      generalize r.ords[k] = x at *
      generalize (r.ords.take k).countP (fun x => asksB x.o) = n at *
      have CA := Lib.hid (fun W => refAsks_any x.o.phase W (by omega))
      have R := Lib.hid (Row.new wr (orC x) 93)
      have J := Lib.hid (HI.out.more (.cells (orC x) 93))
      have d6 := R.out.o.2.2.1
      clear hph
      go_wp2_with fail
      generalize wr.alloc (.cells (orC x) 93) = W1 at *
      refine (CA.out _).mono ?_
      rintro e w2 ⟨rfl, b2⟩
      have J2 := Lib.hid (J.out.below b2)
      have R2 := Lib.hid (R.out.below b2)
      clear b2 R J d6 ld
      cases q1 : (asksN x.o.phase != 0) with
      | false =>
        have q1e : asksN x.o.phase = 0 := by simpa [bne] using q1
        have HN := Lib.hid (show needO r.effs x.o = true by unfold needO; rw [q1e]; rfl)
        have HM := Lib.hid (show asksB x.o = false from q1)
        go_wp2_with fail
        go_roundw
        case rel => exact ⟨k + 1, by omega, by go_num, by rw [HC.out, HM.out]; rfl, Lib.hid (by rw [HF.out, HD.out, HN.out, Bool.true_and]), J2⟩
        case measure => simp [intOf]; omega
      | true =>
        have HM := Lib.hid (show asksB x.o = true from q1)
        have q1e : asksN x.o.phase ≠ 0 := by simpa [bne] using q1
        have HN := Lib.hid (show needO r.effs x.o = (askN r.effs (asksN x.o.phase) x.o.id 0 == 1) by unfold needO; rw [beq_eq_false_iff_ne.2 q1e, Bool.false_or])
        have CK := Lib.hid (fun W hW => asks15_any r (asksN x.o.phase) x.o.id 0 W hW)
        have ld := ld_sta J2.out.one
        have d0 := R2.out.o.1.1
        clear q1e
        go_wp2_with fail
        refine (CK.out _ J2.out.st).mono ?_
        rintro e w3 ⟨rfl, b3⟩
        have J3 := Lib.hid (J2.out.below b3)
        clear b3 J2 R2 ld d0 CK CA
        generalize askN r.effs (asksN x.o.phase) x.o.id 0 = m at *
        cases q2 : (m == 1) with
        | true =>
          have q2d : (((m : Nat) : Int) != 1) = false := by simp at q2 ⊢; omega
          go_wp2_with fail
          go_roundw
          case rel => exact ⟨k + 1, by omega, by go_num, by rw [HC.out, HM.out]; go_num, Lib.hid (by rw [HF.out, HD.out, HN.out, q2, Bool.true_and]), J3⟩
          case measure => simp [intOf]; omega
        | false =>
          have q2d : (((m : Nat) : Int) != 1) = true := by simp at q2 ⊢; omega
          have HX := Lib.hid (show res = false by rw [HF.out, HD.out, HN.out, q2, Bool.false_and, Bool.false_and])
          go_wp2_with fail
          go_ret
          exact ⟨by rw [HX.out]; try rfl, J3.out.low⟩
    · have HF2 := Lib.hid (show res = (r.bats.all (fun x => needB r.effs x.b) && (r.effs.all (fun e => decide (e.key < r.nk)) && (decide (r.ords.countP (fun x => asksB x.o) + r.bats.countP (fun x => outB x.b) = r.effs.length) && rightE r.effs))) by rw [HF.out, List.drop_eq_nil_of_le (by omega)]; rfl)
      have hkk : r.ords.take k = r.ords := List.take_of_length_le (by omega)
      rw [hkk]
      clear hkk HF
      have hn1 : r.ords.countP (fun x => asksB x.o) ≤ r.ords.length := List.countP_le_length
      generalize r.ords.countP (fun x => asksB x.o) = n1 at *
      have c10 := HI.out.one.st.2.2.2.2.2.1
      have ce := HT.out.kd
      have he3 := HT.out.ph
      clear I HE HT
      have HT := Lib.hid ce
      clear ce he3
      go_wp2_with fail
      go_loopw [3, 36] (fun s i wi => ∃ (k : Nat), k ≤ r.bats.length ∧ i = .int .i64 k ∧ s = .int .i64 (n1 + (r.bats.take k).countP (fun x => outB x.b) : Nat) ∧ Hid (res = ((r.bats.drop k).all (fun x => needB r.effs x.b) && (r.effs.all (fun e => decide (e.key < r.nk)) && (decide (n1 + r.bats.countP (fun x => outB x.b) = r.effs.length) && rightE r.effs)))) ∧ Hid (OnI w r wi)) (fun _ i _ => r.bats.length - (intOf i).toNat)
      case atStart => exact ⟨0, Nat.zero_le _, rfl, rfl, HF2, HI⟩
      case round =>
        clear HI HF2 c10
        obtain ⟨k, hk, rfl, rfl, HF, HI⟩ := hrel
        by_cases hlt : k < r.bats.length
        · obtain ⟨b, o, e, hb, _, ld, _⟩ := HI.out.st.bats.ld k hlt
          rw [e]
          clear e
          have HD := Lib.hid (all_drop (fun x => needB r.effs x.b) r.bats k hlt)
          have HC := Lib.hid (countP_drop (fun x => outB x.b) r.bats k hlt)
          have hn : (r.bats.take k).countP (fun x => outB x.b) ≤ k := Nat.le_trans List.countP_le_length (by rw [List.length_take]; omega)
          have hkd := HT.out _ (List.getElem_mem hlt)
          generalize r.bats[k] = x at *
          generalize (r.bats.take k).countP (fun x => outB x.b) = n at *
          have R := Lib.hid (Row.new wr (baC x) 98)
          have J := Lib.hid (HI.out.more (.cells (baC x) 98))
          have d4 := R.out.b.1.2.2.2.2
          cases q1 : (x.b.phase == 2) with
          | false =>
            have HN := Lib.hid (show needB r.effs x.b = true by unfold needB; simp only [bne, q1]; rfl)
            have HM := Lib.hid (show outB x.b = false from q1)
            clear hkd
            go_wp2_with fail
            go_roundw
            case rel => exact ⟨k + 1, by omega, by go_num, by rw [HC.out, HM.out]; rfl, Lib.hid (by rw [HF.out, HD.out, HN.out, Bool.true_and]), J⟩
            case measure => simp [intOf]; omega
          | true =>
            have HM := Lib.hid (show outB x.b = true from q1)
            have HN := Lib.hid (show needB r.effs x.b = (askN r.effs (2 + x.b.kind) noT x.b.id == 1) by unfold needB; simp only [bne, q1]; rfl)
            have ld2 := ld_sta J.out.one
            have d0 := R.out.b.1.1
            have d3 := R.out.b.1.2.2.2.1
            have CK := Lib.hid (fun W hW => asks15_any r (2 + x.b.kind) noT x.b.id W hW)
            unfold noT at CK HN
            obtain ⟨z, hz⟩ : ∃ z, x.b.kind = z := ⟨_, rfl⟩
            rw [hz] at hkd d3 CK HN
            clear hz
            rcases hkd with rfl | rfl
            all_goals
              go_wp2_with fail
              refine (CK.out _ J.out.st).mono ?_
              rintro e w3 ⟨rfl, b3⟩
              have J3 := Lib.hid (J.out.below b3)
              clear b3 J R ld ld2 d0 d3 d4 CK
            all_goals
              generalize askN r.effs _ _ x.b.id = m at *
              cases q2 : (m == 1) with
              | true =>
                have q2d : (((m : Nat) : Int) != 1) = false := by simp at q2 ⊢; omega
                go_wp2_with fail
                go_roundw
                case rel => exact ⟨k + 1, by omega, by go_num, by rw [HC.out, HM.out]; go_num, Lib.hid (by rw [HF.out, HD.out, HN.out, q2, Bool.true_and]), J3⟩
                case measure => simp [intOf]; omega
              | false =>
                have q2d : (((m : Nat) : Int) != 1) = true := by simp at q2 ⊢; omega
                have HX := Lib.hid (show res = false by rw [HF.out, HD.out, HN.out, q2, Bool.false_and, Bool.false_and])
                go_wp2_with fail
                go_ret
                exact ⟨by rw [HX.out]; try rfl, J3.out.low⟩
        · have HF2 := Lib.hid (show res = (r.effs.all (fun e => decide (e.key < r.nk)) && (decide (n1 + r.bats.countP (fun x => outB x.b) = r.effs.length) && rightE r.effs)) by rw [HF.out, List.drop_eq_nil_of_le (by omega)]; rfl)
          have hkk : r.bats.take k = r.bats := List.take_of_length_le (by omega)
          rw [hkk]
          clear hkk HF
          have hn2 : r.bats.countP (fun x => outB x.b) ≤ r.bats.length := List.countP_le_length
          generalize r.bats.countP (fun x => outB x.b) = n2 at *
          have c11 := HI.out.one.st.2.2.2.2.2.2
          clear HT
          go_wp2_with fail
          go_loopw [57] (fun i wi => ∃ (k : Nat), k ≤ r.effs.length ∧ i = .int .i64 k ∧ Hid (res = ((r.effs.drop k).all (fun e => decide (e.key < r.nk)) && (decide (n1 + n2 = r.effs.length) && rightE r.effs))) ∧ Hid (OnI w r wi)) (fun i _ => r.effs.length - (intOf i).toNat)
          case atStart => exact ⟨0, Nat.zero_le _, rfl, HF2, HI⟩
          case round =>
            clear HI HF2 c11
            obtain ⟨k, hk, rfl, HF, HI⟩ := hrel
            by_cases hlt : k < r.effs.length
            · obtain ⟨b, o, e, hb, ld, _⟩ := HI.out.st.effs.ld k hlt
              rw [e]
              clear e
              have HD := Lib.hid (all_drop (fun e => decide (e.key < r.nk)) r.effs k hlt)
              generalize r.effs[k] = x at *
              have R := Lib.hid (Row.new wr (efC x) 138)
              have J := Lib.hid (HI.out.more (.cells (efC x) 138))
              have d0 := R.out.e.1.1
              have d8 := J.out.one.st.2.2.2.1
              cases q1 : decide (r.nk ≤ x.key) with
              | true =>
                have q1d : decide (x.key < r.nk) = false := by simp at q1 ⊢; omega
                have HX := Lib.hid (show res = false by rw [HF.out, HD.out, q1d, Bool.false_and, Bool.false_and])
                go_wp2_with fail
                go_ret
                exact ⟨by rw [HX.out]; try rfl, J.out.low⟩
              | false =>
                have q1d : decide (x.key < r.nk) = true := by simp at q1 ⊢; omega
                have HN := Lib.hid (show res = ((r.effs.drop (k + 1)).all (fun e => decide (e.key < r.nk)) && (decide (n1 + n2 = r.effs.length) && rightE r.effs)) by rw [HF.out, HD.out, q1d, Bool.true_and])
                clear q1d
                go_wp2_with fail
                go_roundw
                case rel => exact ⟨k + 1, by omega, by go_num, HN, J⟩
                case measure => simp [intOf]; omega
            · have HF2 := Lib.hid (show res = (decide (n1 + n2 = r.effs.length) && rightE r.effs) by rw [HF.out, List.drop_eq_nil_of_le (by omega)]; rfl)
              clear HF
              have c11 := HI.out.one.st.2.2.2.2.2.2
              cases q1 : decide (n1 + n2 = r.effs.length) with
              | false =>
                have HX := Lib.hid (show res = false by rw [HF2.out, q1, Bool.false_and])
                have q1d : (((n1 : Int) + (n2 : Int)) == (r.effs.length : Int)) = false := by simp at q1 ⊢; omega
                go_wp2_with fail
                go_ret
                exact ⟨by rw [HX.out]; try rfl, HI.out.low⟩
              | true =>
                have HX := Lib.hid (show res = rightE r.effs by rw [HF2.out, q1, Bool.true_and])
                have q1d : (((n1 : Int) + (n2 : Int)) == (r.effs.length : Int)) = true := by simp at q1 ⊢; omega
                have CR := Lib.hid (refObRight_any r.ea r.ec r.effs wr HI.out.st.effs.sl HI.out.st.effs.each)
                go_wp2_with fail
                refine CR.out.mono ?_
                rintro e w3 ⟨rfl, b3⟩
                have J := Lib.hid (HI.out.below b3)
                go_wp2_with fail
                go_ret
                exact ⟨by rw [HX.out]; try rfl, J.out.low⟩
end

/- StRef5: What the document's Right of layer 15 answers. -/
section
set_option maxRecDepth 100000
open Go.RowKit Go.ChangeShapes Go.WideShapes Go.ChangeAt
attribute [local go_sem ↓] ldOr stOr alOr bxOr bdOr ldBa stBa alBa bxBa bdBa ldSt stSt alSt bxSt bdSt ldEf stEf alEf bxEf eqEf bdEf bsEf ldGr bxGr eqGr ldCa bxCa eqCa
attribute [local go_sem] al_or bx_or st_ornew bd_or al_ba bx_ba st_banew bd_ba al_sta bx_sta st_stnew bd_sta al_ef bx_ef st_new bd_ef bs_ef bs_ef0 bx_gr ne_gr bx_ca ne_ca

theorem aboveB_two (n : Int) : aboveB n = (decide (1 ≤ n) && decide (n ≤ 1000000000000)) := by rw [Bool.eq_iff_iff]; simp [aboveB]
theorem two_0 (a b : Int) (W : World) : (Instr.index 89 (.agg #[.int .i64 a, .int .i64 b]) (.int .i64 0)).run Tryz.prog W = .ok (.int .i64 a) W := by kernel_rfl
theorem two_1 (a b : Int) (W : World) : (Instr.index 89 (.agg #[.int .i64 a, .int .i64 b]) (.int .i64 1)).run Tryz.prog W = .ok (.int .i64 b) W := by kernel_rfl
set_option maxHeartbeats 16000000 in
theorem refRightS_any (r : StR) (w : World) (h : StP w r) (hf : FewS r) : Calls Tryz.prog 20 #[stV r] w (Tell (rightS r.st) w) := by
  have I := Lib.hid (OnI.begin w r h)
  have HV := Lib.hid hf
  have hdl := h.dlen
  obtain ⟨hl1, hl2, _⟩ := hf
  have p1 := h.ords.sl.cap
  have p2 := h.bats.sl.cap
  have C1 := Lib.hid (fun W => refCaps_any r.waves W)
  have C2 := Lib.hid (fun W => refCaps_any r.mans W)
  have C3 := Lib.hid (fun W hW => refFits_any r.da r.dc r.doors W hW hdl)
  have C4 := Lib.hid (fun W => refTick_any r.now W)
  have HE := Lib.hid (show rightS r.st = ((capsB r.waves && (capsB r.mans && (limitB r.limit && (fitsB r.doors && (tickB r.now && (aboveB r.nb && aboveB r.nk)))))) && (decide (r.ords.length ≤ 400) && (goodO none (odsOf r.ords) && (goodB (odsOf r.ords) r.nb none (btsOf r.bats) && ((odsOf r.ords).all (heldIn (btsOf r.bats)) && effsOk (odsOf r.ords) (btsOf r.bats) r.effs r.nk))))) by
    unfold rightS limitsB StR.st
    simp only [odsOf, List.length_map])
  rw [limitB_two, aboveB_two, aboveB_two] at HE
  generalize rightS r.st = res at *
  have c := I.out.one.st
  obtain ⟨⟨c0, c1, c2, c3, c4, c5⟩, c6, c7, c8, c9, _⟩ := c
  have ldw := ld_caAt c0 c1
  have ldm := ld_caAt c2 c3
  clear h c0 c1 c2 c3
  go_enter Tryz.func20, Tryz.ntmps20
  go_wp2_with fail
  generalize w.alloc (.cells (stC r) 37) = W0 at *
  refine (C1.out _).mono ?_
  rintro e w1 ⟨rfl, b1⟩
  have I1 := Lib.hid (I.out.below b1)
  cases k1 : capsB r.waves with
  | false =>
    have HX := Lib.hid (show res = false by rw [HE.out]; simp only [k1, Bool.false_and])
    go_wp2_with fail
    go_ret
    exact ⟨by rw [HX.out]; try rfl, I1.out.low⟩
  | true =>
    have c := I1.out.one.st
    obtain ⟨⟨c0, c1, c2, c3, c4, c5⟩, c6, c7, c8, c9, _⟩ := c
    have ldm := ld_caAt c2 c3
    clear c0 c1 c2 c3 b1 I
    go_wp2_with fail
    refine (C2.out _).mono ?_
    rintro e w2 ⟨rfl, b2⟩
    have I2 := Lib.hid (I1.out.below b2)
    clear ldm c4 c5 c6 c7 c8 c9 I1
    have c := I2.out.one.st
    obtain ⟨⟨_, _, _, _, c4, c5⟩, c6, c7, c8, c9, _⟩ := c
    cases k2 : capsB r.mans with
    | false =>
      have HX := Lib.hid (show res = false by rw [HE.out]; simp only [k1, k2, Bool.false_and, Bool.and_false])
      go_wp2_with fail
      go_ret
      exact ⟨by rw [HX.out]; try rfl, I2.out.low⟩
    | true =>
      cases k3 : decide (1 ≤ r.limit) with
      | false =>
        have k3d : r.limit < 1 := by simp at k3; omega
        have HX := Lib.hid (show res = false by rw [HE.out]; simp only [k1, k2, k3, Bool.false_and, Bool.and_false])
        go_wp2_with fail
        go_ret
        exact ⟨by rw [HX.out]; try rfl, I2.out.low⟩
      | true =>
        have k3d : ¬ r.limit < 1 := by simp at k3; omega
        cases k4 : decide (r.limit ≤ 100) with
        | false =>
          have k4d : 100 < r.limit := by simp at k4; omega
          have HX := Lib.hid (show res = false by rw [HE.out]; simp only [k1, k2, k3, k4, Bool.false_and, Bool.and_false])
          go_wp2_with fail
          go_ret
          exact ⟨by rw [HX.out]; try rfl, I2.out.low⟩
        | true =>
          have k4d : ¬ 100 < r.limit := by simp at k4; omega
          have C3' := Lib.hid (C3.out w2 I2.out.st.doors)
          go_wp2_with fail
          refine C3'.out.mono ?_
          rintro e w3 ⟨rfl, rfl⟩
          cases k5 : fitsB r.doors with
          | false =>
            have HX := Lib.hid (show res = false by rw [HE.out]; simp only [k1, k2, k3, k4, k5, Bool.true_and, Bool.false_and, Bool.and_false])
            go_wp2_with fail
            go_ret
            exact ⟨by rw [HX.out]; try rfl, I2.out.low⟩
          | true =>
            go_wp2_with fail
            refine (C4.out _).mono ?_
            rintro e w3 ⟨rfl, rfl⟩
            cases k6 : tickB r.now with
            | false =>
              have HX := Lib.hid (show res = false by rw [HE.out]; simp only [k1, k2, k3, k4, k5, k6, Bool.true_and, Bool.false_and, Bool.and_false])
              go_wp2_with fail
              go_ret
              exact ⟨by rw [HX.out]; try rfl, I2.out.low⟩
            | true =>
              have HF := Lib.hid (show res = (((decide (1 ≤ r.nb) && decide (r.nb ≤ 1000000000000)) && (decide (1 ≤ r.nk) && decide (r.nk ≤ 1000000000000))) && (decide (r.ords.length ≤ 400) && (goodO none (odsOf r.ords) && (goodB (odsOf r.ords) r.nb none (btsOf r.bats) && ((odsOf r.ords).all (heldIn (btsOf r.bats)) && effsOk (odsOf r.ords) (btsOf r.bats) r.effs r.nk))))) by rw [HE.out]; simp only [k1, k2, k3, k4, k5, k6, Bool.true_and])
              clear HE C1 C2 C3 C3' C4 k1 k2 k3 k4 k5 k6
              go_wp2_with fail
              go_loopw [50] (fun i wr => ∃ (k : Nat), k ≤ 2 ∧ i = .int .i64 k ∧ Hid (res = (((decide (2 ≤ k) || (decide (1 ≤ r.nk) && decide (r.nk ≤ 1000000000000))) && (decide (1 ≤ k) || (decide (1 ≤ r.nb) && decide (r.nb ≤ 1000000000000)))) && (decide (r.ords.length ≤ 400) && (goodO none (odsOf r.ords) && (goodB (odsOf r.ords) r.nb none (btsOf r.bats) && ((odsOf r.ords).all (heldIn (btsOf r.bats)) && effsOk (odsOf r.ords) (btsOf r.bats) r.effs r.nk)))))) ∧ Hid (OnI w r wr)) (fun i _ => 2 - (intOf i).toNat)
              case atStart => exact ⟨0, by decide, rfl, Lib.hid (by rw [HF.out, Bool.and_comm (decide (1 ≤ r.nb) && decide (r.nb ≤ 1000000000000))]; rfl), I2⟩
              case round =>
                clear I2 HF c4 c5 c6 c7 c8 c9
                obtain ⟨k, hk, rfl, HF, HI⟩ := hrel
                have hk3 : k = 0 ∨ k = 1 ∨ k = 2 := by omega
                have t0 := two_0 r.nb r.nk
                have t1 := two_1 r.nb r.nk
                rcases hk3 with rfl | rfl | rfl
                · cases k1 : decide (1 ≤ r.nb) with
                  | false =>
                    have k1d : r.nb < 1 := by simp at k1; omega
                    have HX := Lib.hid (show res = false by rw [HF.out, k1]; simp)
                    go_wp2_with fail
                    go_ret
                    exact ⟨by rw [HX.out]; try rfl, HI.out.low⟩
                  | true =>
                    have k1d : ¬ r.nb < 1 := by simp at k1; omega
                    cases k2 : decide (r.nb ≤ 1000000000000) with
                    | false =>
                      have k2d : 1000000000000 < r.nb := by simp at k2; omega
                      have HX := Lib.hid (show res = false by rw [HF.out, k1, k2]; simp)
                      go_wp2_with fail
                      go_ret
                      exact ⟨by rw [HX.out]; try rfl, HI.out.low⟩
                    | true =>
                      have k2d : ¬ 1000000000000 < r.nb := by simp at k2; omega
                      have HN := Lib.hid (show res = (((decide (2 ≤ 1) || (decide (1 ≤ r.nk) && decide (r.nk ≤ 1000000000000))) && (decide (1 ≤ 1) || (decide (1 ≤ r.nb) && decide (r.nb ≤ 1000000000000)))) && (decide (r.ords.length ≤ 400) && (goodO none (odsOf r.ords) && (goodB (odsOf r.ords) r.nb none (btsOf r.bats) && ((odsOf r.ords).all (heldIn (btsOf r.bats)) && effsOk (odsOf r.ords) (btsOf r.bats) r.effs r.nk))))) by rw [HF.out, k1, k2]; simp)
                      go_wp2_with fail
                      go_roundw
                      case rel => exact ⟨1, by omega, by go_num, HN, HI⟩
                      case measure => simp [intOf]
                · cases k1 : decide (1 ≤ r.nk) with
                  | false =>
                    have k1d : r.nk < 1 := by simp at k1; omega
                    have HX := Lib.hid (show res = false by rw [HF.out, k1]; simp)
                    go_wp2_with fail
                    go_ret
                    exact ⟨by rw [HX.out]; try rfl, HI.out.low⟩
                  | true =>
                    have k1d : ¬ r.nk < 1 := by simp at k1; omega
                    cases k2 : decide (r.nk ≤ 1000000000000) with
                    | false =>
                      have k2d : 1000000000000 < r.nk := by simp at k2; omega
                      have HX := Lib.hid (show res = false by rw [HF.out, k1, k2]; simp)
                      go_wp2_with fail
                      go_ret
                      exact ⟨by rw [HX.out]; try rfl, HI.out.low⟩
                    | true =>
                      have k2d : ¬ 1000000000000 < r.nk := by simp at k2; omega
                      have HN := Lib.hid (show res = (((decide (2 ≤ 2) || (decide (1 ≤ r.nk) && decide (r.nk ≤ 1000000000000))) && (decide (1 ≤ 2) || (decide (1 ≤ r.nb) && decide (r.nb ≤ 1000000000000)))) && (decide (r.ords.length ≤ 400) && (goodO none (odsOf r.ords) && (goodB (odsOf r.ords) r.nb none (btsOf r.bats) && ((odsOf r.ords).all (heldIn (btsOf r.bats)) && effsOk (odsOf r.ords) (btsOf r.bats) r.effs r.nk))))) by rw [HF.out, k1, k2]; simp)
                      go_wp2_with fail
                      go_roundw
                      case rel => exact ⟨2, by omega, by go_num, HN, HI⟩
                      case measure => simp [intOf]
                · have HG := Lib.hid (show res = (decide (r.ords.length ≤ 400) && (goodO none (odsOf r.ords) && (goodB (odsOf r.ords) r.nb none (btsOf r.bats) && ((odsOf r.ords).all (heldIn (btsOf r.bats)) && effsOk (odsOf r.ords) (btsOf r.bats) r.effs r.nk)))) by rw [HF.out]; simp)
                  clear HF
                  have c9 := HI.out.one.st.2.2.2.2.1
                  cases k1 : decide (r.ords.length ≤ 400) with
                  | false =>
                    have k1d : (400 : Int) < (r.ords.length : Int) := by simp at k1; omega
                    have HX := Lib.hid (show res = false by rw [HG.out, k1]; simp)
                    go_wp2_with fail
                    go_ret
                    exact ⟨by rw [HX.out]; try rfl, HI.out.low⟩
                  | true =>
                    have k1d : ¬ (400 : Int) < (r.ords.length : Int) := by simp at k1; omega
                    have HF := Lib.hid (show res = (goodO none (odsOf r.ords) && (goodB (odsOf r.ords) r.nb none (btsOf r.bats) && ((odsOf r.ords).all (heldIn (btsOf r.bats)) && effsOk (odsOf r.ords) (btsOf r.bats) r.effs r.nk))) by rw [HG.out, k1, Bool.true_and])
                    clear HG k1
                    go_wp2_with fail
                    go_loopw [67] (fun i wr => ∃ (k : Nat), k ≤ r.ords.length ∧ i = .int .i64 k ∧ Hid (res = (goodO (prevO (odsOf r.ords) k) ((odsOf r.ords).drop k) && (goodB (odsOf r.ords) r.nb none (btsOf r.bats) && ((odsOf r.ords).all (heldIn (btsOf r.bats)) && effsOk (odsOf r.ords) (btsOf r.bats) r.effs r.nk)))) ∧ Hid (goodO none (odsOf r.ords) = goodO (prevO (odsOf r.ords) k) ((odsOf r.ords).drop (k))) ∧ Hid (OnI w r wr)) (fun i _ => r.ords.length - (intOf i).toNat)
                    case atStart => exact ⟨0, Nat.zero_le _, rfl, HF, Lib.hid rfl, HI⟩
                    case round =>
                      have HG := HF
                      clear HI HF
                      obtain ⟨k, hk, rfl, HF, HQ, HI⟩ := hrel
                      by_cases hlt : k < r.ords.length
                      · obtain ⟨b, o, e, hb, _, ld, _⟩ := HI.out.st.ords.ld k hlt
                        have HD := Lib.hid (goodO_raw r.ords k hlt)
                        have HS := Lib.hid (HI.out.st.ords.each _ (List.getElem_mem hlt))
                        have HPV : ∀ j, k = j + 1 → ∃ y : OdR, prevO (odsOf r.ords) k = some y.o.id ∧ wr.cell? ⟨b, o + j * 10, none⟩ = some (.string y.o.id) ∧ y.o.id.size ≤ maxLen := by
                          intro j hj
                          subst hj
                          obtain ⟨b2, o2, e2, _, hc, _, hP⟩ := HI.out.st.ords.ld j (by omega)
                          rw [e] at e2
                          injection e2 with e2
                          injection e2 with e3 e4
                          subst e3 e4
                          exact ⟨r.ords[j]'(by omega), by rw [prevO_succ (by simpa [odsOf] using (by omega : j < r.ords.length))]; simp [odsOf], hc, hP.id⟩
                        have HPV := Lib.hid HPV
                        rw [e]
                        have He := Lib.hid e
                        clear e
                        generalize r.ords[k] = x at *
                        have R := Lib.hid (Row.new wr (orC x) 93)
                        have J := Lib.hid (HI.out.more (.cells (orC x) 93))
                        have BW := Lib.hid ((Below.refl wr.heap.size wr).alloc (Nat.le_refl _) (.cells (orC x) 93))
                        cases k1 : rightO x.o with
                        | false =>
                          go_wp2_with fail
                          generalize wr.alloc (.cells (orC x) 93) = W1 at *
                          have f1 : ∀ p : Far W1, LdX 93 (.pointer (some ⟨wr.heap.size, 0, none⟩)) (farOf W1 p) = .ok (.value (orV x)) (farOf W1 p) := fun p => ld_or (R.out.below (far_below W1 p))
                          have g9 : ∀ p : Far W1, (farOf W1 p).cell? ⟨w.heap.size, 9, none⟩ = some (.slice (some ⟨b, o, none⟩) r.ords.length r.oc) := fun p => by rw [← He.out]; exact (J.out.below (far_below W1 p)).one.st.2.2.2.2.1
                          have g0 := fun p : Far W1 => (R.out.below (far_below W1 p)).o.1.1
                          have CR := Lib.hid (fun p : Far W1 => refORight_any x.a x.c x.o _ ((HS.out.below BW.out).below (far_below W1 p)))
                          clear ld
                          rw [k1] at CR
                          have HX := Lib.hid (show res = false by rw [HF.out, HD.out, k1, Bool.false_and, Bool.false_and])
                          refine wp_region_far (by kernel_rfl) (by kernel_rfl) ?_
                          repeat (first | go_big_quiet_step ((go_at_call 58; exact calls_far (CR.out _))) | quiet_step ((go_at_call 58; exact calls_far (CR.out _))))
                          refine wpQuiet_nil ?_
                          intro _ hw'
                          obtain ⟨q, hw''⟩ := hw'
                          subst hw''
                          have B5 := Lib.hid (J.out.below (far_below W1 q)).low
                          clear f1 g9 g0 CR
                          go_wp2_with fail
                          go_ret
                          exact ⟨by rw [HX.out]; try rfl, B5.out⟩
                        | true =>
                          by_cases hk0 : 0 < k
                          · obtain ⟨j, rfl⟩ : ∃ j, k = j + 1 := ⟨k - 1, by omega⟩
                            obtain ⟨y, hpv, hpc, hps⟩ := HPV.out j rfl
                            go_wp2_with fail
                            generalize wr.alloc (.cells (orC x) 93) = W1 at *
                            have f1 : ∀ p : Far W1, LdX 93 (.pointer (some ⟨wr.heap.size, 0, none⟩)) (farOf W1 p) = .ok (.value (orV x)) (farOf W1 p) := fun p => ld_or (R.out.below (far_below W1 p))
                            have g9 : ∀ p : Far W1, (farOf W1 p).cell? ⟨w.heap.size, 9, none⟩ = some (.slice (some ⟨b, o, none⟩) r.ords.length r.oc) := fun p => by rw [← He.out]; exact (J.out.below (far_below W1 p)).one.st.2.2.2.2.1
                            have g0 := fun p : Far W1 => (R.out.below (far_below W1 p)).o.1.1
                            have CR := Lib.hid (fun p : Far W1 => refORight_any x.a x.c x.o _ ((HS.out.below BW.out).below (far_below W1 p)))
                            clear ld
                            rw [k1] at CR
                            have hpc1 := (BW.out.cell (p := ⟨b, o + j * 10, none⟩) hb).trans hpc
                            have hb1 : b < W1.heap.size := Nat.lt_of_lt_of_le hb BW.out.size
                            have gp := far_cell hb1 hpc1
                            have CC := Lib.hid (fun p : Far W1 => refCmp_any y.o.id x.o.id (farOf W1 p) hps HS.out.id)
                            have h3 := kcmp_three y.o.id x.o.id
                            cases k2 : decide (kcmp y.o.id x.o.id < 0) with
                            | false =>
                              have hq3 : (kcmp y.o.id x.o.id != -1) = true := by simp at k2 ⊢; omega
                              have HX := Lib.hid (show res = false by rw [HF.out, HD.out, k1, hpv, aheadO]; simp only [k2, Bool.false_and, Bool.true_and])
                              clear k2 h3 hpv hpc hpc1
                              generalize kcmp y.o.id x.o.id = c at *
                              refine wp_region_far (by kernel_rfl) (by kernel_rfl) ?_
                              repeat (first | go_big_quiet_step (first | (go_at_call 58; exact calls_far (CR.out _)) | (go_at_call 59; exact calls_far (CC.out _))) | quiet_step (first | (go_at_call 58; exact calls_far (CR.out _)) | (go_at_call 59; exact calls_far (CC.out _))))
                              refine wpQuiet_nil ?_
                              intro _ hw'
                              obtain ⟨q, hw''⟩ := hw'
                              subst hw''
                              have B5 := Lib.hid (J.out.below (far_below W1 q)).low
                              clear f1 g9 g0 gp CR CC
                              go_wp2_with fail
                              go_ret
                              exact ⟨by rw [HX.out]; try rfl, B5.out⟩
                            | true =>
                              have hq3 : (kcmp y.o.id x.o.id != -1) = false := by simp at k2 ⊢; omega
                              have HN := Lib.hid (show res = (goodO (prevO (odsOf r.ords) (j + 1 + 1)) ((odsOf r.ords).drop (j + 1 + 1)) && (goodB (odsOf r.ords) r.nb none (btsOf r.bats) && ((odsOf r.ords).all (heldIn (btsOf r.bats)) && effsOk (odsOf r.ords) (btsOf r.bats) r.effs r.nk))) by rw [HF.out, HD.out, k1, hpv, aheadO]; simp only [k2, Bool.true_and])
                              have HQ2 := Lib.hid (show goodO none (odsOf r.ords) = goodO (prevO (odsOf r.ords) (j + 1 + 1)) ((odsOf r.ords).drop (j + 1 + 1)) by rw [HQ.out, HD.out, k1, hpv, aheadO]; simp only [k2, Bool.true_and])
                              clear k2 h3 hpv hpc hpc1
                              generalize kcmp y.o.id x.o.id = c at *
                              refine wp_region_far (by kernel_rfl) (by kernel_rfl) ?_
                              repeat (first | go_big_quiet_step (first | (go_at_call 58; exact calls_far (CR.out _)) | (go_at_call 59; exact calls_far (CC.out _))) | quiet_step (first | (go_at_call 58; exact calls_far (CR.out _)) | (go_at_call 59; exact calls_far (CC.out _))))
                              refine wpQuiet_nil ?_
                              intro _ hw'
                              obtain ⟨q, hw''⟩ := hw'
                              subst hw''
                              have J2 := Lib.hid (J.out.below (far_below W1 q))
                              clear f1 g9 g0 gp CR CC
                              go_wp2_with fail
                              go_roundw
                              case rel => exact ⟨j + 1 + 1, by omega, by go_num, HN, HQ2, J2⟩
                              case measure => simp [intOf]; omega
                          · have HP0 := Lib.hid (show prevO (odsOf r.ords) k = none by simp [prevO]; omega)
                            have HN := Lib.hid (show res = (goodO (prevO (odsOf r.ords) (k + 1)) ((odsOf r.ords).drop (k + 1)) && (goodB (odsOf r.ords) r.nb none (btsOf r.bats) && ((odsOf r.ords).all (heldIn (btsOf r.bats)) && effsOk (odsOf r.ords) (btsOf r.bats) r.effs r.nk))) by rw [HF.out, HD.out, k1, HP0.out]; rfl)
                            have HQ2 := Lib.hid (show goodO none (odsOf r.ords) = goodO (prevO (odsOf r.ords) (k + 1)) ((odsOf r.ords).drop (k + 1)) by rw [HQ.out, HD.out, k1, HP0.out]; rfl)
                            go_wp2_with fail
                            generalize wr.alloc (.cells (orC x) 93) = W1 at *
                            have f1 : ∀ p : Far W1, LdX 93 (.pointer (some ⟨wr.heap.size, 0, none⟩)) (farOf W1 p) = .ok (.value (orV x)) (farOf W1 p) := fun p => ld_or (R.out.below (far_below W1 p))
                            have g9 : ∀ p : Far W1, (farOf W1 p).cell? ⟨w.heap.size, 9, none⟩ = some (.slice (some ⟨b, o, none⟩) r.ords.length r.oc) := fun p => by rw [← He.out]; exact (J.out.below (far_below W1 p)).one.st.2.2.2.2.1
                            have g0 := fun p : Far W1 => (R.out.below (far_below W1 p)).o.1.1
                            have CR := Lib.hid (fun p : Far W1 => refORight_any x.a x.c x.o _ ((HS.out.below BW.out).below (far_below W1 p)))
                            clear ld
                            rw [k1] at CR
                            refine wp_region_far (by kernel_rfl) (by kernel_rfl) ?_
                            repeat (first | go_big_quiet_step ((go_at_call 58; exact calls_far (CR.out _))) | quiet_step ((go_at_call 58; exact calls_far (CR.out _))))
                            refine wpQuiet_nil ?_
                            intro _ hw'
                            obtain ⟨q, hw''⟩ := hw'
                            subst hw''
                            have J2 := Lib.hid (J.out.below (far_below W1 q))
                            clear f1 g9 g0 CR
                            go_wp2_with fail
                            go_roundw
                            case rel => exact ⟨k + 1, by omega, by go_num, HN, HQ2, J2⟩
                            case measure => simp [intOf]; omega
                      · have HF2 := Lib.hid (show res = (goodB (odsOf r.ords) r.nb none (btsOf r.bats) && ((odsOf r.ords).all (heldIn (btsOf r.bats)) && effsOk (odsOf r.ords) (btsOf r.bats) r.effs r.nk)) by rw [HF.out, List.drop_eq_nil_of_le (by simp [odsOf]; omega)]; rfl)
                        have HO := Lib.hid (show goodO none (odsOf r.ords) = true by rw [HQ.out, List.drop_eq_nil_of_le (by simp [odsOf]; omega)]; rfl)
                        clear HF HQ
                        have c10 := HI.out.one.st.2.2.2.2.2.1
                        go_wp2_with fail
                        go_loopw [96] (fun i wr => ∃ (k : Nat), k ≤ r.bats.length ∧ i = .int .i64 k ∧ Hid (res = (goodB (odsOf r.ords) r.nb (prevB (btsOf r.bats) k) ((btsOf r.bats).drop k) && ((odsOf r.ords).all (heldIn (btsOf r.bats)) && effsOk (odsOf r.ords) (btsOf r.bats) r.effs r.nk))) ∧ Hid (goodB (odsOf r.ords) r.nb none (btsOf r.bats) = goodB (odsOf r.ords) r.nb (prevB (btsOf r.bats) k) ((btsOf r.bats).drop (k))) ∧ Hid (OnI w r wr)) (fun i _ => r.bats.length - (intOf i).toNat)
                        case atStart => exact ⟨0, Nat.zero_le _, rfl, HF2, Lib.hid rfl, HI⟩
                        case round =>
                          clear HI HF2 c10
                          obtain ⟨k, hk, rfl, HF, HQ, HI⟩ := hrel
                          by_cases hlt : k < r.bats.length
                          · obtain ⟨b, o, e, hb, _, ld, _⟩ := HI.out.st.bats.ld k hlt
                            have HD := Lib.hid (goodB_raw (odsOf r.ords) r.nb r.bats k hlt)
                            have HS := Lib.hid (HI.out.st.bats.each _ (List.getElem_mem hlt))
                            have HPV : ∀ j, k = j + 1 → ∃ y : BtR, prevB (btsOf r.bats) k = some y.b.id ∧ wr.cell? ⟨b, o + j * 9, none⟩ = some (.int .i64 y.b.id) := by
                              intro j hj
                              subst hj
                              obtain ⟨b2, o2, e2, _, hc, _, _⟩ := HI.out.st.bats.ld j (by omega)
                              rw [e] at e2
                              injection e2 with e2
                              injection e2 with e3 e4
                              subst e3 e4
                              exact ⟨r.bats[j]'(by omega), by rw [prevB_succ (by simpa [btsOf] using (by omega : j < r.bats.length))]; simp [btsOf], hc⟩
                            have HPV := Lib.hid HPV
                            rw [e]
                            have He := Lib.hid e
                            clear e
                            generalize r.bats[k] = x at *
                            have R := Lib.hid (Row.new wr (baC x) 98)
                            have J := Lib.hid (HI.out.more (.cells (baC x) 98))
                            have BW := Lib.hid ((Below.refl wr.heap.size wr).alloc (Nat.le_refl _) (.cells (baC x) 98))
                            cases k1 : batchOk (odsOf r.ords) r.nb x.b with
                            | false =>
                              go_wp2_with fail
                              generalize wr.alloc (.cells (baC x) 98) = W1 at *
                              have f1 : ∀ p : Far W1, LdX 98 (.pointer (some ⟨wr.heap.size, 0, none⟩)) (farOf W1 p) = .ok (.value (baV x)) (farOf W1 p) := fun p => ld_ba (R.out.below (far_below W1 p))
                              have f2 : ∀ p : Far W1, LdX 37 (.pointer (some ⟨w.heap.size, 0, none⟩)) (farOf W1 p) = .ok (.value (stV r)) (farOf W1 p) := fun p => ld_sta (J.out.below (far_below W1 p)).one
                              have g9 : ∀ p : Far W1, (farOf W1 p).cell? ⟨w.heap.size, 10, none⟩ = some (.slice (some ⟨b, o, none⟩) r.bats.length r.bc) := fun p => by rw [← He.out]; exact (J.out.below (far_below W1 p)).one.st.2.2.2.2.2.1
                              have g0 := fun p : Far W1 => (R.out.below (far_below W1 p)).b.1.1
                              have CR := Lib.hid (fun p : Far W1 => batchOk_any r x _ (J.out.below (far_below W1 p)).st ((HS.out.below BW.out).below (far_below W1 p)))
                              clear ld
                              rw [k1] at CR
                              have HX := Lib.hid (show res = false by rw [HF.out, HD.out, k1, Bool.false_and, Bool.false_and])
                              refine wp_region_far (by kernel_rfl) (by kernel_rfl) ?_
                              repeat (first | go_big_quiet_step ((go_at_call 60; exact calls_far (CR.out _))) | quiet_step ((go_at_call 60; exact calls_far (CR.out _))))
                              refine wpQuiet_nil ?_
                              intro _ hw'
                              obtain ⟨q, hw''⟩ := hw'
                              subst hw''
                              have B5 := Lib.hid (J.out.below (far_below W1 q)).low
                              clear f1 f2 g9 g0 CR
                              go_wp2_with fail
                              go_ret
                              exact ⟨by rw [HX.out]; try rfl, B5.out⟩
                            | true =>
                              by_cases hk0 : 0 < k
                              · obtain ⟨j, rfl⟩ : ∃ j, k = j + 1 := ⟨k - 1, by omega⟩
                                obtain ⟨y, hpv, hpc⟩ := HPV.out j rfl
                                go_wp2_with fail
                                generalize wr.alloc (.cells (baC x) 98) = W1 at *
                                have f1 : ∀ p : Far W1, LdX 98 (.pointer (some ⟨wr.heap.size, 0, none⟩)) (farOf W1 p) = .ok (.value (baV x)) (farOf W1 p) := fun p => ld_ba (R.out.below (far_below W1 p))
                                have f2 : ∀ p : Far W1, LdX 37 (.pointer (some ⟨w.heap.size, 0, none⟩)) (farOf W1 p) = .ok (.value (stV r)) (farOf W1 p) := fun p => ld_sta (J.out.below (far_below W1 p)).one
                                have g9 : ∀ p : Far W1, (farOf W1 p).cell? ⟨w.heap.size, 10, none⟩ = some (.slice (some ⟨b, o, none⟩) r.bats.length r.bc) := fun p => by rw [← He.out]; exact (J.out.below (far_below W1 p)).one.st.2.2.2.2.2.1
                                have g0 := fun p : Far W1 => (R.out.below (far_below W1 p)).b.1.1
                                have CR := Lib.hid (fun p : Far W1 => batchOk_any r x _ (J.out.below (far_below W1 p)).st ((HS.out.below BW.out).below (far_below W1 p)))
                                clear ld
                                rw [k1] at CR
                                have hpc1 := (BW.out.cell (p := ⟨b, o + j * 9, none⟩) hb).trans hpc
                                have hb1 : b < W1.heap.size := Nat.lt_of_lt_of_le hb BW.out.size
                                have gp := far_cell hb1 hpc1
                                cases k2 : decide (y.b.id < x.b.id) with
                                | false =>
                                  have hq3 : x.b.id ≤ y.b.id := by simp at k2; omega
                                  have HX := Lib.hid (show res = false by rw [HF.out, HD.out, k1, hpv, aheadB]; simp only [k2, Bool.false_and, Bool.true_and])
                                  clear k2 hpv hpc hpc1
                                  refine wp_region_far (by kernel_rfl) (by kernel_rfl) ?_
                                  repeat (first | go_big_quiet_step ((go_at_call 60; exact calls_far (CR.out _))) | quiet_step ((go_at_call 60; exact calls_far (CR.out _))))
                                  refine wpQuiet_nil ?_
                                  intro _ hw'
                                  obtain ⟨q, hw''⟩ := hw'
                                  subst hw''
                                  have B5 := Lib.hid (J.out.below (far_below W1 q)).low
                                  clear f1 f2 g9 g0 gp CR
                                  go_wp2_with fail
                                  go_ret
                                  exact ⟨by rw [HX.out]; try rfl, B5.out⟩
                                | true =>
                                  have hq3 : ¬ x.b.id ≤ y.b.id := by simp at k2; omega
                                  have HN := Lib.hid (show res = (goodB (odsOf r.ords) r.nb (prevB (btsOf r.bats) (j + 1 + 1)) ((btsOf r.bats).drop (j + 1 + 1)) && ((odsOf r.ords).all (heldIn (btsOf r.bats)) && effsOk (odsOf r.ords) (btsOf r.bats) r.effs r.nk)) by rw [HF.out, HD.out, k1, hpv, aheadB]; simp only [k2, Bool.true_and])
                                  have HQ2 := Lib.hid (show goodB (odsOf r.ords) r.nb none (btsOf r.bats) = goodB (odsOf r.ords) r.nb (prevB (btsOf r.bats) (j + 1 + 1)) ((btsOf r.bats).drop (j + 1 + 1)) by rw [HQ.out, HD.out, k1, hpv, aheadB]; simp only [k2, Bool.true_and])
                                  clear k2 hpv hpc hpc1
                                  refine wp_region_far (by kernel_rfl) (by kernel_rfl) ?_
                                  repeat (first | go_big_quiet_step ((go_at_call 60; exact calls_far (CR.out _))) | quiet_step ((go_at_call 60; exact calls_far (CR.out _))))
                                  refine wpQuiet_nil ?_
                                  intro _ hw'
                                  obtain ⟨q, hw''⟩ := hw'
                                  subst hw''
                                  have J2 := Lib.hid (J.out.below (far_below W1 q))
                                  clear f1 f2 g9 g0 gp CR
                                  go_wp2_with fail
                                  go_roundw
                                  case rel => exact ⟨j + 1 + 1, by omega, by go_num, HN, HQ2, J2⟩
                                  case measure => simp [intOf]; omega
                              · have HP0 := Lib.hid (show prevB (btsOf r.bats) k = none by simp [prevB]; omega)
                                have HN := Lib.hid (show res = (goodB (odsOf r.ords) r.nb (prevB (btsOf r.bats) (k + 1)) ((btsOf r.bats).drop (k + 1)) && ((odsOf r.ords).all (heldIn (btsOf r.bats)) && effsOk (odsOf r.ords) (btsOf r.bats) r.effs r.nk)) by rw [HF.out, HD.out, k1, HP0.out]; rfl)
                                have HQ2 := Lib.hid (show goodB (odsOf r.ords) r.nb none (btsOf r.bats) = goodB (odsOf r.ords) r.nb (prevB (btsOf r.bats) (k + 1)) ((btsOf r.bats).drop (k + 1)) by rw [HQ.out, HD.out, k1, HP0.out]; rfl)
                                go_wp2_with fail
                                generalize wr.alloc (.cells (baC x) 98) = W1 at *
                                have f1 : ∀ p : Far W1, LdX 98 (.pointer (some ⟨wr.heap.size, 0, none⟩)) (farOf W1 p) = .ok (.value (baV x)) (farOf W1 p) := fun p => ld_ba (R.out.below (far_below W1 p))
                                have f2 : ∀ p : Far W1, LdX 37 (.pointer (some ⟨w.heap.size, 0, none⟩)) (farOf W1 p) = .ok (.value (stV r)) (farOf W1 p) := fun p => ld_sta (J.out.below (far_below W1 p)).one
                                have g9 : ∀ p : Far W1, (farOf W1 p).cell? ⟨w.heap.size, 10, none⟩ = some (.slice (some ⟨b, o, none⟩) r.bats.length r.bc) := fun p => by rw [← He.out]; exact (J.out.below (far_below W1 p)).one.st.2.2.2.2.2.1
                                have g0 := fun p : Far W1 => (R.out.below (far_below W1 p)).b.1.1
                                have CR := Lib.hid (fun p : Far W1 => batchOk_any r x _ (J.out.below (far_below W1 p)).st ((HS.out.below BW.out).below (far_below W1 p)))
                                clear ld
                                rw [k1] at CR
                                refine wp_region_far (by kernel_rfl) (by kernel_rfl) ?_
                                repeat (first | go_big_quiet_step ((go_at_call 60; exact calls_far (CR.out _))) | quiet_step ((go_at_call 60; exact calls_far (CR.out _))))
                                refine wpQuiet_nil ?_
                                intro _ hw'
                                obtain ⟨q, hw''⟩ := hw'
                                subst hw''
                                have J2 := Lib.hid (J.out.below (far_below W1 q))
                                clear f1 f2 g9 g0 CR
                                go_wp2_with fail
                                go_roundw
                                case rel => exact ⟨k + 1, by omega, by go_num, HN, HQ2, J2⟩
                                case measure => simp [intOf]; omega
                          · have HF3 := Lib.hid (show res = ((odsOf r.ords).all (heldIn (btsOf r.bats)) && effsOk (odsOf r.ords) (btsOf r.bats) r.effs r.nk) by rw [HF.out, List.drop_eq_nil_of_le (by simp [btsOf]; omega)]; rfl)
                            have HB := Lib.hid (show goodB (odsOf r.ords) r.nb none (btsOf r.bats) = true by rw [HQ.out, List.drop_eq_nil_of_le (by simp [btsOf]; omega)]; rfl)
                            clear HF HQ
                            have c9 := HI.out.one.st.2.2.2.2.1
                            go_wp2_with fail
                            go_loopw [125] (fun i wr => ∃ (k : Nat), k ≤ r.ords.length ∧ i = .int .i64 k ∧ Hid (res = ((r.ords.drop k).all (fun x => heldIn (btsOf r.bats) x.o) && effsOk (odsOf r.ords) (btsOf r.bats) r.effs r.nk)) ∧ Hid (OnI w r wr)) (fun i _ => r.ords.length - (intOf i).toNat)
                            case atStart => exact ⟨0, Nat.zero_le _, rfl, Lib.hid (by rw [HF3.out]; unfold odsOf; rw [List.all_map]; rfl), HI⟩
                            case round =>
                              clear HI HF3 c9
                              obtain ⟨k, hk, rfl, HF, HI⟩ := hrel
                              by_cases hlt : k < r.ords.length
                              · obtain ⟨b, o, e, hb, _, ld, _⟩ := HI.out.st.ords.ld k hlt
                                have HD := Lib.hid (all_drop (fun x : OdR => heldIn (btsOf r.bats) x.o) r.ords k hlt)
                                rw [e]
                                clear e
                                generalize r.ords[k] = x at *
                                have R := Lib.hid (Row.new wr (orC x) 93)
                                have J := Lib.hid (HI.out.more (.cells (orC x) 93))
                                have d9 := R.out.o.2.2.2.2.2
                                have ld2 := ld_sta J.out.one
                                have CB := Lib.hid (fun W hW => refBatch_any r x.o.batch W hW)
                                go_wp2_with fail
                                generalize wr.alloc (.cells (orC x) 93) = W1 at *
                                refine (CB.out _ J.out.st).mono ?_
                                rintro e w1 ⟨y, rfl, hy, hP, b1⟩
                                have HH := Lib.hid (show heldIn (btsOf r.bats) x.o = ((x.o.batch == 0) || ((findB (btsOf r.bats) x.o.batch).isSome && hasT y.b.mem x.o.id)) by unfold heldIn batchV; rw [hy])
                                have J1 := Lib.hid ((J.out.below b1).more (.cells (baC y) 98))
                                have R1 := Lib.hid ((R.out.below b1).more (.cells (baC y) 98))
                                have Q1 := Lib.hid (Row.new w1 (baC y) 98)
                                have CH := Lib.hid (fun W hW => refHas_any y.a y.c y.b x.o.id W hW)
                                have HM := Lib.hid (hP.mem.below ((Below.refl w1.heap.size w1).alloc (Nat.le_refl _) (.cells (baC y) 98)))
                                clear R J d9 ld ld2 CB hy hP b1
                                have d9 := R1.out.o.2.2.2.2.2
                                have d0 := R1.out.o.1.1
                                have ld3 := ld_ba Q1.out
                                cases k1 : (x.o.batch == 0) with
                                | true =>
                                  have k1d : (x.o.batch != 0) = false := by simp only [bne, k1]; rfl
                                  have HN := Lib.hid (show res = ((r.ords.drop (k + 1)).all (fun x => heldIn (btsOf r.bats) x.o) && effsOk (odsOf r.ords) (btsOf r.bats) r.effs r.nk) by rw [HF.out, HD.out, HH.out, k1, Bool.true_or, Bool.true_and])
                                  go_wp2_with fail
                                  go_roundw
                                  case rel => exact ⟨k + 1, by omega, by go_num, HN, J1⟩
                                  case measure => simp [intOf]; omega
                                | false =>
                                  have k1d : (x.o.batch != 0) = true := by simp only [bne, k1]; rfl
                                  cases k2 : (findB (btsOf r.bats) x.o.batch).isSome with
                                  | false =>
                                    have HX := Lib.hid (show res = false by rw [HF.out, HD.out, HH.out, k1, k2]; rfl)
                                    go_wp2_with fail
                                    go_ret
                                    exact ⟨by rw [HX.out]; try rfl, J1.out.low⟩
                                  | true =>
                                    go_wp2_with fail
                                    refine (CH.out _ HM.out).mono ?_
                                    rintro e w2 ⟨rfl, b2⟩
                                    have J2 := Lib.hid (J1.out.below b2)
                                    cases k3 : hasT y.b.mem x.o.id with
                                    | false =>
                                      have HX := Lib.hid (show res = false by rw [HF.out, HD.out, HH.out, k1, k2, k3]; rfl)
                                      clear d9 d0 ld3
                                      go_wp2_with fail
                                      go_ret
                                      exact ⟨by rw [HX.out]; try rfl, J2.out.low⟩
                                    | true =>
                                      have HN := Lib.hid (show res = ((r.ords.drop (k + 1)).all (fun x => heldIn (btsOf r.bats) x.o) && effsOk (odsOf r.ords) (btsOf r.bats) r.effs r.nk) by rw [HF.out, HD.out, HH.out, k1, k2, k3]; rfl)
                                      clear d9 d0 ld3
                                      go_wp2_with fail
                                      go_roundw
                                      case rel => exact ⟨k + 1, by omega, by go_num, HN, J2⟩
                                      case measure => simp [intOf]; omega
                              · have HF4 := Lib.hid (show res = effsOk (odsOf r.ords) (btsOf r.bats) r.effs r.nk by rw [HF.out, List.drop_eq_nil_of_le (by omega)]; rfl)
                                clear HF
                                have ld := ld_sta HI.out.one
                                have CE := Lib.hid (effsOk_any r wr HI.out.st (tame_of HO.out HB.out HV.out))
                                go_wp2_with fail
                                refine CE.out.mono ?_
                                rintro e w1 ⟨rfl, b1⟩
                                have J := Lib.hid (HI.out.below b1)
                                go_wp2_with fail
                                go_ret
                                exact ⟨by rw [HF4.out]; try rfl, J.out.low⟩
end
end

/- MgStates: States: held against each other, coming in, made; what follows of their rules. -/
section
/- StSame: What the document's Same of layer 15 answers: two states held against each other. -/
section
set_option maxRecDepth 100000
open Go.RowKit Go.ChangeShapes Go.WideShapes Go.ChangeAt
attribute [local go_sem ↓] ldOr stOr alOr bxOr bdOr ldBa stBa alBa bxBa bdBa ldSt stSt alSt bxSt bdSt ldEf stEf alEf bxEf eqEf bdEf bsEf ldGr bxGr eqGr ldCa bxCa eqCa
attribute [local go_sem] al_or bx_or st_ornew bd_or al_ba bx_ba st_banew bd_ba al_sta bx_sta st_stnew bd_sta al_ef bx_ef st_new bd_ef bs_ef bs_ef0 bx_gr ne_gr bx_ca ne_ca eq_caX

set_option maxHeartbeats 2000000 in
theorem refSameI_any (a1 a2 : Option Addr) (c1 c2 : Nat) (l m : List Int) (w : World) (h1 : IntsP w a1 c1 l) (h2 : IntsP w a2 c2 m) (hl : l.length ≤ maxLen) (_hm : m.length ≤ maxLen) :
    Calls Tryz.prog 71 #[.slice a1 l.length c1, .slice a2 m.length c2] w (Tell (sameI l m) w) := by
  have H1 := Lib.hid h1
  have H2 := Lib.hid h2
  have p1 := h1.cap
  have p2 := h2.cap
  unfold maxLen at hl
  clear h1 h2
  by_cases hq : l.length = m.length
  · have hqi : ((l.length : Int) != (m.length : Int)) = false := by simp; omega
    have HQ := Lib.hid hq
    clear hq
    go_enter Tryz.func71, Tryz.ntmps71
    go_wp2_with fail
    go_loopw [13] (fun i wr => ∃ (k : Nat), k ≤ l.length ∧ i = .int .i64 k ∧ Hid (sameI l m = sameI (l.drop k) (m.drop k)) ∧ Below w.heap.size w wr) (fun i _ => l.length - (intOf i).toNat)
    case atStart => exact ⟨0, Nat.zero_le _, rfl, Lib.hid rfl, Below.refl _ _⟩
    case round =>
      obtain ⟨k, hk, rfl, HF, hbw⟩ := hrel
      by_cases hlt : k < l.length
      · have hlt2 : k < m.length := by have := HQ.out; omega
        obtain ⟨b, o, rfl, hb, e1⟩ := (H1.out.below hbw).at k hlt
        obtain ⟨b2, o2, rfl, hb2, e2⟩ := (H2.out.below hbw).at k hlt2
        have HD := Lib.hid (show sameI (l.drop k) (m.drop k) = ((l[k] == m[k]) && sameI (l.drop (k + 1)) (m.drop (k + 1))) from sameBy_step hlt hlt2)
        generalize l[k] = x at *
        generalize m[k] = y at *
        have f1 : ∀ q : Far wr, (farOf wr q).cell? ⟨b, o + k, none⟩ = some (.int .i64 x) := far_cell hb e1
        have f2 : ∀ q : Far wr, (farOf wr q).cell? ⟨b2, o2 + k, none⟩ = some (.int .i64 y) := far_cell hb2 e2
        cases hx : (x == y) with
        | false =>
          have hxd : (x != y) = true := by simp only [bne, hx]; rfl
          have HX := Lib.hid (show sameI l m = false by rw [HF.out, HD.out, hx, Bool.false_and])
          go_wp2_with fail
          refine wp_region_far (by kernel_rfl) (by kernel_rfl) ?_
          repeat (first | go_big_quiet_step (fail) | quiet_step (fail))
          refine wpQuiet_nil ?_
          intro _ hw'
          obtain ⟨q, hw''⟩ := hw'
          subst hw''
          have hb5 := hbw.trans ((far_below wr q).mono hbw.size)
          go_wp2_with fail
          go_ret
          exact ⟨by rw [HX.out]; try rfl, hb5⟩
        | true =>
          have hxd : (x != y) = false := by simp only [bne, hx]; rfl
          have HN := Lib.hid (show sameI l m = sameI (l.drop (k + 1)) (m.drop (k + 1)) by rw [HF.out, HD.out, hx, Bool.true_and])
          go_wp2_with fail
          refine wp_region_far (by kernel_rfl) (by kernel_rfl) ?_
          repeat (first | go_big_quiet_step (fail) | quiet_step (fail))
          refine wpQuiet_nil ?_
          intro _ hw'
          obtain ⟨q, hw''⟩ := hw'
          subst hw''
          have hb5 := hbw.trans ((far_below wr q).mono hbw.size)
          go_wp2_with fail
          go_roundw
          case rel => exact ⟨k + 1, by omega, by go_num, HN, hb5⟩
          case measure => simp [intOf]; omega
      · have HX := Lib.hid (show sameI l m = true by rw [HF.out, List.drop_eq_nil_of_le (by omega), List.drop_eq_nil_of_le (by have := HQ.out; omega)]; rfl)
        go_wp2_with fail
        go_ret
        exact ⟨by rw [HX.out]; try rfl, hbw⟩
  · have hqi : ((l.length : Int) != (m.length : Int)) = true := by simp; omega
    have HX := Lib.hid (show sameI l m = false from sameBy_len hq)
    clear hq
    go_enter Tryz.func71, Tryz.ntmps71
    go_wp2_with fail
    go_ret
    exact ⟨by rw [HX.out]; try rfl, Below.refl _ _⟩

set_option maxHeartbeats 8000000 in
theorem refSameS_any (r s : StR) (w : World) (h : StP w r) (hs : StP w s) : Calls Tryz.prog 23 #[stV r, stV s] w (Tell (sameS r s) w) := by
  have I := Lib.hid (TwI.begin w r s h hs)
  have HE := Lib.hid (show sameS r s = (capsEq r.waves s.waves && (capsEq r.mans s.mans && ((r.limit == s.limit) && (sameI r.doors s.doors && ((r.now == s.now) && ((r.nb == s.nb) && ((r.nk == s.nk) && (sameE r.effs s.effs && (sameOs r.ords s.ords && sameBs r.bats s.bats))))))))) from rfl)
  have hdl := h.dlen
  have hds := hs.dlen
  have p1 := h.ords.sl.cap
  have p2 := h.bats.sl.cap
  have p3 := hs.ords.sl.cap
  have p4 := hs.bats.sl.cap
  have p5 := h.ords.sl.len
  have p6 := h.bats.sl.len
  unfold maxLen at p5 p6
  have CD := Lib.hid (fun W hW hX => refSameI_any r.da s.da r.dc s.dc r.doors s.doors W hW hX hdl hds)
  have CF := Lib.hid (fun W hW hX => obRefSame_any r.ea s.ea r.ec s.ec r.effs s.effs W hW hX)
  have c := I.out.one.st
  obtain ⟨⟨c0, c1, c2, c3, c4, c5⟩, c6, c7, c8, c9, c10, c11⟩ := c
  have d := I.out.two.st
  obtain ⟨⟨d0, d1, d2, d3, d4, d5⟩, d6, d7, d8, d9, d10, d11⟩ := d
  have l1 := ld_caAt c0 c1
  have l2 := ld_caAt c2 c3
  have l3 := ld_caAt d0 d1
  have l4 := ld_caAt d2 d3
  clear h hs c0 c1 c2 c3 d0 d1 d2 d3
  go_enter Tryz.func23, Tryz.ntmps23
  cases k1 : capsEq r.waves s.waves with
  | false =>
    have HX := Lib.hid (show sameS r s = false by rw [HE.out]; simp only [k1, Bool.false_and])
    go_wp2_with fail
    go_ret
    exact ⟨by rw [HX.out]; try rfl, I.out.low⟩
  | true =>
    cases k2 : capsEq r.mans s.mans with
    | false =>
      have HX := Lib.hid (show sameS r s = false by rw [HE.out]; simp only [k1, k2, Bool.false_and, Bool.and_false])
      go_wp2_with fail
      go_ret
      exact ⟨by rw [HX.out]; try rfl, I.out.low⟩
    | true =>
      cases k3 : (r.limit == s.limit) with
      | false =>
        have k3d : (r.limit != s.limit) = true := by simp only [bne, k3]; rfl
        have HX := Lib.hid (show sameS r s = false by rw [HE.out]; simp only [k1, k2, k3, Bool.false_and, Bool.and_false])
        go_wp2_with fail
        go_ret
        exact ⟨by rw [HX.out]; try rfl, I.out.low⟩
      | true =>
        have k3d : (r.limit != s.limit) = false := by simp only [bne, k3]; rfl
        go_wp2_with fail
        generalize (w.alloc (.cells (stC r) 37)).alloc (.cells (stC s) 37) = W0 at *
        refine (CD.out _ I.out.st.doors I.out.su.doors).mono ?_
        rintro e w1 ⟨rfl, b1⟩
        replace I := Lib.hid (I.out.below b1)
        clear b1 c4 c5 c6 c7 c8 c9 c10 c11 d4 d5 d6 d7 d8 d9 d10 d11 l1 l2 l3 l4 CD
        have c := I.out.one.st
        obtain ⟨_, c6, c7, c8, c9, c10, c11⟩ := c
        have d := I.out.two.st
        obtain ⟨_, d6, d7, d8, d9, d10, d11⟩ := d
        cases k4 : sameI r.doors s.doors with
        | false =>
          have HX := Lib.hid (show sameS r s = false by rw [HE.out]; simp only [k1, k2, k3, k4, Bool.false_and, Bool.and_false])
          go_wp2_with fail
          go_ret
          exact ⟨by rw [HX.out]; try rfl, I.out.low⟩
        | true =>
          cases k5 : (r.now == s.now) with
          | false =>
            have k5d : (r.now != s.now) = true := by simp only [bne, k5]; rfl
            have HX := Lib.hid (show sameS r s = false by rw [HE.out]; simp only [k1, k2, k3, k4, k5, Bool.false_and, Bool.and_false])
            go_wp2_with fail
            go_ret
            exact ⟨by rw [HX.out]; try rfl, I.out.low⟩
          | true =>
            have k5d : (r.now != s.now) = false := by simp only [bne, k5]; rfl
            cases k6 : (r.nb == s.nb) with
            | false =>
              have k6d : (r.nb != s.nb) = true := by simp only [bne, k6]; rfl
              have HX := Lib.hid (show sameS r s = false by rw [HE.out]; simp only [k1, k2, k3, k4, k5, k6, Bool.false_and, Bool.and_false])
              go_wp2_with fail
              go_ret
              exact ⟨by rw [HX.out]; try rfl, I.out.low⟩
            | true =>
              have k6d : (r.nb != s.nb) = false := by simp only [bne, k6]; rfl
              cases k7 : (r.nk == s.nk) with
              | false =>
                have k7d : (r.nk != s.nk) = true := by simp only [bne, k7]; rfl
                have HX := Lib.hid (show sameS r s = false by rw [HE.out]; simp only [k1, k2, k3, k4, k5, k6, k7, Bool.false_and, Bool.and_false])
                go_wp2_with fail
                go_ret
                exact ⟨by rw [HX.out]; try rfl, I.out.low⟩
              | true =>
                have k7d : (r.nk != s.nk) = false := by simp only [bne, k7]; rfl
                by_cases k8 : r.ords.length = s.ords.length
                · have k8d : ((r.ords.length : Int) != (s.ords.length : Int)) = false := by simp; omega
                  by_cases k9 : r.bats.length = s.bats.length
                  · have k9d : ((r.bats.length : Int) != (s.bats.length : Int)) = false := by simp; omega
                    have K8 := Lib.hid k8
                    have K9 := Lib.hid k9
                    clear k8 k9
                    go_wp2_with fail
                    refine (CF.out _ I.out.st.effs.sl I.out.su.effs.sl).mono ?_
                    rintro e w2 ⟨rfl, b2⟩
                    replace I := Lib.hid (I.out.below b2)
                    clear b2 c6 c7 c8 c9 c10 c11 d6 d7 d8 d9 d10 d11 CF
                    cases k10 : sameE r.effs s.effs with
                    | false =>
                      have HX := Lib.hid (show sameS r s = false by rw [HE.out]; simp only [k1, k2, k3, k4, k5, k6, k7, k10, Bool.false_and, Bool.and_false])
                      go_wp2_with fail
                      go_ret
                      exact ⟨by rw [HX.out]; try rfl, I.out.low⟩
                    | true =>
                      have HF := Lib.hid (show sameS r s = (sameOs r.ords s.ords && sameBs r.bats s.bats) by rw [HE.out]; simp only [k1, k2, k3, k4, k5, k6, k7, k10, Bool.true_and])
                      have c9 := I.out.one.st.2.2.2.2.1
                      clear HE k1 k2 k3 k4 k5 k6 k7 k10
                      go_wp2_with fail
                      go_loopw [82] (fun i wr => ∃ (k : Nat), k ≤ r.ords.length ∧ i = .int .i64 k ∧ Hid (sameS r s = (sameOs (r.ords.drop k) (s.ords.drop k) && sameBs r.bats s.bats)) ∧ Hid (TwI w r s wr)) (fun i _ => r.ords.length - (intOf i).toNat)
                      case atStart => exact ⟨0, Nat.zero_le _, rfl, HF, I⟩
                      case round =>
                        clear I HF
                        obtain ⟨k, hk, rfl, HF, HI⟩ := hrel
                        by_cases hlt : k < r.ords.length
                        · have hlt2 : k < s.ords.length := by have := K8.out; omega
                          obtain ⟨b, o, e, hb, _, l1, P1⟩ := HI.out.st.ords.ld k hlt
                          obtain ⟨b2, o2, e2, hb2, _, l2, P2⟩ := HI.out.su.ords.ld k hlt2
                          have HD := Lib.hid (show sameOs (r.ords.drop k) (s.ords.drop k) = (_ && sameOs (r.ords.drop (k + 1)) (s.ords.drop (k + 1))) from sameBy_step hlt hlt2)
                          have f1 : ∀ q : Far wr, LdX 93 (.pointer (some ⟨b, o + k * 10, none⟩)) (farOf wr q) = .ok (.value (orV r.ords[k])) (farOf wr q) := fun q => by
                            obtain ⟨b', o', e', _, _, l', _⟩ := (HI.out.below (far_below wr q)).st.ords.ld k hlt
                            rw [e] at e'
                            injection e' with e'
                            injection e' with e3 e4
                            subst e3 e4
                            exact l'
                          have f2 : ∀ q : Far wr, LdX 93 (.pointer (some ⟨b2, o2 + k * 10, none⟩)) (farOf wr q) = .ok (.value (orV s.ords[k])) (farOf wr q) := fun q => by
                            obtain ⟨b', o', e', _, _, l', _⟩ := (HI.out.below (far_below wr q)).su.ords.ld k hlt2
                            rw [e2] at e'
                            injection e' with e'
                            injection e' with e3 e4
                            subst e3 e4
                            exact l'
                          have g1 : ∀ q : Far wr, (farOf wr q).cell? ⟨w.heap.size, 9, none⟩ = some (.slice (some ⟨b, o, none⟩) r.ords.length r.oc) := fun q => by rw [← e]; exact (HI.out.below (far_below wr q)).one.st.2.2.2.2.1
                          have g2 : ∀ q : Far wr, (farOf wr q).cell? ⟨w.heap.size + 1, 9, none⟩ = some (.slice (some ⟨b2, o2, none⟩) s.ords.length s.oc) := fun q => by rw [← e2]; exact (HI.out.below (far_below wr q)).two.st.2.2.2.2.1
                          clear e e2 l1 l2
                          generalize r.ords[k] = x at *
                          generalize s.ords[k] = y at *
                          have CC := Lib.hid (fun q : Far wr => refOSame_any x.a y.a x.c y.c x.o y.o _ (P1.below (far_below wr q)) (P2.below (far_below wr q)))
                          clear P1 P2
                          cases k1 : sameO x.o y.o with
                          | false =>
                            have HX := Lib.hid (show sameS r s = false by rw [HF.out, HD.out, k1, Bool.false_and]; rfl)
                            rw [k1] at CC
                            go_wp2_with fail
                            refine wp_region_far (by kernel_rfl) (by kernel_rfl) ?_
                            repeat (first | go_big_quiet_step ((go_at_call 73; exact calls_far (CC.out _))) | quiet_step ((go_at_call 73; exact calls_far (CC.out _))))
                            refine wpQuiet_nil ?_
                            intro _ hw'
                            obtain ⟨q, hw''⟩ := hw'
                            subst hw''
                            have J := Lib.hid (HI.out.below (far_below wr q))
                            clear f1 f2 g1 g2 CC
                            go_wp2_with fail
                            go_ret
                            exact ⟨by rw [HX.out]; try rfl, J.out.low⟩
                          | true =>
                            have HN := Lib.hid (show sameS r s = (sameOs (r.ords.drop (k + 1)) (s.ords.drop (k + 1)) && sameBs r.bats s.bats) by rw [HF.out, HD.out, k1, Bool.true_and])
                            rw [k1] at CC
                            go_wp2_with fail
                            refine wp_region_far (by kernel_rfl) (by kernel_rfl) ?_
                            repeat (first | go_big_quiet_step ((go_at_call 73; exact calls_far (CC.out _))) | quiet_step ((go_at_call 73; exact calls_far (CC.out _))))
                            refine wpQuiet_nil ?_
                            intro _ hw'
                            obtain ⟨q, hw''⟩ := hw'
                            subst hw''
                            have J := Lib.hid (HI.out.below (far_below wr q))
                            clear f1 f2 g1 g2 CC
                            go_wp2_with fail
                            go_roundw
                            case rel => exact ⟨k + 1, by omega, by go_num, HN, J⟩
                            case measure => simp [intOf]; omega
                        · have HF2 := Lib.hid (show sameS r s = sameBs r.bats s.bats by rw [HF.out, List.drop_eq_nil_of_le (by omega), List.drop_eq_nil_of_le (by have := K8.out; omega)]; rfl)
                          have c10 := HI.out.one.st.2.2.2.2.2.1
                          clear HF
                          have I := HI
                          clear HI
                          go_wp2_with fail
                          go_loopw [101] (fun i wr => ∃ (k : Nat), k ≤ r.bats.length ∧ i = .int .i64 k ∧ Hid (sameS r s = (sameBs (r.bats.drop k) (s.bats.drop k))) ∧ Hid (TwI w r s wr)) (fun i _ => r.bats.length - (intOf i).toNat)
                          case atStart => exact ⟨0, Nat.zero_le _, rfl, HF2, I⟩
                          case round =>
                            clear I HF2
                            obtain ⟨k, hk, rfl, HF, HI⟩ := hrel
                            by_cases hlt : k < r.bats.length
                            · have hlt2 : k < s.bats.length := by have := K9.out; omega
                              obtain ⟨b, o, e, hb, _, l1, P1⟩ := HI.out.st.bats.ld k hlt
                              obtain ⟨b2, o2, e2, hb2, _, l2, P2⟩ := HI.out.su.bats.ld k hlt2
                              have HD := Lib.hid (show sameBs (r.bats.drop k) (s.bats.drop k) = (_ && sameBs (r.bats.drop (k + 1)) (s.bats.drop (k + 1))) from sameBy_step hlt hlt2)
                              have f1 : ∀ q : Far wr, LdX 98 (.pointer (some ⟨b, o + k * 9, none⟩)) (farOf wr q) = .ok (.value (baV r.bats[k])) (farOf wr q) := fun q => by
                                obtain ⟨b', o', e', _, _, l', _⟩ := (HI.out.below (far_below wr q)).st.bats.ld k hlt
                                rw [e] at e'
                                injection e' with e'
                                injection e' with e3 e4
                                subst e3 e4
                                exact l'
                              have f2 : ∀ q : Far wr, LdX 98 (.pointer (some ⟨b2, o2 + k * 9, none⟩)) (farOf wr q) = .ok (.value (baV s.bats[k])) (farOf wr q) := fun q => by
                                obtain ⟨b', o', e', _, _, l', _⟩ := (HI.out.below (far_below wr q)).su.bats.ld k hlt2
                                rw [e2] at e'
                                injection e' with e'
                                injection e' with e3 e4
                                subst e3 e4
                                exact l'
                              have g1 : ∀ q : Far wr, (farOf wr q).cell? ⟨w.heap.size, 10, none⟩ = some (.slice (some ⟨b, o, none⟩) r.bats.length r.bc) := fun q => by rw [← e]; exact (HI.out.below (far_below wr q)).one.st.2.2.2.2.2.1
                              have g2 : ∀ q : Far wr, (farOf wr q).cell? ⟨w.heap.size + 1, 10, none⟩ = some (.slice (some ⟨b2, o2, none⟩) s.bats.length s.bc) := fun q => by rw [← e2]; exact (HI.out.below (far_below wr q)).two.st.2.2.2.2.2.1
                              clear e e2 l1 l2
                              generalize r.bats[k] = x at *
                              generalize s.bats[k] = y at *
                              have CC := Lib.hid (fun q : Far wr => refBtSame_any x.a y.a x.c y.c x.b y.b _ (P1.below (far_below wr q)) (P2.below (far_below wr q)))
                              clear P1 P2
                              cases k1 : sameBt x.b y.b with
                              | false =>
                                have HX := Lib.hid (show sameS r s = false by rw [HF.out, HD.out, k1, Bool.false_and])
                                rw [k1] at CC
                                go_wp2_with fail
                                refine wp_region_far (by kernel_rfl) (by kernel_rfl) ?_
                                repeat (first | go_big_quiet_step ((go_at_call 74; exact calls_far (CC.out _))) | quiet_step ((go_at_call 74; exact calls_far (CC.out _))))
                                refine wpQuiet_nil ?_
                                intro _ hw'
                                obtain ⟨q, hw''⟩ := hw'
                                subst hw''
                                have J := Lib.hid (HI.out.below (far_below wr q))
                                clear f1 f2 g1 g2 CC
                                go_wp2_with fail
                                go_ret
                                exact ⟨by rw [HX.out]; try rfl, J.out.low⟩
                              | true =>
                                have HN := Lib.hid (show sameS r s = (sameBs (r.bats.drop (k + 1)) (s.bats.drop (k + 1))) by rw [HF.out, HD.out, k1, Bool.true_and])
                                rw [k1] at CC
                                go_wp2_with fail
                                refine wp_region_far (by kernel_rfl) (by kernel_rfl) ?_
                                repeat (first | go_big_quiet_step ((go_at_call 74; exact calls_far (CC.out _))) | quiet_step ((go_at_call 74; exact calls_far (CC.out _))))
                                refine wpQuiet_nil ?_
                                intro _ hw'
                                obtain ⟨q, hw''⟩ := hw'
                                subst hw''
                                have J := Lib.hid (HI.out.below (far_below wr q))
                                clear f1 f2 g1 g2 CC
                                go_wp2_with fail
                                go_roundw
                                case rel => exact ⟨k + 1, by omega, by go_num, HN, J⟩
                                case measure => simp [intOf]; omega
                            · have HX := Lib.hid (show sameS r s = true by rw [HF.out, List.drop_eq_nil_of_le (by omega), List.drop_eq_nil_of_le (by have := K9.out; omega)]; rfl)
                              go_wp2_with fail
                              go_ret
                              exact ⟨by rw [HX.out]; try rfl, HI.out.low⟩
                  · have k9d : ((r.bats.length : Int) != (s.bats.length : Int)) = true := by simp; omega
                    have HX := Lib.hid (show sameS r s = false by rw [HE.out, show sameBs r.bats s.bats = false from sameBy_len k9, Bool.and_false, Bool.and_false, Bool.and_false, Bool.and_false, Bool.and_false, Bool.and_false, Bool.and_false, Bool.and_false, Bool.and_false])
                    clear k8 k9
                    go_wp2_with fail
                    go_ret
                    exact ⟨by rw [HX.out]; try rfl, I.out.low⟩
                · have k8d : ((r.ords.length : Int) != (s.ords.length : Int)) = true := by simp; omega
                  have HX := Lib.hid (show sameS r s = false by rw [HE.out, show sameOs r.ords s.ords = false from sameBy_len k8, Bool.false_and, Bool.and_false, Bool.and_false, Bool.and_false, Bool.and_false, Bool.and_false, Bool.and_false, Bool.and_false, Bool.and_false])
                  clear k8
                  go_wp2_with fail
                  go_ret
                  exact ⟨by rw [HX.out]; try rfl, I.out.low⟩
end

/- StNew: What the document's New of layer 15 answers. -/
section
set_option maxRecDepth 100000
open Go.RowKit Go.ChangeShapes Go.WideShapes Go.ChangeAt
attribute [local go_sem ↓] ldOr stOr alOr bxOr bdOr ldBa stBa alBa bxBa bdBa ldSt stSt alSt bxSt bdSt ldEf stEf alEf bxEf eqEf bdEf bsEf ldGr bxGr eqGr ldCa bxCa eqCa
attribute [local go_sem] al_or bx_or st_ornew bd_or al_ba bx_ba st_banew bd_ba al_sta bx_sta st_stnew bd_sta al_ef bx_ef st_new bd_ef bs_ef bs_ef0 bx_gr ne_gr bx_ca ne_ca

end

/- StArgs: What came in as a state, as two caps, as numbers. -/
section
set_option maxRecDepth 100000
open Go.ChangeShapes Go.WideShapes Go.ChangeAt Go.RowKit

end

/- StGreat: The laws' bound on states. -/
section
set_option maxRecDepth 100000
open Go.RowKit Go.ChangeShapes Go.WideShapes Go.ChangeAt
attribute [local go_sem ↓] ldOr stOr alOr bxOr bdOr ldBa stBa alBa bxBa bdBa ldSt stSt alSt bxSt bdSt ldEf stEf alEf bxEf eqEf bdEf bsEf ldGr bxGr eqGr
attribute [local go_sem] al_or bx_or st_ornew bd_or al_ba bx_ba st_banew bd_ba al_sta bx_sta st_stnew bd_sta al_ef bx_ef st_new bd_ef bs_ef bs_ef0 bx_gr ne_gr

end

/- StHung: Plain facts on a state that hangs together: who is found, what is held. -/
section
set_option maxRecDepth 100000

end

/- StCon: What package state's calls answer, as the laws want it. -/
section
set_option maxRecDepth 100000
open Go.RowKit Go.ChangeShapes Go.WideShapes Go.ChangeAt

end

/- StAlive: The chapter's example. -/
section
set_option maxRecDepth 100000
open Go.RowKit Go.ChangeShapes Go.WideShapes Go.ChangeAt
attribute [local go_sem ↓] ldOr stOr alOr bxOr bdOr ldBa stBa alBa bxBa bdBa ldSt stSt alSt bxSt bdSt ldEf stEf alEf bxEf eqEf bdEf bsEf ldGr bxGr eqGr ldCa bxCa eqCa
attribute [local go_sem] al_or bx_or st_ornew bd_or al_ba bx_ba st_banew bd_ba al_sta bx_sta st_stnew bd_sta al_ef bx_ef st_new bd_ef bs_ef bs_ef0 bx_gr ne_gr bx_ca ne_ca eq_caX

section
variable (ev : Operand → Value) (d : Option Tmp) (ty : TypeId) (pos : String) (af : Array Edge) (gd : Option (Nat × Bool)) (w : World)
end
attribute [local go_sem ↓] bsOr
attribute [local go_sem] bd_odA bs_odA bd_efA

end

/- StMust: Plain facts on effects: what must be asked is just what is asked. -/
section
set_option maxRecDepth 100000

end

/- StCount: Plain facts on counting what is needed against what is asked. -/
section
set_option maxRecDepth 100000

end

/- StBreak: Plain facts: a state that hangs together doesn't any more without one of its effects, or with an order in the next phase. -/
section
set_option maxRecDepth 100000

end

/- StHeld: Rows of numbers of 64 bits of the call's own; what the document's Held of layer 15 answers. -/
section
set_option maxRecDepth 100000
open Go.RowKit Go.ChangeShapes Go.WideShapes Go.ChangeAt
attribute [local go_sem ↓] ldOr stOr alOr bxOr bdOr ldBa stBa alBa bxBa bdBa ldSt stSt alSt bxSt bdSt ldEf stEf alEf bxEf eqEf bdEf bsEf ldGr bxGr eqGr ldCa bxCa eqCa
attribute [local go_sem] al_or bx_or st_ornew bd_or al_ba bx_ba st_banew bd_ba al_sta bx_sta st_stnew bd_sta al_ef bx_ef st_new bd_ef bs_ef bs_ef0 bx_gr ne_gr bx_ca ne_ca eq_grX

end
end

/- BkRead: What number of package packet, and the document's Take, answer. -/
section
set_option maxRecDepth 100000
open Go.ChangeShapes Go.WideShapes Go.ChangeAt Go.RowKit

/-- How many bytes, as the document has it: 0, if the number has no end yet, -1, if none begins so. -/
def usedOf (r : Nat × Nat × Nat) : Int := if r.2.2 = 0 then (r.2.1 : Int) else if r.2.2 = 61 then 0 else -1

def TakePost (r : Nat × Nat × Nat) (w : World) (e : Ending) (w' : World) : Prop := e = .returned (.tuple #[.int .u64 (r.1 : Int), .int .i64 (usedOf r)]) ∧ w = w'

/-- What the document asks first of a byte. -/
theorem first_asked {k x : Nat} (hk : k ≤ 9) (hx : x < 256) :
    ((k = 9 ∧ 1 < x) ∨ (x = 0 ∧ 0 < k ∧ ¬ (k = 9 ∧ 1 < x))) ∨ ((k = 9 ∧ x = 1) ∨ (k ≠ 9 ∧ x ≠ 0) ∨ (k = 0 ∧ x = 0)) := by omega

set_option maxRecDepth 100000 in
set_option maxHeartbeats 4000000 in
theorem refTake_any (a : Option Addr) (cap : Nat) (l : List Nat) (most : Nat) (w : World) (h : BytesP w a cap l) (hm : most < 18446744073709551616) :
    Calls Tryz.prog 110 #[.slice a l.length cap, .int .u64 (most : Int)] w (TakePost (numAt most 0 0 l) w) := by
  have H := Lib.hid h
  have hl := h.len
  clear h
  go_enter Tryz.func110, Tryz.ntmps110
  go_wp2_with fail
  go_loop [6, 7, 8] (fun s t i => ∃ (k n wt : Nat), k ≤ l.length ∧ k ≤ 9 ∧ i = .int .i64 k ∧ s = .int .u64 n ∧ t = .int .u64 wt ∧ n ≤ most ∧ n < wt ∧ wt ≤ 9223372036854775808 ∧ (k ≤ 8 → wt ≤ 72057594037927936) ∧ Hid (wt = 2 ^ (7 * k)) ∧ Hid (numAt most 0 0 l = numAt most k n (l.drop k))) (fun _ _ i => l.length - (intOf i).toNat)
  case atStart => exact ⟨0, 0, 1, Nat.zero_le _, by decide, rfl, rfl, rfl, Nat.zero_le _, by decide, by decide, fun _ => by decide, Lib.hid rfl, Lib.hid rfl⟩
  case round =>
    obtain ⟨k, n, wt, hk, hk9, rfl, rfl, rfl, hn, hnw, hwt, hwt8, HW, HS⟩ := hrel
    by_cases hlt : k < l.length
    · obtain ⟨b1, o1, rfl, q1, r1⟩ := H.out.cell (by intro e; subst e; simp at hlt)
      have g1 := r1 k _ (List.getElem?_eq_getElem hlt)
      have p1 := H.out.cap
      have hx : l[k] < 256 := H.out.byte _ (List.getElem_mem hlt)
      have HD := Lib.hid (show numAt most 0 0 l = numAt most k n (l[k] :: l.drop (k + 1)) by rw [HS.out, List.drop_eq_getElem_cons hlt])
      generalize l[k] = x at *
      obtain ⟨low, hlow, hlo, HLOW⟩ : ∃ low : Nat, (x : Int) % 128 = (low : Int) ∧ low < 128 ∧ Hid (low = x % 128) := ⟨x % 128, by omega, by omega, rfl⟩
      have hwl : IntKind.u64.wrap (low : Int) = (low : Int) := by rw [IntKind.wrap_u64]; omega
      have HP := Lib.hid (pow7_pos k)
      have h9 : ¬ 9 < k := by omega
      clear r1
      rcases first_asked hk9 hx with hA | hB
      · have HE := Lib.hid (show numAt most 0 0 l = (0, 0, 62) by
          rw [HD.out, numAt_cons]
          split
          · rfl
          · rename_i hq
            rw [Nat.not_lt, Nat.le_div_iff_mul_le HP.out] at hq
            rcases hA with ⟨rfl, h1⟩ | ⟨h1, h2, _⟩
            · simp at hq
              by_cases hx8 : x < 128
              · omega
              · rw [if_neg hx8, if_pos]
                simp
                omega
            · rw [if_pos (by omega), if_pos ⟨h1, h2⟩])
        rcases hA with ⟨h1, h2⟩ | ⟨h1, h2, h3⟩
        · have e9 : ((k : Int) == 9) = true := by simp; omega
          have e1 : decide (1 < (x : Int)) = true := by simp; omega
          clear h1 h2
          go_wp2_with fail
          go_ret2
          exact ⟨by rw [HE.out]; rfl, rfl⟩
        · have e0 : ((x : Int) == 0) = true := by simp; omega
          have e1 : decide (1 < (x : Int)) = false := by simp; omega
          clear h1 h3
          cases e9 : ((k : Int) == 9) <;>
          · go_wp2_with fail
            go_ret2
            exact ⟨by rw [HE.out]; rfl, rfl⟩
      · have HLW := Lib.hid (show low * wt ≤ 9223372036854775808 by
          rcases hB with ⟨_, h2⟩ | ⟨h1, _⟩ | ⟨h1, _⟩
          · have : low = 1 := by rw [HLOW.out, h2]
            rw [this]; omega
          · have h8 := hwt8 (by omega)
            have : low * wt ≤ 127 * 72057594037927936 := Nat.mul_le_mul (by omega) h8
            omega
          · have h8 := hwt8 (by omega)
            have : low * wt ≤ 127 * 72057594037927936 := Nat.mul_le_mul (by omega) h8
            omega)
        obtain ⟨t, ht, htl, HT⟩ : ∃ t : Nat, (low : Int) * (wt : Int) = (t : Int) ∧ t ≤ 9223372036854775808 ∧ Hid (t = low * wt) := ⟨low * wt, by simp, HLW.out, rfl⟩
        obtain ⟨n2, hn2, hn2l, HN2⟩ : ∃ n2 : Nat, (n : Int) + (t : Int) = (n2 : Int) ∧ n2 < 18446744073709551616 ∧ Hid (n2 = n + t) := ⟨n + t, by omega, by omega, rfl⟩
        have HNE := Lib.hid (show n + x % 128 * 2 ^ (7 * k) = n2 by rw [HN2.out, HT.out, HW.out, HLOW.out])
        have HQ := Lib.hid (show (most - n) / 2 ^ (7 * k) < x % 128 ↔ most < n2 by
          rw [← HNE.out]
          have h1 : (x % 128 ≤ (most - n) / 2 ^ (7 * k)) ↔ x % 128 * 2 ^ (7 * k) ≤ most - n := Nat.le_div_iff_mul_le HP.out
          omega)
        have HZ : ¬ (x = 0 ∧ 0 < k) := by omega
        have HZ := Lib.hid HZ
        have HX9 := Lib.hid (show 128 ≤ x → k ≤ 8 by omega)
        have HB := Lib.hid (show ((((k : Int) == 9) = true ∧ decide (1 < (x : Int)) = false ∧ ((x : Int) == 0) = false) ∨ (((k : Int) == 9) = false ∧ ((x : Int) == 0) = false)) ∨ (((k : Int) == 9) = false ∧ ((x : Int) == 0) = true ∧ ¬ 0 < k) by
          simp
          omega)
        clear hB
        by_cases t1 : most < n2
        · have HE := Lib.hid (show numAt most 0 0 l = (0, 0, 62) by rw [HD.out, numAt_cons, if_pos (HQ.out.2 t1)])
          rcases HB.out with (⟨f1, f2, f3⟩ | ⟨f1, f2⟩) | ⟨f1, f2, f3⟩ <;>
          · go_wp2_with fail
            go_ret2
            exact ⟨by rw [HE.out]; rfl, rfl⟩
        · have HD2 := Lib.hid (show numAt most 0 0 l = if x < 128 then (n2, k + 1, 0) else if (most - n2) / 2 ^ (7 * k + 7) = 0 then (0, 0, 62) else numAt most (k + 1) n2 (l.drop (k + 1)) by
            rw [HD.out, numAt_cons, if_neg (fun h => t1 (HQ.out.1 h)), if_neg HZ.out, HNE.out])
          clear HD
          cases t2 : decide ((x : Int) < 128) with
          | true =>
            have HE := Lib.hid (show numAt most 0 0 l = (n2, k + 1, 0) by rw [HD2.out, if_pos (by simp at t2; omega)])
            rcases HB.out with (⟨f1, f2, f3⟩ | ⟨f1, f2⟩) | ⟨f1, f2, f3⟩ <;>
            · go_wp2_with fail
              go_ret2
              exact ⟨by rw [HE.out]; rfl, rfl⟩
          | false =>
            have hx2 : ¬ x < 128 := by simp at t2; omega
            have hk8 := HX9.out (by omega)
            have hw8 := hwt8 hk8
            obtain ⟨d2, hd2, hdl2, HDD2⟩ : ∃ d2 : Nat, (most : Int) - (n2 : Int) = (d2 : Int) ∧ d2 < 18446744073709551616 ∧ Hid (d2 = most - n2) := ⟨most - n2, by omega, by omega, rfl⟩
            obtain ⟨w2, hw2, hw2l, HW2⟩ : ∃ w2 : Nat, (wt : Int) * 128 = (w2 : Int) ∧ w2 ≤ 9223372036854775808 ∧ Hid (w2 = wt * 128) := ⟨wt * 128, by simp, by omega, rfl⟩
            have HWP := Lib.hid (show w2 = 2 ^ (7 * (k + 1)) by rw [HW2.out, HW.out, pow7s, Nat.mul_comm])
            have HZ2 := Lib.hid (show (most - n2) / 2 ^ (7 * k + 7) = 0 ↔ d2 < w2 by
              rw [HDD2.out, HWP.out, show 7 * (k + 1) = 7 * k + 7 by omega, Nat.div_eq_zero_iff_lt (Nat.pos_of_ne_zero (by simp))])
            by_cases t3 : d2 < w2
            · have HE := Lib.hid (show numAt most 0 0 l = (0, 0, 62) by rw [HD2.out, if_neg hx2, if_pos (HZ2.out.2 t3)])
              rcases HB.out with (⟨f1, f2, f3⟩ | ⟨f1, f2⟩) | ⟨f1, f2, f3⟩ <;>
              · go_wp2_with fail
                go_ret2
                exact ⟨by rw [HE.out]; rfl, rfl⟩
            · have HE := Lib.hid (show numAt most 0 0 l = numAt most (k + 1) n2 (l.drop (k + 1)) by rw [HD2.out, if_neg hx2, if_neg (fun h => t3 (HZ2.out.1 h))])
              have HLT := Lib.hid (show n2 < w2 by
                rw [HN2.out, HT.out, HW2.out]
                have : low * wt ≤ 127 * wt := Nat.mul_le_mul_right _ (by omega)
                omega)
              have HW8 := Lib.hid (show k + 1 ≤ 8 → w2 ≤ 72057594037927936 by
                intro h
                rw [HWP.out]
                exact Nat.le_trans (Nat.pow_le_pow_right (n := 2) (by decide) (show 7 * (k + 1) ≤ 56 by omega)) (by decide))
              rcases HB.out with (⟨f1, f2, f3⟩ | ⟨f1, f2⟩) | ⟨f1, f2, f3⟩ <;>
              · go_wp2_with fail
                go_round
                case rel => exact ⟨k + 1, n2, w2, by omega, by omega, by go_num, rfl, rfl, by omega, HLT.out, hw2l, HW8.out, HWP, HE⟩
                case measure => simp [intOf]; omega
    · have HE := Lib.hid (show numAt most 0 0 l = (0, 0, 61) by rw [HS.out, List.drop_eq_nil_of_le (by omega)]; rfl)
      go_wp2_with fail
      go_ret2
      exact ⟨by rw [HE.out]; rfl, rfl⟩
end

end Go.Proofs.YtfmpibmhhfmajaaGreatDoor
