/- What the program's enter, enterUnlessGiven and refuse answer. -/
import Derived.Test.YtlggakjfgapppaaSgProg
import Derived.Test.YtlggakjfgapppaaSgAlive
import Derived.OwnWalk
import Derived.Deep.RegionLaw
namespace Go.Proofs.Ytlggakjfgapppaa
set_option maxRecDepth 100000
open Go.RowKit Go.ChangeShapes Go.WideShapes Go.ChangeAt
attribute [local go_sem ↓] ldSg stSg alSg bxSg eqSg bdSg
attribute [local go_sem] al_sg bx_sg bd_sg bd_sg0 st_sgnew

/-- The saga that came in, in a variable, and the result's variable behind it. -/
structure StI (w : World) (s : Sg) (W : World) : Prop where
  box : Row W w.heap.size 25 (sgC s)
  res : Row W (w.heap.size + 1) 25 (sgC noSg)
  low : Below w.heap.size w W
theorem StI.below {w W W' : World} {s : Sg} (h : StI w s W) (b : Below W.heap.size W W') : StI w s W' := ⟨h.box.below b, h.res.below b, h.low.trans (b.mono h.low.size)⟩
theorem StI.begin (w : World) (s : Sg) : StI w s ((w.alloc (.cells (sgC s) 25)).alloc (.cells (sgC noSg) 25)) := by
  have b : Below w.heap.size w ((w.alloc (.cells (sgC s) 25)).alloc (.cells (sgC noSg) 25)) := ((Below.refl _ _).alloc (Nat.le_refl _) _).alloc (by simp) _
  refine ⟨(Row.new w (sgC s) _).more _, ?_, b⟩
  have := Row.new (w.alloc (.cells (sgC s) 25)) (sgC noSg) 25
  rwa [show (w.alloc (.cells (sgC s) 25)).heap.size = w.heap.size + 1 by simp] at this
theorem StI.set {w W : World} {s : Sg} (h : StI w s W) (o : Nat) (v : Value) {z : Sg} (e : (sgC s).setIfInBounds o v = sgC z) : StI w z (W.setCell ⟨w.heap.size, o, none⟩ v) :=
  ⟨e ▸ h.box.set o v, (Below.heap_setCell W ⟨w.heap.size, o, none⟩ v (w.heap.size + 1) (by simp)).trans h.res, h.low.setCell (p := ⟨w.heap.size, o, none⟩) (Nat.le_refl _) v⟩
theorem StI.done {w W : World} {s : Sg} (h : StI w s W) (z : Sg) : Below w.heap.size w (W.setRow (w.heap.size + 1) (sgC z)) := Below.row h.low (by omega) _
theorem StI.ld {w W : World} {s : Sg} (h : StI w s W) : LdX 25 (.pointer (some ⟨w.heap.size, 0, none⟩)) W = .ok (.value (sgV s)) W := ld_sg h.box
theorem StI.st {w W : World} {s : Sg} (h : StI w s W) (z : Sg) : StX 25 (.pointer (some ⟨w.heap.size + 1, 0, none⟩)) (sgV z) W = .ok .skip (W.setRow (w.heap.size + 1) (sgC z)) := st_sg h.res z

set_option maxHeartbeats 4000000 in
theorem enter_any (s : Sg) (p : Int) (w : World) : Calls Try.prog 16 #[sgV s, .int .i64 p] w (StepP (⟨p, s.given, s.ref⟩, asksN p, 0) w) := by
  have I := Lib.hid (StI.begin w s)
  have K := Lib.hid (StI.begin w ⟨p, s.given, s.ref⟩)
  have CA := Lib.hid (fun W => asks_any p W)
  have c0 := I.out.box.s.1.1
  have z0 := I.out.box.s.2.1
  go_enter Try.func16, Try.ntmps16
  go_wp2_with fail
  rw [show (sgC s).setIfInBounds 0 (Value.int IntKind.i64 p) = sgC ⟨p, s.given, s.ref⟩ from rfl]
  clear c0 z0 I
  generalize (w.alloc (.cells (sgC ⟨p, s.given, s.ref⟩) 25)).alloc (.cells (sgC noSg) 25) = W1 at *
  have ld : ∀ W, StI w ⟨p, s.given, s.ref⟩ W → LdX 25 (.pointer (some ⟨w.heap.size, 0, none⟩)) W = .ok (.value (sgV ⟨p, s.given, s.ref⟩)) W := fun W h => h.ld
  have st : ∀ W, StI w ⟨p, s.given, s.ref⟩ W → StX 25 (.pointer (some ⟨w.heap.size + 1, 0, none⟩)) (sgV ⟨p, s.given, s.ref⟩) W = .ok .skip (W.setRow (w.heap.size + 1) (sgC ⟨p, s.given, s.ref⟩)) := fun W h => h.st _
  have k1 := K.out
  have k1d : StI w ⟨p, s.given, s.ref⟩ W1.drew := K.out.below (drewN_below _ 1)
  go_region_law ((try go_simp); go_at_call 9; refine (CA.out _).mono ?_; rintro x W2 ⟨rfl, b2⟩; have k2 := k1d.below b2)
  all_goals
    clear ld st k1 k1d b2 CA K
    go_wp2_with fail
    (try simp only [Exit.inBlock, Exit.then])
    apply bodyPost_ret
    case hd => rfl
    case hr => exact results_cell_two rfl _ _ (w.heap.size + 1) _ rfl (load3 (sg_set k2.res ⟨p, s.given, s.ref⟩))
    case hR => exact ⟨rfl, k2.done _⟩

/-- One that goes ahead, or is given up. -/
def aheadS (s : Sg) (a u : Int) : Sg := ⟨if s.given then u else a, s.given, s.ref⟩
set_option maxHeartbeats 4000000 in
theorem unless_any (s : Sg) (a u : Int) (w : World) : Calls Try.prog 15 #[sgV s, .int .i64 a, .int .i64 u] w (StepP (aheadS s a u, asksN (aheadS s a u).phase, 0) w) := by
  have I := Lib.hid (StI.begin w s)
  have ld := I.out.ld
  have c1 := I.out.box.s.1.2.1
  obtain ⟨p, g, r⟩ := s
  cases g with
  | true =>
    have CE := Lib.hid (fun W => enter_any ⟨p, true, r⟩ u W)
    go_enter Try.func15, Try.ntmps15
    go_wp2_with fail
    generalize (w.alloc (.cells (sgC ⟨p, true, r⟩) 25)).alloc (.cells (sgC noSg) 25) = W0 at *
    refine (CE.out _).mono ?_
    rintro x W1 ⟨rfl, b1⟩
    have K := Lib.hid (I.out.below b1)
    have st := K.out.st ⟨u, true, r⟩
    clear b1 c1 ld I CE
    go_wp2_with fail
    (try simp only [Exit.inBlock, Exit.then])
    apply bodyPost_ret
    case hd => rfl
    case hr => exact results_cell_two rfl _ _ (w.heap.size + 1) _ rfl (load3 (sg_set K.out.res ⟨u, true, r⟩))
    case hR => exact ⟨rfl, K.out.done _⟩
  | false =>
    have CE := Lib.hid (fun W => enter_any ⟨p, false, r⟩ a W)
    go_enter Try.func15, Try.ntmps15
    go_wp2_with fail
    generalize (w.alloc (.cells (sgC ⟨p, false, r⟩) 25)).alloc (.cells (sgC noSg) 25) = W0 at *
    refine (CE.out _).mono ?_
    rintro x W1 ⟨rfl, b1⟩
    have K := Lib.hid (I.out.below b1)
    have st := K.out.st ⟨a, false, r⟩
    clear b1 c1 ld I CE
    go_wp2_with fail
    (try simp only [Exit.inBlock, Exit.then])
    apply bodyPost_ret
    case hd => rfl
    case hr => exact results_cell_two rfl _ _ (w.heap.size + 1) _ rfl (load3 (sg_set K.out.res ⟨a, false, r⟩))
    case hR => exact ⟨rfl, K.out.done _⟩

/-- One whose undoing was refused. -/
def refuseS (s : Sg) (limit : Int) : Sg := ⟨if capR limit ≤ moreR s.ref then 12 else s.phase, s.given, moreR s.ref⟩

set_option maxHeartbeats 4000000 in
theorem refuse_much (s : Sg) (limit : Int) (w : World) (hr : 999999 < s.ref) : Calls Try.prog 17 #[sgV s, .int .i64 limit] w (StepP (refuseS s limit, asksN (refuseS s limit).phase, 0) w) := by
  obtain ⟨p, g, r⟩ := s
  have I := Lib.hid (StI.begin w ⟨p, g, r⟩)
  have K : Hid (StI w ⟨p, g, 1000000⟩ ((w.alloc (.cells ((sgC ⟨p, g, r⟩).setIfInBounds 2 (.int .i64 (1000000))) 25)).alloc (.cells (sgC noSg) 25))) := Lib.hid (StI.begin w ⟨p, g, 1000000⟩)
  have c2 := I.out.box.s.1.2.2
  have z2 := I.out.box.s.2.2.2
  have hm : moreR r = 1000000 := by unfold moreR; simp only at hr; rw [if_neg (by omega)]; rfl
  obtain ⟨M, hM⟩ : ∃ M : Int, (if limit < 1 then 1 else limit) = M := ⟨_, rfl⟩
  have hcap : capR limit = M := hM
  have d2 : ((w.alloc (.cells ((sgC ⟨p, g, r⟩).setIfInBounds 2 (.int .i64 (1000000))) 25)).alloc (.cells (sgC noSg) 25)).cell? ⟨w.heap.size, 2, none⟩ = some (.int .i64 (1000000)) := K.out.box.s.1.2.2
  have d0 : ((w.alloc (.cells ((sgC ⟨p, g, r⟩).setIfInBounds 2 (.int .i64 (1000000))) 25)).alloc (.cells (sgC noSg) 25)).cell? ⟨w.heap.size, 0, none⟩ = some (.int .i64 p) := K.out.box.s.1.1
  have ld : LdX 25 (.pointer (some ⟨w.heap.size, 0, none⟩)) ((w.alloc (.cells ((sgC ⟨p, g, r⟩).setIfInBounds 2 (.int .i64 (1000000))) 25)).alloc (.cells (sgC noSg) 25)) = .ok (.value (sgV ⟨p, g, 1000000⟩)) ((w.alloc (.cells ((sgC ⟨p, g, r⟩).setIfInBounds 2 (.int .i64 (1000000))) 25)).alloc (.cells (sgC noSg) 25)) := K.out.ld
  by_cases hs : M ≤ 1000000
  · have HE := Lib.hid (show refuseS ⟨p, g, r⟩ limit = ⟨12, g, 1000000⟩ by unfold refuseS; rw [hm, hcap, if_pos hs])
    have CE := Lib.hid (fun W => enter_any ⟨p, g, 1000000⟩ 12 W)
    clear hm hcap
    go_enter Try.func17, Try.ntmps17
    go_wp2_with fail
    generalize (w.alloc (.cells ((sgC ⟨p, g, r⟩).setIfInBounds 2 (.int .i64 (1000000))) 25)).alloc (.cells (sgC noSg) 25) = W0 at *
    refine (CE.out _).mono ?_
    rintro x W1 ⟨rfl, b1⟩
    have I2 : Hid (StI w ⟨p, g, 1000000⟩ W1) := Lib.hid (K.out.below b1)
    have st := I2.out.st ⟨12, g, 1000000⟩
    clear b1 ld d0 d2 c2 z2 I K CE
    go_wp2_with fail
    (try simp only [Exit.inBlock, Exit.then])
    apply bodyPost_ret
    case hd => rfl
    case hr => exact results_cell_two rfl _ _ (w.heap.size + 1) _ rfl (load3 (sg_set I2.out.res ⟨12, g, 1000000⟩))
    case hR => exact ⟨by rw [HE.out]; rfl, I2.out.done _⟩
  · have HE := Lib.hid (show refuseS ⟨p, g, r⟩ limit = ⟨p, g, 1000000⟩ by unfold refuseS; rw [hm, hcap, if_neg hs])
    have CE := Lib.hid (fun W => enter_any ⟨p, g, 1000000⟩ p W)
    clear hm hcap
    go_enter Try.func17, Try.ntmps17
    go_wp2_with fail
    generalize (w.alloc (.cells ((sgC ⟨p, g, r⟩).setIfInBounds 2 (.int .i64 (1000000))) 25)).alloc (.cells (sgC noSg) 25) = W0 at *
    refine (CE.out _).mono ?_
    rintro x W1 ⟨rfl, b1⟩
    have I2 : Hid (StI w ⟨p, g, 1000000⟩ W1) := Lib.hid (K.out.below b1)
    have st := I2.out.st ⟨p, g, 1000000⟩
    clear b1 ld d0 d2 c2 z2 I K CE
    go_wp2_with fail
    (try simp only [Exit.inBlock, Exit.then])
    apply bodyPost_ret
    case hd => rfl
    case hr => exact results_cell_two rfl _ _ (w.heap.size + 1) _ rfl (load3 (sg_set I2.out.res ⟨p, g, 1000000⟩))
    case hR => exact ⟨by rw [HE.out]; rfl, I2.out.done _⟩

set_option maxHeartbeats 4000000 in
theorem refuse_few (s : Sg) (limit : Int) (w : World) (hr : 0 ≤ s.ref ∧ s.ref ≤ 999999) : Calls Try.prog 17 #[sgV s, .int .i64 limit] w (StepP (refuseS s limit, asksN (refuseS s limit).phase, 0) w) := by
  obtain ⟨p, g, r⟩ := s
  have I := Lib.hid (StI.begin w ⟨p, g, r⟩)
  have K : Hid (StI w ⟨p, g, r + 1⟩ ((w.alloc (.cells ((sgC ⟨p, g, r⟩).setIfInBounds 2 (.int .i64 (r + 1))) 25)).alloc (.cells (sgC noSg) 25))) := Lib.hid (StI.begin w ⟨p, g, r + 1⟩)
  have c2 := I.out.box.s.1.2.2
  have z2 := I.out.box.s.2.2.2
  have hm : moreR r = r + 1 := by unfold moreR; simp only at hr; split <;> omega
  have hwr : IntKind.i64.wrap (r + 1) = r + 1 := by rw [IntKind.wrap_i64]; simp only at hr; omega
  have h9 : ¬ 999999 < r := by simp only at hr; omega
  obtain ⟨M, hM⟩ : ∃ M : Int, (if limit < 1 then 1 else limit) = M := ⟨_, rfl⟩
  have hcap : capR limit = M := hM
  have d2 : ((w.alloc (.cells ((sgC ⟨p, g, r⟩).setIfInBounds 2 (.int .i64 (r + 1))) 25)).alloc (.cells (sgC noSg) 25)).cell? ⟨w.heap.size, 2, none⟩ = some (.int .i64 (r + 1)) := K.out.box.s.1.2.2
  have d0 : ((w.alloc (.cells ((sgC ⟨p, g, r⟩).setIfInBounds 2 (.int .i64 (r + 1))) 25)).alloc (.cells (sgC noSg) 25)).cell? ⟨w.heap.size, 0, none⟩ = some (.int .i64 p) := K.out.box.s.1.1
  have ld : LdX 25 (.pointer (some ⟨w.heap.size, 0, none⟩)) ((w.alloc (.cells ((sgC ⟨p, g, r⟩).setIfInBounds 2 (.int .i64 (r + 1))) 25)).alloc (.cells (sgC noSg) 25)) = .ok (.value (sgV ⟨p, g, r + 1⟩)) ((w.alloc (.cells ((sgC ⟨p, g, r⟩).setIfInBounds 2 (.int .i64 (r + 1))) 25)).alloc (.cells (sgC noSg) 25)) := K.out.ld
  by_cases hs : M ≤ r + 1
  · have HE := Lib.hid (show refuseS ⟨p, g, r⟩ limit = ⟨12, g, r + 1⟩ by unfold refuseS; rw [hm, hcap, if_pos hs])
    have CE := Lib.hid (fun W => enter_any ⟨p, g, r + 1⟩ 12 W)
    clear hm hcap
    go_enter Try.func17, Try.ntmps17
    go_wp2_with fail
    generalize (w.alloc (.cells ((sgC ⟨p, g, r⟩).setIfInBounds 2 (.int .i64 (r + 1))) 25)).alloc (.cells (sgC noSg) 25) = W0 at *
    refine (CE.out _).mono ?_
    rintro x W1 ⟨rfl, b1⟩
    have I2 : Hid (StI w ⟨p, g, r + 1⟩ W1) := Lib.hid (K.out.below b1)
    have st := I2.out.st ⟨12, g, r + 1⟩
    clear b1 ld d0 d2 c2 z2 I K CE
    go_wp2_with fail
    (try simp only [Exit.inBlock, Exit.then])
    apply bodyPost_ret
    case hd => rfl
    case hr => exact results_cell_two rfl _ _ (w.heap.size + 1) _ rfl (load3 (sg_set I2.out.res ⟨12, g, r + 1⟩))
    case hR => exact ⟨by rw [HE.out]; rfl, I2.out.done _⟩
  · have HE := Lib.hid (show refuseS ⟨p, g, r⟩ limit = ⟨p, g, r + 1⟩ by unfold refuseS; rw [hm, hcap, if_neg hs])
    have CE := Lib.hid (fun W => enter_any ⟨p, g, r + 1⟩ p W)
    clear hm hcap
    go_enter Try.func17, Try.ntmps17
    go_wp2_with fail
    generalize (w.alloc (.cells ((sgC ⟨p, g, r⟩).setIfInBounds 2 (.int .i64 (r + 1))) 25)).alloc (.cells (sgC noSg) 25) = W0 at *
    refine (CE.out _).mono ?_
    rintro x W1 ⟨rfl, b1⟩
    have I2 : Hid (StI w ⟨p, g, r + 1⟩ W1) := Lib.hid (K.out.below b1)
    have st := I2.out.st ⟨p, g, r + 1⟩
    clear b1 ld d0 d2 c2 z2 I K CE
    go_wp2_with fail
    (try simp only [Exit.inBlock, Exit.then])
    apply bodyPost_ret
    case hd => rfl
    case hr => exact results_cell_two rfl _ _ (w.heap.size + 1) _ rfl (load3 (sg_set I2.out.res ⟨p, g, r + 1⟩))
    case hR => exact ⟨by rw [HE.out]; rfl, I2.out.done _⟩

theorem refuse_any (s : Sg) (limit : Int) (w : World) (hr : 0 ≤ s.ref ∧ s.ref ≤ 1000000) : Calls Try.prog 17 #[sgV s, .int .i64 limit] w (StepP (refuseS s limit, asksN (refuseS s limit).phase, 0) w) := by
  by_cases h : 999999 < s.ref
  · exact refuse_much s limit w h
  · exact refuse_few s limit w ⟨hr.1, by omega⟩

end Go.Proofs.Ytlggakjfgapppaa
