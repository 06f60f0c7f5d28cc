/- What the program's Step answers. -/
import Derived.Test.YtlggakjfgapppaaSgEnter
namespace Go.Proofs.Ytlggakjfgapppaa
set_option maxRecDepth 100000
open Go.RowKit Go.ChangeShapes Go.WideShapes Go.ChangeAt
attribute [local go_sem ↓] ldSg stSg alSg bxSg eqSg bdSg
attribute [local go_sem] al_sg bx_sg bd_sg bd_sg0 st_sgnew

theorem step_refuse9 (g : Bool) (r limit : Int) : stepS ⟨9, g, r⟩ 2 limit = (refuseS ⟨9, g, r⟩ limit, asksN (refuseS ⟨9, g, r⟩ limit).phase, 0) := by
  by_cases h : capR limit ≤ moreR r
  · simp [stepS, rowT, stuckB, undoB, asksN, refuseS, h]
  · simp [stepS, rowT, stuckB, undoB, asksN, refuseS, h]
theorem step_refuse10 (g : Bool) (r limit : Int) : stepS ⟨10, g, r⟩ 2 limit = (refuseS ⟨10, g, r⟩ limit, asksN (refuseS ⟨10, g, r⟩ limit).phase, 0) := by
  by_cases h : capR limit ≤ moreR r
  · simp [stepS, rowT, stuckB, undoB, asksN, refuseS, h]
  · simp [stepS, rowT, stuckB, undoB, asksN, refuseS, h]
theorem stepY0 (p : Int) (g : Bool) (r limit : Int) (h1 : ¬ p = 1) (h2 : ¬ p = 2) (h4 : ¬ p = 4) (h6 : ¬ p = 6) (h7 : ¬ p = 7) (h9 : ¬ p = 9) (h10 : ¬ p = 10) : stepS ⟨p, g, r⟩ 1 limit = (⟨p, g, r⟩, 0, 142) := by
  by_cases h : 1 ≤ p ∧ p ≤ 12
  · have hp : p = 3 ∨ p = 5 ∨ p = 8 ∨ p = 11 ∨ p = 12 ∨ False := by omega
    rcases hp with rfl | rfl | rfl | rfl | rfl | hp
    all_goals first
      | exact hp.elim
      | simp [stepS, rowT]
  · exact step_out (fun k => h ⟨k.1, k.2.1⟩)
theorem stepN0 (p : Int) (g : Bool) (r limit : Int) (h1 : ¬ p = 1) (h2 : ¬ p = 2) (h4 : ¬ p = 4) (h6 : ¬ p = 6) (h7 : ¬ p = 7) (h9 : ¬ p = 9) (h10 : ¬ p = 10) : stepS ⟨p, g, r⟩ 2 limit = (⟨p, g, r⟩, 0, 142) := by
  by_cases h : 1 ≤ p ∧ p ≤ 12
  · have hp : p = 3 ∨ p = 5 ∨ p = 8 ∨ p = 11 ∨ p = 12 ∨ False := by omega
    rcases hp with rfl | rfl | rfl | rfl | rfl | hp
    all_goals first
      | exact hp.elim
      | simp [stepS, rowT]
  · exact step_out (fun k => h ⟨k.1, k.2.1⟩)
theorem stepC0 (p : Int) (g : Bool) (r limit : Int) (h1 : ¬ p = 1) (h2 : ¬ p = 2) (h3 : ¬ p = 3) (h4 : ¬ p = 4) (h5 : ¬ p = 5) (h6 : ¬ p = 6) (h7 : ¬ p = 7) (h8 : ¬ p = 8) (h9 : ¬ p = 9) (h10 : ¬ p = 10) (h11 : ¬ p = 11) (h12 : ¬ p = 12) : stepS ⟨p, g, r⟩ 3 limit = (⟨p, g, r⟩, 0, 142) := by
  by_cases h : 1 ≤ p ∧ p ≤ 12
  · have hp : False := by omega
    exact hp.elim
  · exact step_out (fun k => h ⟨k.1, k.2.1⟩)
theorem stepF0 (p : Int) (g : Bool) (r limit : Int) (h3 : ¬ p = 3) (h5 : ¬ p = 5) : stepS ⟨p, g, r⟩ 4 limit = (⟨p, g, r⟩, 0, 142) := by
  by_cases h : 1 ≤ p ∧ p ≤ 12
  · have hp : p = 1 ∨ p = 2 ∨ p = 4 ∨ p = 6 ∨ p = 7 ∨ p = 8 ∨ p = 9 ∨ p = 10 ∨ p = 11 ∨ p = 12 ∨ False := by omega
    rcases hp with rfl | rfl | rfl | rfl | rfl | rfl | rfl | rfl | rfl | rfl | hp
    all_goals first
      | exact hp.elim
      | simp [stepS, rowT]
  · exact step_out (fun k => h ⟨k.1, k.2.1⟩)

set_option maxHeartbeats 8000000 in
theorem stepY (s : Sg) (limit : Int) (w : World) (hr : 0 ≤ s.ref ∧ s.ref ≤ 1000000) : Calls Try.prog 13 #[sgV s, .int .i64 1, .int .i64 limit] w (StepP (stepS s 1 limit) w) := by
  obtain ⟨p, g, r⟩ := s
  by_cases h1 : p = 1
  · subst h1
    have HE := Lib.hid (show stepS ⟨1, g, r⟩ 1 limit = (aheadS ⟨1, g, r⟩ 2 10, asksN (aheadS ⟨1, g, r⟩ 2 10).phase, 0) by cases g <;> simp [stepS, rowT, stuckB, undoB, asksN, aheadS])
    have CE := Lib.hid (fun W => unless_any ⟨1, g, r⟩ 2 10 W)
    have I := Lib.hid (StI.begin w ⟨1, g, r⟩)
    have c0 := I.out.box.s.1.1
    have K : Hid (StI w ⟨1, g, r⟩ ((w.alloc (.cells (sgC ⟨1, g, r⟩) 25)).alloc (.cells (sgC noSg) 25))) := Lib.hid (StI.begin w ⟨1, g, r⟩)
    have ld : LdX 25 (.pointer (some ⟨w.heap.size, 0, none⟩)) ((w.alloc (.cells (sgC ⟨1, g, r⟩) 25)).alloc (.cells (sgC noSg) 25)) = .ok (.value (sgV ⟨1, g, r⟩)) ((w.alloc (.cells (sgC ⟨1, g, r⟩) 25)).alloc (.cells (sgC noSg) 25)) := K.out.ld
    go_enter Try.func13, Try.ntmps13
    go_wp2_with fail
    generalize ((w.alloc (.cells (sgC ⟨1, g, r⟩) 25)).alloc (.cells (sgC noSg) 25)) = W0 at *
    refine (CE.out _).mono ?_
    rintro x W1 ⟨rfl, b1⟩
    have K2 : Hid (StI w ⟨1, g, r⟩ W1) := Lib.hid (K.out.below b1)
    have st := K2.out.st (aheadS ⟨1, g, r⟩ 2 10)
    clear b1 ld I K CE c0
    go_wp2_with fail
    (try simp only [Exit.inBlock, Exit.then])
    apply bodyPost_ret
    case hd => rfl
    case hr => exact results_cell_two rfl _ _ (w.heap.size + 1) _ rfl (load3 (sg_set K2.out.res (aheadS ⟨1, g, r⟩ 2 10)))
    case hR => exact ⟨by rw [HE.out]; rfl, K2.out.done _⟩
  by_cases h2 : p = 2
  · subst h2
    have HE := Lib.hid (show stepS ⟨2, g, r⟩ 1 limit = (aheadS ⟨2, g, r⟩ 3 9, asksN (aheadS ⟨2, g, r⟩ 3 9).phase, 0) by cases g <;> simp [stepS, rowT, stuckB, undoB, asksN, aheadS])
    have CE := Lib.hid (fun W => unless_any ⟨2, g, r⟩ 3 9 W)
    have I := Lib.hid (StI.begin w ⟨2, g, r⟩)
    have c0 := I.out.box.s.1.1
    have K : Hid (StI w ⟨2, g, r⟩ ((w.alloc (.cells (sgC ⟨2, g, r⟩) 25)).alloc (.cells (sgC noSg) 25))) := Lib.hid (StI.begin w ⟨2, g, r⟩)
    have ld : LdX 25 (.pointer (some ⟨w.heap.size, 0, none⟩)) ((w.alloc (.cells (sgC ⟨2, g, r⟩) 25)).alloc (.cells (sgC noSg) 25)) = .ok (.value (sgV ⟨2, g, r⟩)) ((w.alloc (.cells (sgC ⟨2, g, r⟩) 25)).alloc (.cells (sgC noSg) 25)) := K.out.ld
    go_enter Try.func13, Try.ntmps13
    go_wp2_with fail
    generalize ((w.alloc (.cells (sgC ⟨2, g, r⟩) 25)).alloc (.cells (sgC noSg) 25)) = W0 at *
    refine (CE.out _).mono ?_
    rintro x W1 ⟨rfl, b1⟩
    have K2 : Hid (StI w ⟨2, g, r⟩ W1) := Lib.hid (K.out.below b1)
    have st := K2.out.st (aheadS ⟨2, g, r⟩ 3 9)
    clear b1 ld I K CE c0
    go_wp2_with fail
    (try simp only [Exit.inBlock, Exit.then])
    apply bodyPost_ret
    case hd => rfl
    case hr => exact results_cell_two rfl _ _ (w.heap.size + 1) _ rfl (load3 (sg_set K2.out.res (aheadS ⟨2, g, r⟩ 3 9)))
    case hR => exact ⟨by rw [HE.out]; rfl, K2.out.done _⟩
  by_cases h4 : p = 4
  · subst h4
    have HE := Lib.hid (show stepS ⟨4, g, r⟩ 1 limit = (aheadS ⟨4, g, r⟩ 5 9, asksN (aheadS ⟨4, g, r⟩ 5 9).phase, 0) by cases g <;> simp [stepS, rowT, stuckB, undoB, asksN, aheadS])
    have CE := Lib.hid (fun W => unless_any ⟨4, g, r⟩ 5 9 W)
    have I := Lib.hid (StI.begin w ⟨4, g, r⟩)
    have c0 := I.out.box.s.1.1
    have K : Hid (StI w ⟨4, g, r⟩ ((w.alloc (.cells (sgC ⟨4, g, r⟩) 25)).alloc (.cells (sgC noSg) 25))) := Lib.hid (StI.begin w ⟨4, g, r⟩)
    have ld : LdX 25 (.pointer (some ⟨w.heap.size, 0, none⟩)) ((w.alloc (.cells (sgC ⟨4, g, r⟩) 25)).alloc (.cells (sgC noSg) 25)) = .ok (.value (sgV ⟨4, g, r⟩)) ((w.alloc (.cells (sgC ⟨4, g, r⟩) 25)).alloc (.cells (sgC noSg) 25)) := K.out.ld
    go_enter Try.func13, Try.ntmps13
    go_wp2_with fail
    generalize ((w.alloc (.cells (sgC ⟨4, g, r⟩) 25)).alloc (.cells (sgC noSg) 25)) = W0 at *
    refine (CE.out _).mono ?_
    rintro x W1 ⟨rfl, b1⟩
    have K2 : Hid (StI w ⟨4, g, r⟩ W1) := Lib.hid (K.out.below b1)
    have st := K2.out.st (aheadS ⟨4, g, r⟩ 5 9)
    clear b1 ld I K CE c0
    go_wp2_with fail
    (try simp only [Exit.inBlock, Exit.then])
    apply bodyPost_ret
    case hd => rfl
    case hr => exact results_cell_two rfl _ _ (w.heap.size + 1) _ rfl (load3 (sg_set K2.out.res (aheadS ⟨4, g, r⟩ 5 9)))
    case hR => exact ⟨by rw [HE.out]; rfl, K2.out.done _⟩
  by_cases h6 : p = 6
  · subst h6
    have HE := Lib.hid (show stepS ⟨6, g, r⟩ 1 limit = (⟨7, g, r⟩, asksN 7, 0) by simp [stepS, rowT, stuckB, undoB, asksN])
    have CE := Lib.hid (fun W => enter_any ⟨6, g, r⟩ 7 W)
    have I := Lib.hid (StI.begin w ⟨6, g, r⟩)
    have c0 := I.out.box.s.1.1
    have K : Hid (StI w ⟨6, g, r⟩ ((w.alloc (.cells (sgC ⟨6, g, r⟩) 25)).alloc (.cells (sgC noSg) 25))) := Lib.hid (StI.begin w ⟨6, g, r⟩)
    have ld : LdX 25 (.pointer (some ⟨w.heap.size, 0, none⟩)) ((w.alloc (.cells (sgC ⟨6, g, r⟩) 25)).alloc (.cells (sgC noSg) 25)) = .ok (.value (sgV ⟨6, g, r⟩)) ((w.alloc (.cells (sgC ⟨6, g, r⟩) 25)).alloc (.cells (sgC noSg) 25)) := K.out.ld
    go_enter Try.func13, Try.ntmps13
    go_wp2_with fail
    generalize ((w.alloc (.cells (sgC ⟨6, g, r⟩) 25)).alloc (.cells (sgC noSg) 25)) = W0 at *
    refine (CE.out _).mono ?_
    rintro x W1 ⟨rfl, b1⟩
    have K2 : Hid (StI w ⟨6, g, r⟩ W1) := Lib.hid (K.out.below b1)
    have st := K2.out.st ⟨7, g, r⟩
    clear b1 ld I K CE c0
    go_wp2_with fail
    (try simp only [Exit.inBlock, Exit.then])
    apply bodyPost_ret
    case hd => rfl
    case hr => exact results_cell_two rfl _ _ (w.heap.size + 1) _ rfl (load3 (sg_set K2.out.res ⟨7, g, r⟩))
    case hR => exact ⟨by rw [HE.out]; rfl, K2.out.done _⟩
  by_cases h7 : p = 7
  · subst h7
    have HE := Lib.hid (show stepS ⟨7, g, r⟩ 1 limit = (⟨8, g, r⟩, asksN 8, 0) by simp [stepS, rowT, stuckB, undoB, asksN])
    have CE := Lib.hid (fun W => enter_any ⟨7, g, r⟩ 8 W)
    have I := Lib.hid (StI.begin w ⟨7, g, r⟩)
    have c0 := I.out.box.s.1.1
    have K : Hid (StI w ⟨7, g, r⟩ ((w.alloc (.cells (sgC ⟨7, g, r⟩) 25)).alloc (.cells (sgC noSg) 25))) := Lib.hid (StI.begin w ⟨7, g, r⟩)
    have ld : LdX 25 (.pointer (some ⟨w.heap.size, 0, none⟩)) ((w.alloc (.cells (sgC ⟨7, g, r⟩) 25)).alloc (.cells (sgC noSg) 25)) = .ok (.value (sgV ⟨7, g, r⟩)) ((w.alloc (.cells (sgC ⟨7, g, r⟩) 25)).alloc (.cells (sgC noSg) 25)) := K.out.ld
    go_enter Try.func13, Try.ntmps13
    go_wp2_with fail
    generalize ((w.alloc (.cells (sgC ⟨7, g, r⟩) 25)).alloc (.cells (sgC noSg) 25)) = W0 at *
    refine (CE.out _).mono ?_
    rintro x W1 ⟨rfl, b1⟩
    have K2 : Hid (StI w ⟨7, g, r⟩ W1) := Lib.hid (K.out.below b1)
    have st := K2.out.st ⟨8, g, r⟩
    clear b1 ld I K CE c0
    go_wp2_with fail
    (try simp only [Exit.inBlock, Exit.then])
    apply bodyPost_ret
    case hd => rfl
    case hr => exact results_cell_two rfl _ _ (w.heap.size + 1) _ rfl (load3 (sg_set K2.out.res ⟨8, g, r⟩))
    case hR => exact ⟨by rw [HE.out]; rfl, K2.out.done _⟩
  by_cases h9 : p = 9
  · subst h9
    have HE := Lib.hid (show stepS ⟨9, g, r⟩ 1 limit = (⟨10, g, 0⟩, asksN 10, 0) by simp [stepS, rowT, stuckB, undoB, asksN])
    have CE := Lib.hid (fun W => enter_any ⟨9, g, 0⟩ 10 W)
    have I := Lib.hid (StI.begin w ⟨9, g, r⟩)
    have c0 := I.out.box.s.1.1
    have z2 := I.out.box.s.2.2.2
    have K : Hid (StI w ⟨9, g, 0⟩ ((w.alloc (.cells ((sgC ⟨9, g, r⟩).setIfInBounds 2 (.int .i64 0)) 25)).alloc (.cells (sgC noSg) 25))) := Lib.hid (StI.begin w ⟨9, g, 0⟩)
    have ld : LdX 25 (.pointer (some ⟨w.heap.size, 0, none⟩)) ((w.alloc (.cells ((sgC ⟨9, g, r⟩).setIfInBounds 2 (.int .i64 0)) 25)).alloc (.cells (sgC noSg) 25)) = .ok (.value (sgV ⟨9, g, 0⟩)) ((w.alloc (.cells ((sgC ⟨9, g, r⟩).setIfInBounds 2 (.int .i64 0)) 25)).alloc (.cells (sgC noSg) 25)) := K.out.ld
    go_enter Try.func13, Try.ntmps13
    go_wp2_with fail
    generalize ((w.alloc (.cells ((sgC ⟨9, g, r⟩).setIfInBounds 2 (.int .i64 0)) 25)).alloc (.cells (sgC noSg) 25)) = W0 at *
    refine (CE.out _).mono ?_
    rintro x W1 ⟨rfl, b1⟩
    have K2 : Hid (StI w ⟨9, g, 0⟩ W1) := Lib.hid (K.out.below b1)
    have st := K2.out.st ⟨10, g, 0⟩
    clear b1 ld I K CE c0 z2
    go_wp2_with fail
    (try simp only [Exit.inBlock, Exit.then])
    apply bodyPost_ret
    case hd => rfl
    case hr => exact results_cell_two rfl _ _ (w.heap.size + 1) _ rfl (load3 (sg_set K2.out.res ⟨10, g, 0⟩))
    case hR => exact ⟨by rw [HE.out]; rfl, K2.out.done _⟩
  by_cases h10 : p = 10
  · subst h10
    have HE := Lib.hid (show stepS ⟨10, g, r⟩ 1 limit = (⟨11, g, r⟩, asksN 11, 0) by simp [stepS, rowT, stuckB, undoB, asksN])
    have CE := Lib.hid (fun W => enter_any ⟨10, g, r⟩ 11 W)
    have I := Lib.hid (StI.begin w ⟨10, g, r⟩)
    have c0 := I.out.box.s.1.1
    have K : Hid (StI w ⟨10, g, r⟩ ((w.alloc (.cells (sgC ⟨10, g, r⟩) 25)).alloc (.cells (sgC noSg) 25))) := Lib.hid (StI.begin w ⟨10, g, r⟩)
    have ld : LdX 25 (.pointer (some ⟨w.heap.size, 0, none⟩)) ((w.alloc (.cells (sgC ⟨10, g, r⟩) 25)).alloc (.cells (sgC noSg) 25)) = .ok (.value (sgV ⟨10, g, r⟩)) ((w.alloc (.cells (sgC ⟨10, g, r⟩) 25)).alloc (.cells (sgC noSg) 25)) := K.out.ld
    go_enter Try.func13, Try.ntmps13
    go_wp2_with fail
    generalize ((w.alloc (.cells (sgC ⟨10, g, r⟩) 25)).alloc (.cells (sgC noSg) 25)) = W0 at *
    refine (CE.out _).mono ?_
    rintro x W1 ⟨rfl, b1⟩
    have K2 : Hid (StI w ⟨10, g, r⟩ W1) := Lib.hid (K.out.below b1)
    have st := K2.out.st ⟨11, g, r⟩
    clear b1 ld I K CE c0
    go_wp2_with fail
    (try simp only [Exit.inBlock, Exit.then])
    apply bodyPost_ret
    case hd => rfl
    case hr => exact results_cell_two rfl _ _ (w.heap.size + 1) _ rfl (load3 (sg_set K2.out.res ⟨11, g, r⟩))
    case hR => exact ⟨by rw [HE.out]; rfl, K2.out.done _⟩
  have e1 : (p == 1) = false := by rw [beq_eq_false_iff_ne]; exact h1
  have e2 : (p == 2) = false := by rw [beq_eq_false_iff_ne]; exact h2
  have e4 : (p == 4) = false := by rw [beq_eq_false_iff_ne]; exact h4
  have e6 : (p == 6) = false := by rw [beq_eq_false_iff_ne]; exact h6
  have e7 : (p == 7) = false := by rw [beq_eq_false_iff_ne]; exact h7
  have e9 : (p == 9) = false := by rw [beq_eq_false_iff_ne]; exact h9
  have e10 : (p == 10) = false := by rw [beq_eq_false_iff_ne]; exact h10
  have HE := Lib.hid (stepY0 p g r limit h1 h2 h4 h6 h7 h9 h10)
  clear h1 h2 h4 h6 h7 h9 h10
  have I := Lib.hid (StI.begin w ⟨p, g, r⟩)
  have c0 := I.out.box.s.1.1
  have K2 := I
  have ld := I.out.ld
  have st := I.out.st ⟨p, g, r⟩
  go_enter Try.func13, Try.ntmps13
  go_wp2_with fail
  (try simp only [Exit.inBlock, Exit.then])
  apply bodyPost_ret
  case hd => rfl
  case hr => exact results_cell_two rfl _ _ (w.heap.size + 1) _ rfl (load3 (sg_set K2.out.res ⟨p, g, r⟩))
  case hR => exact ⟨by rw [HE.out]; rfl, K2.out.done _⟩

set_option maxHeartbeats 8000000 in
theorem stepN (s : Sg) (limit : Int) (w : World) (hr : 0 ≤ s.ref ∧ s.ref ≤ 1000000) : Calls Try.prog 13 #[sgV s, .int .i64 2, .int .i64 limit] w (StepP (stepS s 2 limit) w) := by
  obtain ⟨p, g, r⟩ := s
  by_cases h1 : p = 1
  · subst h1
    have HE := Lib.hid (show stepS ⟨1, g, r⟩ 2 limit = (⟨11, g, r⟩, asksN 11, 0) by simp [stepS, rowT, stuckB, undoB, asksN])
    have CE := Lib.hid (fun W => enter_any ⟨1, g, r⟩ 11 W)
    have I := Lib.hid (StI.begin w ⟨1, g, r⟩)
    have c0 := I.out.box.s.1.1
    have K : Hid (StI w ⟨1, g, r⟩ ((w.alloc (.cells (sgC ⟨1, g, r⟩) 25)).alloc (.cells (sgC noSg) 25))) := Lib.hid (StI.begin w ⟨1, g, r⟩)
    have ld : LdX 25 (.pointer (some ⟨w.heap.size, 0, none⟩)) ((w.alloc (.cells (sgC ⟨1, g, r⟩) 25)).alloc (.cells (sgC noSg) 25)) = .ok (.value (sgV ⟨1, g, r⟩)) ((w.alloc (.cells (sgC ⟨1, g, r⟩) 25)).alloc (.cells (sgC noSg) 25)) := K.out.ld
    go_enter Try.func13, Try.ntmps13
    go_wp2_with fail
    generalize ((w.alloc (.cells (sgC ⟨1, g, r⟩) 25)).alloc (.cells (sgC noSg) 25)) = W0 at *
    refine (CE.out _).mono ?_
    rintro x W1 ⟨rfl, b1⟩
    have K2 : Hid (StI w ⟨1, g, r⟩ W1) := Lib.hid (K.out.below b1)
    have st := K2.out.st ⟨11, g, r⟩
    clear b1 ld I K CE c0
    go_wp2_with fail
    (try simp only [Exit.inBlock, Exit.then])
    apply bodyPost_ret
    case hd => rfl
    case hr => exact results_cell_two rfl _ _ (w.heap.size + 1) _ rfl (load3 (sg_set K2.out.res ⟨11, g, r⟩))
    case hR => exact ⟨by rw [HE.out]; rfl, K2.out.done _⟩
  by_cases h2 : p = 2
  · subst h2
    have HE := Lib.hid (show stepS ⟨2, g, r⟩ 2 limit = (⟨10, g, r⟩, asksN 10, 0) by simp [stepS, rowT, stuckB, undoB, asksN])
    have CE := Lib.hid (fun W => enter_any ⟨2, g, r⟩ 10 W)
    have I := Lib.hid (StI.begin w ⟨2, g, r⟩)
    have c0 := I.out.box.s.1.1
    have K : Hid (StI w ⟨2, g, r⟩ ((w.alloc (.cells (sgC ⟨2, g, r⟩) 25)).alloc (.cells (sgC noSg) 25))) := Lib.hid (StI.begin w ⟨2, g, r⟩)
    have ld : LdX 25 (.pointer (some ⟨w.heap.size, 0, none⟩)) ((w.alloc (.cells (sgC ⟨2, g, r⟩) 25)).alloc (.cells (sgC noSg) 25)) = .ok (.value (sgV ⟨2, g, r⟩)) ((w.alloc (.cells (sgC ⟨2, g, r⟩) 25)).alloc (.cells (sgC noSg) 25)) := K.out.ld
    go_enter Try.func13, Try.ntmps13
    go_wp2_with fail
    generalize ((w.alloc (.cells (sgC ⟨2, g, r⟩) 25)).alloc (.cells (sgC noSg) 25)) = W0 at *
    refine (CE.out _).mono ?_
    rintro x W1 ⟨rfl, b1⟩
    have K2 : Hid (StI w ⟨2, g, r⟩ W1) := Lib.hid (K.out.below b1)
    have st := K2.out.st ⟨10, g, r⟩
    clear b1 ld I K CE c0
    go_wp2_with fail
    (try simp only [Exit.inBlock, Exit.then])
    apply bodyPost_ret
    case hd => rfl
    case hr => exact results_cell_two rfl _ _ (w.heap.size + 1) _ rfl (load3 (sg_set K2.out.res ⟨10, g, r⟩))
    case hR => exact ⟨by rw [HE.out]; rfl, K2.out.done _⟩
  by_cases h4 : p = 4
  · subst h4
    have HE := Lib.hid (show stepS ⟨4, g, r⟩ 2 limit = (⟨9, g, r⟩, asksN 9, 0) by simp [stepS, rowT, stuckB, undoB, asksN])
    have CE := Lib.hid (fun W => enter_any ⟨4, g, r⟩ 9 W)
    have I := Lib.hid (StI.begin w ⟨4, g, r⟩)
    have c0 := I.out.box.s.1.1
    have K : Hid (StI w ⟨4, g, r⟩ ((w.alloc (.cells (sgC ⟨4, g, r⟩) 25)).alloc (.cells (sgC noSg) 25))) := Lib.hid (StI.begin w ⟨4, g, r⟩)
    have ld : LdX 25 (.pointer (some ⟨w.heap.size, 0, none⟩)) ((w.alloc (.cells (sgC ⟨4, g, r⟩) 25)).alloc (.cells (sgC noSg) 25)) = .ok (.value (sgV ⟨4, g, r⟩)) ((w.alloc (.cells (sgC ⟨4, g, r⟩) 25)).alloc (.cells (sgC noSg) 25)) := K.out.ld
    go_enter Try.func13, Try.ntmps13
    go_wp2_with fail
    generalize ((w.alloc (.cells (sgC ⟨4, g, r⟩) 25)).alloc (.cells (sgC noSg) 25)) = W0 at *
    refine (CE.out _).mono ?_
    rintro x W1 ⟨rfl, b1⟩
    have K2 : Hid (StI w ⟨4, g, r⟩ W1) := Lib.hid (K.out.below b1)
    have st := K2.out.st ⟨9, g, r⟩
    clear b1 ld I K CE c0
    go_wp2_with fail
    (try simp only [Exit.inBlock, Exit.then])
    apply bodyPost_ret
    case hd => rfl
    case hr => exact results_cell_two rfl _ _ (w.heap.size + 1) _ rfl (load3 (sg_set K2.out.res ⟨9, g, r⟩))
    case hR => exact ⟨by rw [HE.out]; rfl, K2.out.done _⟩
  by_cases h6 : p = 6
  · subst h6
    have HE := Lib.hid (show stepS ⟨6, g, r⟩ 2 limit = (⟨9, g, r⟩, asksN 9, 0) by simp [stepS, rowT, stuckB, undoB, asksN])
    have CE := Lib.hid (fun W => enter_any ⟨6, g, r⟩ 9 W)
    have I := Lib.hid (StI.begin w ⟨6, g, r⟩)
    have c0 := I.out.box.s.1.1
    have K : Hid (StI w ⟨6, g, r⟩ ((w.alloc (.cells (sgC ⟨6, g, r⟩) 25)).alloc (.cells (sgC noSg) 25))) := Lib.hid (StI.begin w ⟨6, g, r⟩)
    have ld : LdX 25 (.pointer (some ⟨w.heap.size, 0, none⟩)) ((w.alloc (.cells (sgC ⟨6, g, r⟩) 25)).alloc (.cells (sgC noSg) 25)) = .ok (.value (sgV ⟨6, g, r⟩)) ((w.alloc (.cells (sgC ⟨6, g, r⟩) 25)).alloc (.cells (sgC noSg) 25)) := K.out.ld
    go_enter Try.func13, Try.ntmps13
    go_wp2_with fail
    generalize ((w.alloc (.cells (sgC ⟨6, g, r⟩) 25)).alloc (.cells (sgC noSg) 25)) = W0 at *
    refine (CE.out _).mono ?_
    rintro x W1 ⟨rfl, b1⟩
    have K2 : Hid (StI w ⟨6, g, r⟩ W1) := Lib.hid (K.out.below b1)
    have st := K2.out.st ⟨9, g, r⟩
    clear b1 ld I K CE c0
    go_wp2_with fail
    (try simp only [Exit.inBlock, Exit.then])
    apply bodyPost_ret
    case hd => rfl
    case hr => exact results_cell_two rfl _ _ (w.heap.size + 1) _ rfl (load3 (sg_set K2.out.res ⟨9, g, r⟩))
    case hR => exact ⟨by rw [HE.out]; rfl, K2.out.done _⟩
  by_cases h7 : p = 7
  · subst h7
    have HE := Lib.hid (show stepS ⟨7, g, r⟩ 2 limit = (⟨7, g, r⟩, asksN 7, 0) by simp [stepS, rowT, stuckB, undoB, asksN])
    have CE := Lib.hid (fun W => enter_any ⟨7, g, r⟩ 7 W)
    have I := Lib.hid (StI.begin w ⟨7, g, r⟩)
    have c0 := I.out.box.s.1.1
    have K : Hid (StI w ⟨7, g, r⟩ ((w.alloc (.cells (sgC ⟨7, g, r⟩) 25)).alloc (.cells (sgC noSg) 25))) := Lib.hid (StI.begin w ⟨7, g, r⟩)
    have ld : LdX 25 (.pointer (some ⟨w.heap.size, 0, none⟩)) ((w.alloc (.cells (sgC ⟨7, g, r⟩) 25)).alloc (.cells (sgC noSg) 25)) = .ok (.value (sgV ⟨7, g, r⟩)) ((w.alloc (.cells (sgC ⟨7, g, r⟩) 25)).alloc (.cells (sgC noSg) 25)) := K.out.ld
    go_enter Try.func13, Try.ntmps13
    go_wp2_with fail
    generalize ((w.alloc (.cells (sgC ⟨7, g, r⟩) 25)).alloc (.cells (sgC noSg) 25)) = W0 at *
    refine (CE.out _).mono ?_
    rintro x W1 ⟨rfl, b1⟩
    have K2 : Hid (StI w ⟨7, g, r⟩ W1) := Lib.hid (K.out.below b1)
    have st := K2.out.st ⟨7, g, r⟩
    clear b1 ld I K CE c0
    go_wp2_with fail
    (try simp only [Exit.inBlock, Exit.then])
    apply bodyPost_ret
    case hd => rfl
    case hr => exact results_cell_two rfl _ _ (w.heap.size + 1) _ rfl (load3 (sg_set K2.out.res ⟨7, g, r⟩))
    case hR => exact ⟨by rw [HE.out]; rfl, K2.out.done _⟩
  by_cases h9 : p = 9
  · subst h9
    have HE := Lib.hid (show stepS ⟨9, g, r⟩ 2 limit = (refuseS ⟨9, g, r⟩ limit, asksN (refuseS ⟨9, g, r⟩ limit).phase, 0) from step_refuse9 g r limit)
    have CE := Lib.hid (fun W => refuse_any ⟨9, g, r⟩ limit W hr)
    have I := Lib.hid (StI.begin w ⟨9, g, r⟩)
    have c0 := I.out.box.s.1.1
    have K : Hid (StI w ⟨9, g, r⟩ ((w.alloc (.cells (sgC ⟨9, g, r⟩) 25)).alloc (.cells (sgC noSg) 25))) := Lib.hid (StI.begin w ⟨9, g, r⟩)
    have ld : LdX 25 (.pointer (some ⟨w.heap.size, 0, none⟩)) ((w.alloc (.cells (sgC ⟨9, g, r⟩) 25)).alloc (.cells (sgC noSg) 25)) = .ok (.value (sgV ⟨9, g, r⟩)) ((w.alloc (.cells (sgC ⟨9, g, r⟩) 25)).alloc (.cells (sgC noSg) 25)) := K.out.ld
    go_enter Try.func13, Try.ntmps13
    go_wp2_with fail
    generalize ((w.alloc (.cells (sgC ⟨9, g, r⟩) 25)).alloc (.cells (sgC noSg) 25)) = W0 at *
    refine (CE.out _).mono ?_
    rintro x W1 ⟨rfl, b1⟩
    have K2 : Hid (StI w ⟨9, g, r⟩ W1) := Lib.hid (K.out.below b1)
    have st := K2.out.st (refuseS ⟨9, g, r⟩ limit)
    clear b1 ld I K CE c0
    go_wp2_with fail
    (try simp only [Exit.inBlock, Exit.then])
    apply bodyPost_ret
    case hd => rfl
    case hr => exact results_cell_two rfl _ _ (w.heap.size + 1) _ rfl (load3 (sg_set K2.out.res (refuseS ⟨9, g, r⟩ limit)))
    case hR => exact ⟨by rw [HE.out]; rfl, K2.out.done _⟩
  by_cases h10 : p = 10
  · subst h10
    have HE := Lib.hid (show stepS ⟨10, g, r⟩ 2 limit = (refuseS ⟨10, g, r⟩ limit, asksN (refuseS ⟨10, g, r⟩ limit).phase, 0) from step_refuse10 g r limit)
    have CE := Lib.hid (fun W => refuse_any ⟨10, g, r⟩ limit W hr)
    have I := Lib.hid (StI.begin w ⟨10, g, r⟩)
    have c0 := I.out.box.s.1.1
    have K : Hid (StI w ⟨10, g, r⟩ ((w.alloc (.cells (sgC ⟨10, g, r⟩) 25)).alloc (.cells (sgC noSg) 25))) := Lib.hid (StI.begin w ⟨10, g, r⟩)
    have ld : LdX 25 (.pointer (some ⟨w.heap.size, 0, none⟩)) ((w.alloc (.cells (sgC ⟨10, g, r⟩) 25)).alloc (.cells (sgC noSg) 25)) = .ok (.value (sgV ⟨10, g, r⟩)) ((w.alloc (.cells (sgC ⟨10, g, r⟩) 25)).alloc (.cells (sgC noSg) 25)) := K.out.ld
    go_enter Try.func13, Try.ntmps13
    go_wp2_with fail
    generalize ((w.alloc (.cells (sgC ⟨10, g, r⟩) 25)).alloc (.cells (sgC noSg) 25)) = W0 at *
    refine (CE.out _).mono ?_
    rintro x W1 ⟨rfl, b1⟩
    have K2 : Hid (StI w ⟨10, g, r⟩ W1) := Lib.hid (K.out.below b1)
    have st := K2.out.st (refuseS ⟨10, g, r⟩ limit)
    clear b1 ld I K CE c0
    go_wp2_with fail
    (try simp only [Exit.inBlock, Exit.then])
    apply bodyPost_ret
    case hd => rfl
    case hr => exact results_cell_two rfl _ _ (w.heap.size + 1) _ rfl (load3 (sg_set K2.out.res (refuseS ⟨10, g, r⟩ limit)))
    case hR => exact ⟨by rw [HE.out]; rfl, K2.out.done _⟩
  have e1 : (p == 1) = false := by rw [beq_eq_false_iff_ne]; exact h1
  have e2 : (p == 2) = false := by rw [beq_eq_false_iff_ne]; exact h2
  have e4 : (p == 4) = false := by rw [beq_eq_false_iff_ne]; exact h4
  have e6 : (p == 6) = false := by rw [beq_eq_false_iff_ne]; exact h6
  have e7 : (p == 7) = false := by rw [beq_eq_false_iff_ne]; exact h7
  have e9 : (p == 9) = false := by rw [beq_eq_false_iff_ne]; exact h9
  have e10 : (p == 10) = false := by rw [beq_eq_false_iff_ne]; exact h10
  have HE := Lib.hid (stepN0 p g r limit h1 h2 h4 h6 h7 h9 h10)
  clear h1 h2 h4 h6 h7 h9 h10
  have I := Lib.hid (StI.begin w ⟨p, g, r⟩)
  have c0 := I.out.box.s.1.1
  have K2 := I
  have ld := I.out.ld
  have st := I.out.st ⟨p, g, r⟩
  go_enter Try.func13, Try.ntmps13
  go_wp2_with fail
  (try simp only [Exit.inBlock, Exit.then])
  apply bodyPost_ret
  case hd => rfl
  case hr => exact results_cell_two rfl _ _ (w.heap.size + 1) _ rfl (load3 (sg_set K2.out.res ⟨p, g, r⟩))
  case hR => exact ⟨by rw [HE.out]; rfl, K2.out.done _⟩

set_option maxHeartbeats 8000000 in
theorem stepC (s : Sg) (limit : Int) (w : World) (hr : 0 ≤ s.ref ∧ s.ref ≤ 1000000) : Calls Try.prog 13 #[sgV s, .int .i64 3, .int .i64 limit] w (StepP (stepS s 3 limit) w) := by
  obtain ⟨p, g, r⟩ := s
  by_cases h1 : p = 1
  · subst h1
    have HE := Lib.hid (show stepS ⟨1, g, r⟩ 3 limit = (⟨1, true, r⟩, 0, 0) by simp [stepS, rowT, stuckB, undoB])
    have I := Lib.hid (StI.begin w ⟨1, g, r⟩)
    have c0 := I.out.box.s.1.1
    have z1 := I.out.box.s.2.2.1
    have K : Hid (StI w ⟨1, true, r⟩ ((w.alloc (.cells ((sgC ⟨1, g, r⟩).setIfInBounds 1 (.bool true)) 25)).alloc (.cells (sgC noSg) 25))) := Lib.hid (StI.begin w ⟨1, true, r⟩)
    have ld : LdX 25 (.pointer (some ⟨w.heap.size, 0, none⟩)) ((w.alloc (.cells ((sgC ⟨1, g, r⟩).setIfInBounds 1 (.bool true)) 25)).alloc (.cells (sgC noSg) 25)) = .ok (.value (sgV ⟨1, true, r⟩)) ((w.alloc (.cells ((sgC ⟨1, g, r⟩).setIfInBounds 1 (.bool true)) 25)).alloc (.cells (sgC noSg) 25)) := K.out.ld
    have st : StX 25 (.pointer (some ⟨w.heap.size + 1, 0, none⟩)) (sgV ⟨1, true, r⟩) ((w.alloc (.cells ((sgC ⟨1, g, r⟩).setIfInBounds 1 (.bool true)) 25)).alloc (.cells (sgC noSg) 25)) = .ok .skip (((w.alloc (.cells ((sgC ⟨1, g, r⟩).setIfInBounds 1 (.bool true)) 25)).alloc (.cells (sgC noSg) 25)).setRow (w.heap.size + 1) (sgC ⟨1, true, r⟩)) := K.out.st ⟨1, true, r⟩
    go_enter Try.func13, Try.ntmps13
    go_wp2_with fail
    have K2 := K
    (try simp only [Exit.inBlock, Exit.then])
    apply bodyPost_ret
    case hd => rfl
    case hr => exact results_cell_two rfl _ _ (w.heap.size + 1) _ rfl (load3 (sg_set K2.out.res ⟨1, true, r⟩))
    case hR => exact ⟨by rw [HE.out]; rfl, K2.out.done _⟩
  by_cases h2 : p = 2
  · subst h2
    have HE := Lib.hid (show stepS ⟨2, g, r⟩ 3 limit = (⟨2, true, r⟩, 0, 0) by simp [stepS, rowT, stuckB, undoB])
    have I := Lib.hid (StI.begin w ⟨2, g, r⟩)
    have c0 := I.out.box.s.1.1
    have z1 := I.out.box.s.2.2.1
    have K : Hid (StI w ⟨2, true, r⟩ ((w.alloc (.cells ((sgC ⟨2, g, r⟩).setIfInBounds 1 (.bool true)) 25)).alloc (.cells (sgC noSg) 25))) := Lib.hid (StI.begin w ⟨2, true, r⟩)
    have ld : LdX 25 (.pointer (some ⟨w.heap.size, 0, none⟩)) ((w.alloc (.cells ((sgC ⟨2, g, r⟩).setIfInBounds 1 (.bool true)) 25)).alloc (.cells (sgC noSg) 25)) = .ok (.value (sgV ⟨2, true, r⟩)) ((w.alloc (.cells ((sgC ⟨2, g, r⟩).setIfInBounds 1 (.bool true)) 25)).alloc (.cells (sgC noSg) 25)) := K.out.ld
    have st : StX 25 (.pointer (some ⟨w.heap.size + 1, 0, none⟩)) (sgV ⟨2, true, r⟩) ((w.alloc (.cells ((sgC ⟨2, g, r⟩).setIfInBounds 1 (.bool true)) 25)).alloc (.cells (sgC noSg) 25)) = .ok .skip (((w.alloc (.cells ((sgC ⟨2, g, r⟩).setIfInBounds 1 (.bool true)) 25)).alloc (.cells (sgC noSg) 25)).setRow (w.heap.size + 1) (sgC ⟨2, true, r⟩)) := K.out.st ⟨2, true, r⟩
    go_enter Try.func13, Try.ntmps13
    go_wp2_with fail
    have K2 := K
    (try simp only [Exit.inBlock, Exit.then])
    apply bodyPost_ret
    case hd => rfl
    case hr => exact results_cell_two rfl _ _ (w.heap.size + 1) _ rfl (load3 (sg_set K2.out.res ⟨2, true, r⟩))
    case hR => exact ⟨by rw [HE.out]; rfl, K2.out.done _⟩
  by_cases h3 : p = 3
  · subst h3
    have HE := Lib.hid (show stepS ⟨3, g, r⟩ 3 limit = (⟨9, true, r⟩, asksN 9, 0) by simp [stepS, rowT, stuckB, undoB, asksN])
    have CE := Lib.hid (fun W => enter_any ⟨3, true, r⟩ 9 W)
    have I := Lib.hid (StI.begin w ⟨3, g, r⟩)
    have c0 := I.out.box.s.1.1
    have z1 := I.out.box.s.2.2.1
    have K : Hid (StI w ⟨3, true, r⟩ ((w.alloc (.cells ((sgC ⟨3, g, r⟩).setIfInBounds 1 (.bool true)) 25)).alloc (.cells (sgC noSg) 25))) := Lib.hid (StI.begin w ⟨3, true, r⟩)
    have ld : LdX 25 (.pointer (some ⟨w.heap.size, 0, none⟩)) ((w.alloc (.cells ((sgC ⟨3, g, r⟩).setIfInBounds 1 (.bool true)) 25)).alloc (.cells (sgC noSg) 25)) = .ok (.value (sgV ⟨3, true, r⟩)) ((w.alloc (.cells ((sgC ⟨3, g, r⟩).setIfInBounds 1 (.bool true)) 25)).alloc (.cells (sgC noSg) 25)) := K.out.ld
    go_enter Try.func13, Try.ntmps13
    go_wp2_with fail
    generalize ((w.alloc (.cells ((sgC ⟨3, g, r⟩).setIfInBounds 1 (.bool true)) 25)).alloc (.cells (sgC noSg) 25)) = W0 at *
    refine (CE.out _).mono ?_
    rintro x W1 ⟨rfl, b1⟩
    have K2 : Hid (StI w ⟨3, true, r⟩ W1) := Lib.hid (K.out.below b1)
    have st := K2.out.st ⟨9, true, r⟩
    clear b1 ld I K CE c0 z1
    go_wp2_with fail
    (try simp only [Exit.inBlock, Exit.then])
    apply bodyPost_ret
    case hd => rfl
    case hr => exact results_cell_two rfl _ _ (w.heap.size + 1) _ rfl (load3 (sg_set K2.out.res ⟨9, true, r⟩))
    case hR => exact ⟨by rw [HE.out]; rfl, K2.out.done _⟩
  by_cases h4 : p = 4
  · subst h4
    have HE := Lib.hid (show stepS ⟨4, g, r⟩ 3 limit = (⟨4, true, r⟩, 0, 0) by simp [stepS, rowT, stuckB, undoB])
    have I := Lib.hid (StI.begin w ⟨4, g, r⟩)
    have c0 := I.out.box.s.1.1
    have z1 := I.out.box.s.2.2.1
    have K : Hid (StI w ⟨4, true, r⟩ ((w.alloc (.cells ((sgC ⟨4, g, r⟩).setIfInBounds 1 (.bool true)) 25)).alloc (.cells (sgC noSg) 25))) := Lib.hid (StI.begin w ⟨4, true, r⟩)
    have ld : LdX 25 (.pointer (some ⟨w.heap.size, 0, none⟩)) ((w.alloc (.cells ((sgC ⟨4, g, r⟩).setIfInBounds 1 (.bool true)) 25)).alloc (.cells (sgC noSg) 25)) = .ok (.value (sgV ⟨4, true, r⟩)) ((w.alloc (.cells ((sgC ⟨4, g, r⟩).setIfInBounds 1 (.bool true)) 25)).alloc (.cells (sgC noSg) 25)) := K.out.ld
    have st : StX 25 (.pointer (some ⟨w.heap.size + 1, 0, none⟩)) (sgV ⟨4, true, r⟩) ((w.alloc (.cells ((sgC ⟨4, g, r⟩).setIfInBounds 1 (.bool true)) 25)).alloc (.cells (sgC noSg) 25)) = .ok .skip (((w.alloc (.cells ((sgC ⟨4, g, r⟩).setIfInBounds 1 (.bool true)) 25)).alloc (.cells (sgC noSg) 25)).setRow (w.heap.size + 1) (sgC ⟨4, true, r⟩)) := K.out.st ⟨4, true, r⟩
    go_enter Try.func13, Try.ntmps13
    go_wp2_with fail
    have K2 := K
    (try simp only [Exit.inBlock, Exit.then])
    apply bodyPost_ret
    case hd => rfl
    case hr => exact results_cell_two rfl _ _ (w.heap.size + 1) _ rfl (load3 (sg_set K2.out.res ⟨4, true, r⟩))
    case hR => exact ⟨by rw [HE.out]; rfl, K2.out.done _⟩
  by_cases h5 : p = 5
  · subst h5
    have HE := Lib.hid (show stepS ⟨5, g, r⟩ 3 limit = (⟨9, true, r⟩, asksN 9, 0) by simp [stepS, rowT, stuckB, undoB, asksN])
    have CE := Lib.hid (fun W => enter_any ⟨5, true, r⟩ 9 W)
    have I := Lib.hid (StI.begin w ⟨5, g, r⟩)
    have c0 := I.out.box.s.1.1
    have z1 := I.out.box.s.2.2.1
    have K : Hid (StI w ⟨5, true, r⟩ ((w.alloc (.cells ((sgC ⟨5, g, r⟩).setIfInBounds 1 (.bool true)) 25)).alloc (.cells (sgC noSg) 25))) := Lib.hid (StI.begin w ⟨5, true, r⟩)
    have ld : LdX 25 (.pointer (some ⟨w.heap.size, 0, none⟩)) ((w.alloc (.cells ((sgC ⟨5, g, r⟩).setIfInBounds 1 (.bool true)) 25)).alloc (.cells (sgC noSg) 25)) = .ok (.value (sgV ⟨5, true, r⟩)) ((w.alloc (.cells ((sgC ⟨5, g, r⟩).setIfInBounds 1 (.bool true)) 25)).alloc (.cells (sgC noSg) 25)) := K.out.ld
    go_enter Try.func13, Try.ntmps13
    go_wp2_with fail
    generalize ((w.alloc (.cells ((sgC ⟨5, g, r⟩).setIfInBounds 1 (.bool true)) 25)).alloc (.cells (sgC noSg) 25)) = W0 at *
    refine (CE.out _).mono ?_
    rintro x W1 ⟨rfl, b1⟩
    have K2 : Hid (StI w ⟨5, true, r⟩ W1) := Lib.hid (K.out.below b1)
    have st := K2.out.st ⟨9, true, r⟩
    clear b1 ld I K CE c0 z1
    go_wp2_with fail
    (try simp only [Exit.inBlock, Exit.then])
    apply bodyPost_ret
    case hd => rfl
    case hr => exact results_cell_two rfl _ _ (w.heap.size + 1) _ rfl (load3 (sg_set K2.out.res ⟨9, true, r⟩))
    case hR => exact ⟨by rw [HE.out]; rfl, K2.out.done _⟩
  by_cases h6 : p = 6
  · subst h6
    have HE := Lib.hid (show stepS ⟨6, g, r⟩ 3 limit = (⟨6, g, r⟩, 0, 141) by simp [stepS, rowT])
    have I := Lib.hid (StI.begin w ⟨6, g, r⟩)
    have c0 := I.out.box.s.1.1
    have K : Hid (StI w ⟨6, g, r⟩ ((w.alloc (.cells (sgC ⟨6, g, r⟩) 25)).alloc (.cells (sgC noSg) 25))) := Lib.hid (StI.begin w ⟨6, g, r⟩)
    have ld : LdX 25 (.pointer (some ⟨w.heap.size, 0, none⟩)) ((w.alloc (.cells (sgC ⟨6, g, r⟩) 25)).alloc (.cells (sgC noSg) 25)) = .ok (.value (sgV ⟨6, g, r⟩)) ((w.alloc (.cells (sgC ⟨6, g, r⟩) 25)).alloc (.cells (sgC noSg) 25)) := K.out.ld
    have st : StX 25 (.pointer (some ⟨w.heap.size + 1, 0, none⟩)) (sgV ⟨6, g, r⟩) ((w.alloc (.cells (sgC ⟨6, g, r⟩) 25)).alloc (.cells (sgC noSg) 25)) = .ok .skip (((w.alloc (.cells (sgC ⟨6, g, r⟩) 25)).alloc (.cells (sgC noSg) 25)).setRow (w.heap.size + 1) (sgC ⟨6, g, r⟩)) := K.out.st ⟨6, g, r⟩
    go_enter Try.func13, Try.ntmps13
    go_wp2_with fail
    have K2 := K
    (try simp only [Exit.inBlock, Exit.then])
    apply bodyPost_ret
    case hd => rfl
    case hr => exact results_cell_two rfl _ _ (w.heap.size + 1) _ rfl (load3 (sg_set K2.out.res ⟨6, g, r⟩))
    case hR => exact ⟨by rw [HE.out]; rfl, K2.out.done _⟩
  by_cases h7 : p = 7
  · subst h7
    have HE := Lib.hid (show stepS ⟨7, g, r⟩ 3 limit = (⟨7, g, r⟩, 0, 141) by simp [stepS, rowT])
    have I := Lib.hid (StI.begin w ⟨7, g, r⟩)
    have c0 := I.out.box.s.1.1
    have K : Hid (StI w ⟨7, g, r⟩ ((w.alloc (.cells (sgC ⟨7, g, r⟩) 25)).alloc (.cells (sgC noSg) 25))) := Lib.hid (StI.begin w ⟨7, g, r⟩)
    have ld : LdX 25 (.pointer (some ⟨w.heap.size, 0, none⟩)) ((w.alloc (.cells (sgC ⟨7, g, r⟩) 25)).alloc (.cells (sgC noSg) 25)) = .ok (.value (sgV ⟨7, g, r⟩)) ((w.alloc (.cells (sgC ⟨7, g, r⟩) 25)).alloc (.cells (sgC noSg) 25)) := K.out.ld
    have st : StX 25 (.pointer (some ⟨w.heap.size + 1, 0, none⟩)) (sgV ⟨7, g, r⟩) ((w.alloc (.cells (sgC ⟨7, g, r⟩) 25)).alloc (.cells (sgC noSg) 25)) = .ok .skip (((w.alloc (.cells (sgC ⟨7, g, r⟩) 25)).alloc (.cells (sgC noSg) 25)).setRow (w.heap.size + 1) (sgC ⟨7, g, r⟩)) := K.out.st ⟨7, g, r⟩
    go_enter Try.func13, Try.ntmps13
    go_wp2_with fail
    have K2 := K
    (try simp only [Exit.inBlock, Exit.then])
    apply bodyPost_ret
    case hd => rfl
    case hr => exact results_cell_two rfl _ _ (w.heap.size + 1) _ rfl (load3 (sg_set K2.out.res ⟨7, g, r⟩))
    case hR => exact ⟨by rw [HE.out]; rfl, K2.out.done _⟩
  by_cases h8 : p = 8
  · subst h8
    have HE := Lib.hid (show stepS ⟨8, g, r⟩ 3 limit = (⟨8, g, r⟩, 0, 141) by simp [stepS, rowT])
    have I := Lib.hid (StI.begin w ⟨8, g, r⟩)
    have c0 := I.out.box.s.1.1
    have K : Hid (StI w ⟨8, g, r⟩ ((w.alloc (.cells (sgC ⟨8, g, r⟩) 25)).alloc (.cells (sgC noSg) 25))) := Lib.hid (StI.begin w ⟨8, g, r⟩)
    have ld : LdX 25 (.pointer (some ⟨w.heap.size, 0, none⟩)) ((w.alloc (.cells (sgC ⟨8, g, r⟩) 25)).alloc (.cells (sgC noSg) 25)) = .ok (.value (sgV ⟨8, g, r⟩)) ((w.alloc (.cells (sgC ⟨8, g, r⟩) 25)).alloc (.cells (sgC noSg) 25)) := K.out.ld
    have st : StX 25 (.pointer (some ⟨w.heap.size + 1, 0, none⟩)) (sgV ⟨8, g, r⟩) ((w.alloc (.cells (sgC ⟨8, g, r⟩) 25)).alloc (.cells (sgC noSg) 25)) = .ok .skip (((w.alloc (.cells (sgC ⟨8, g, r⟩) 25)).alloc (.cells (sgC noSg) 25)).setRow (w.heap.size + 1) (sgC ⟨8, g, r⟩)) := K.out.st ⟨8, g, r⟩
    go_enter Try.func13, Try.ntmps13
    go_wp2_with fail
    have K2 := K
    (try simp only [Exit.inBlock, Exit.then])
    apply bodyPost_ret
    case hd => rfl
    case hr => exact results_cell_two rfl _ _ (w.heap.size + 1) _ rfl (load3 (sg_set K2.out.res ⟨8, g, r⟩))
    case hR => exact ⟨by rw [HE.out]; rfl, K2.out.done _⟩
  by_cases h9 : p = 9
  · subst h9
    have HE := Lib.hid (show stepS ⟨9, g, r⟩ 3 limit = (⟨9, g, r⟩, 0, 0) by simp [stepS, rowT, stuckB, undoB])
    have I := Lib.hid (StI.begin w ⟨9, g, r⟩)
    have c0 := I.out.box.s.1.1
    have K : Hid (StI w ⟨9, g, r⟩ ((w.alloc (.cells (sgC ⟨9, g, r⟩) 25)).alloc (.cells (sgC noSg) 25))) := Lib.hid (StI.begin w ⟨9, g, r⟩)
    have ld : LdX 25 (.pointer (some ⟨w.heap.size, 0, none⟩)) ((w.alloc (.cells (sgC ⟨9, g, r⟩) 25)).alloc (.cells (sgC noSg) 25)) = .ok (.value (sgV ⟨9, g, r⟩)) ((w.alloc (.cells (sgC ⟨9, g, r⟩) 25)).alloc (.cells (sgC noSg) 25)) := K.out.ld
    have st : StX 25 (.pointer (some ⟨w.heap.size + 1, 0, none⟩)) (sgV ⟨9, g, r⟩) ((w.alloc (.cells (sgC ⟨9, g, r⟩) 25)).alloc (.cells (sgC noSg) 25)) = .ok .skip (((w.alloc (.cells (sgC ⟨9, g, r⟩) 25)).alloc (.cells (sgC noSg) 25)).setRow (w.heap.size + 1) (sgC ⟨9, g, r⟩)) := K.out.st ⟨9, g, r⟩
    go_enter Try.func13, Try.ntmps13
    go_wp2_with fail
    have K2 := K
    (try simp only [Exit.inBlock, Exit.then])
    apply bodyPost_ret
    case hd => rfl
    case hr => exact results_cell_two rfl _ _ (w.heap.size + 1) _ rfl (load3 (sg_set K2.out.res ⟨9, g, r⟩))
    case hR => exact ⟨by rw [HE.out]; rfl, K2.out.done _⟩
  by_cases h10 : p = 10
  · subst h10
    have HE := Lib.hid (show stepS ⟨10, g, r⟩ 3 limit = (⟨10, g, r⟩, 0, 0) by simp [stepS, rowT, stuckB, undoB])
    have I := Lib.hid (StI.begin w ⟨10, g, r⟩)
    have c0 := I.out.box.s.1.1
    have K : Hid (StI w ⟨10, g, r⟩ ((w.alloc (.cells (sgC ⟨10, g, r⟩) 25)).alloc (.cells (sgC noSg) 25))) := Lib.hid (StI.begin w ⟨10, g, r⟩)
    have ld : LdX 25 (.pointer (some ⟨w.heap.size, 0, none⟩)) ((w.alloc (.cells (sgC ⟨10, g, r⟩) 25)).alloc (.cells (sgC noSg) 25)) = .ok (.value (sgV ⟨10, g, r⟩)) ((w.alloc (.cells (sgC ⟨10, g, r⟩) 25)).alloc (.cells (sgC noSg) 25)) := K.out.ld
    have st : StX 25 (.pointer (some ⟨w.heap.size + 1, 0, none⟩)) (sgV ⟨10, g, r⟩) ((w.alloc (.cells (sgC ⟨10, g, r⟩) 25)).alloc (.cells (sgC noSg) 25)) = .ok .skip (((w.alloc (.cells (sgC ⟨10, g, r⟩) 25)).alloc (.cells (sgC noSg) 25)).setRow (w.heap.size + 1) (sgC ⟨10, g, r⟩)) := K.out.st ⟨10, g, r⟩
    go_enter Try.func13, Try.ntmps13
    go_wp2_with fail
    have K2 := K
    (try simp only [Exit.inBlock, Exit.then])
    apply bodyPost_ret
    case hd => rfl
    case hr => exact results_cell_two rfl _ _ (w.heap.size + 1) _ rfl (load3 (sg_set K2.out.res ⟨10, g, r⟩))
    case hR => exact ⟨by rw [HE.out]; rfl, K2.out.done _⟩
  by_cases h11 : p = 11
  · subst h11
    have HE := Lib.hid (show stepS ⟨11, g, r⟩ 3 limit = (⟨11, g, r⟩, 0, 0) by simp [stepS, rowT, stuckB, undoB])
    have I := Lib.hid (StI.begin w ⟨11, g, r⟩)
    have c0 := I.out.box.s.1.1
    have K : Hid (StI w ⟨11, g, r⟩ ((w.alloc (.cells (sgC ⟨11, g, r⟩) 25)).alloc (.cells (sgC noSg) 25))) := Lib.hid (StI.begin w ⟨11, g, r⟩)
    have ld : LdX 25 (.pointer (some ⟨w.heap.size, 0, none⟩)) ((w.alloc (.cells (sgC ⟨11, g, r⟩) 25)).alloc (.cells (sgC noSg) 25)) = .ok (.value (sgV ⟨11, g, r⟩)) ((w.alloc (.cells (sgC ⟨11, g, r⟩) 25)).alloc (.cells (sgC noSg) 25)) := K.out.ld
    have st : StX 25 (.pointer (some ⟨w.heap.size + 1, 0, none⟩)) (sgV ⟨11, g, r⟩) ((w.alloc (.cells (sgC ⟨11, g, r⟩) 25)).alloc (.cells (sgC noSg) 25)) = .ok .skip (((w.alloc (.cells (sgC ⟨11, g, r⟩) 25)).alloc (.cells (sgC noSg) 25)).setRow (w.heap.size + 1) (sgC ⟨11, g, r⟩)) := K.out.st ⟨11, g, r⟩
    go_enter Try.func13, Try.ntmps13
    go_wp2_with fail
    have K2 := K
    (try simp only [Exit.inBlock, Exit.then])
    apply bodyPost_ret
    case hd => rfl
    case hr => exact results_cell_two rfl _ _ (w.heap.size + 1) _ rfl (load3 (sg_set K2.out.res ⟨11, g, r⟩))
    case hR => exact ⟨by rw [HE.out]; rfl, K2.out.done _⟩
  by_cases h12 : p = 12
  · subst h12
    have HE := Lib.hid (show stepS ⟨12, g, r⟩ 3 limit = (⟨12, g, r⟩, 0, 141) by simp [stepS, rowT])
    have I := Lib.hid (StI.begin w ⟨12, g, r⟩)
    have c0 := I.out.box.s.1.1
    have K : Hid (StI w ⟨12, g, r⟩ ((w.alloc (.cells (sgC ⟨12, g, r⟩) 25)).alloc (.cells (sgC noSg) 25))) := Lib.hid (StI.begin w ⟨12, g, r⟩)
    have ld : LdX 25 (.pointer (some ⟨w.heap.size, 0, none⟩)) ((w.alloc (.cells (sgC ⟨12, g, r⟩) 25)).alloc (.cells (sgC noSg) 25)) = .ok (.value (sgV ⟨12, g, r⟩)) ((w.alloc (.cells (sgC ⟨12, g, r⟩) 25)).alloc (.cells (sgC noSg) 25)) := K.out.ld
    have st : StX 25 (.pointer (some ⟨w.heap.size + 1, 0, none⟩)) (sgV ⟨12, g, r⟩) ((w.alloc (.cells (sgC ⟨12, g, r⟩) 25)).alloc (.cells (sgC noSg) 25)) = .ok .skip (((w.alloc (.cells (sgC ⟨12, g, r⟩) 25)).alloc (.cells (sgC noSg) 25)).setRow (w.heap.size + 1) (sgC ⟨12, g, r⟩)) := K.out.st ⟨12, g, r⟩
    go_enter Try.func13, Try.ntmps13
    go_wp2_with fail
    have K2 := K
    (try simp only [Exit.inBlock, Exit.then])
    apply bodyPost_ret
    case hd => rfl
    case hr => exact results_cell_two rfl _ _ (w.heap.size + 1) _ rfl (load3 (sg_set K2.out.res ⟨12, g, r⟩))
    case hR => exact ⟨by rw [HE.out]; rfl, K2.out.done _⟩
  have e1 : (p == 1) = false := by rw [beq_eq_false_iff_ne]; exact h1
  have e2 : (p == 2) = false := by rw [beq_eq_false_iff_ne]; exact h2
  have e3 : (p == 3) = false := by rw [beq_eq_false_iff_ne]; exact h3
  have e4 : (p == 4) = false := by rw [beq_eq_false_iff_ne]; exact h4
  have e5 : (p == 5) = false := by rw [beq_eq_false_iff_ne]; exact h5
  have e6 : (p == 6) = false := by rw [beq_eq_false_iff_ne]; exact h6
  have e7 : (p == 7) = false := by rw [beq_eq_false_iff_ne]; exact h7
  have e8 : (p == 8) = false := by rw [beq_eq_false_iff_ne]; exact h8
  have e9 : (p == 9) = false := by rw [beq_eq_false_iff_ne]; exact h9
  have e10 : (p == 10) = false := by rw [beq_eq_false_iff_ne]; exact h10
  have e11 : (p == 11) = false := by rw [beq_eq_false_iff_ne]; exact h11
  have e12 : (p == 12) = false := by rw [beq_eq_false_iff_ne]; exact h12
  have HE := Lib.hid (stepC0 p g r limit h1 h2 h3 h4 h5 h6 h7 h8 h9 h10 h11 h12)
  clear h1 h2 h3 h4 h5 h6 h7 h8 h9 h10 h11 h12
  have I := Lib.hid (StI.begin w ⟨p, g, r⟩)
  have c0 := I.out.box.s.1.1
  have K2 := I
  have ld := I.out.ld
  have st := I.out.st ⟨p, g, r⟩
  go_enter Try.func13, Try.ntmps13
  go_wp2_with fail
  (try simp only [Exit.inBlock, Exit.then])
  apply bodyPost_ret
  case hd => rfl
  case hr => exact results_cell_two rfl _ _ (w.heap.size + 1) _ rfl (load3 (sg_set K2.out.res ⟨p, g, r⟩))
  case hR => exact ⟨by rw [HE.out]; rfl, K2.out.done _⟩

set_option maxHeartbeats 8000000 in
theorem stepF (s : Sg) (limit : Int) (w : World) (hr : 0 ≤ s.ref ∧ s.ref ≤ 1000000) : Calls Try.prog 13 #[sgV s, .int .i64 4, .int .i64 limit] w (StepP (stepS s 4 limit) w) := by
  obtain ⟨p, g, r⟩ := s
  by_cases h3 : p = 3
  · subst h3
    have HE := Lib.hid (show stepS ⟨3, g, r⟩ 4 limit = (⟨4, g, r⟩, asksN 4, 0) by simp [stepS, rowT, stuckB, undoB, asksN])
    have CE := Lib.hid (fun W => enter_any ⟨3, g, r⟩ 4 W)
    have I := Lib.hid (StI.begin w ⟨3, g, r⟩)
    have c0 := I.out.box.s.1.1
    have K : Hid (StI w ⟨3, g, r⟩ ((w.alloc (.cells (sgC ⟨3, g, r⟩) 25)).alloc (.cells (sgC noSg) 25))) := Lib.hid (StI.begin w ⟨3, g, r⟩)
    have ld : LdX 25 (.pointer (some ⟨w.heap.size, 0, none⟩)) ((w.alloc (.cells (sgC ⟨3, g, r⟩) 25)).alloc (.cells (sgC noSg) 25)) = .ok (.value (sgV ⟨3, g, r⟩)) ((w.alloc (.cells (sgC ⟨3, g, r⟩) 25)).alloc (.cells (sgC noSg) 25)) := K.out.ld
    go_enter Try.func13, Try.ntmps13
    go_wp2_with fail
    generalize ((w.alloc (.cells (sgC ⟨3, g, r⟩) 25)).alloc (.cells (sgC noSg) 25)) = W0 at *
    refine (CE.out _).mono ?_
    rintro x W1 ⟨rfl, b1⟩
    have K2 : Hid (StI w ⟨3, g, r⟩ W1) := Lib.hid (K.out.below b1)
    have st := K2.out.st ⟨4, g, r⟩
    clear b1 ld I K CE c0
    go_wp2_with fail
    (try simp only [Exit.inBlock, Exit.then])
    apply bodyPost_ret
    case hd => rfl
    case hr => exact results_cell_two rfl _ _ (w.heap.size + 1) _ rfl (load3 (sg_set K2.out.res ⟨4, g, r⟩))
    case hR => exact ⟨by rw [HE.out]; rfl, K2.out.done _⟩
  by_cases h5 : p = 5
  · subst h5
    have HE := Lib.hid (show stepS ⟨5, g, r⟩ 4 limit = (⟨6, g, r⟩, asksN 6, 0) by simp [stepS, rowT, stuckB, undoB, asksN])
    have CE := Lib.hid (fun W => enter_any ⟨5, g, r⟩ 6 W)
    have I := Lib.hid (StI.begin w ⟨5, g, r⟩)
    have c0 := I.out.box.s.1.1
    have K : Hid (StI w ⟨5, g, r⟩ ((w.alloc (.cells (sgC ⟨5, g, r⟩) 25)).alloc (.cells (sgC noSg) 25))) := Lib.hid (StI.begin w ⟨5, g, r⟩)
    have ld : LdX 25 (.pointer (some ⟨w.heap.size, 0, none⟩)) ((w.alloc (.cells (sgC ⟨5, g, r⟩) 25)).alloc (.cells (sgC noSg) 25)) = .ok (.value (sgV ⟨5, g, r⟩)) ((w.alloc (.cells (sgC ⟨5, g, r⟩) 25)).alloc (.cells (sgC noSg) 25)) := K.out.ld
    go_enter Try.func13, Try.ntmps13
    go_wp2_with fail
    generalize ((w.alloc (.cells (sgC ⟨5, g, r⟩) 25)).alloc (.cells (sgC noSg) 25)) = W0 at *
    refine (CE.out _).mono ?_
    rintro x W1 ⟨rfl, b1⟩
    have K2 : Hid (StI w ⟨5, g, r⟩ W1) := Lib.hid (K.out.below b1)
    have st := K2.out.st ⟨6, g, r⟩
    clear b1 ld I K CE c0
    go_wp2_with fail
    (try simp only [Exit.inBlock, Exit.then])
    apply bodyPost_ret
    case hd => rfl
    case hr => exact results_cell_two rfl _ _ (w.heap.size + 1) _ rfl (load3 (sg_set K2.out.res ⟨6, g, r⟩))
    case hR => exact ⟨by rw [HE.out]; rfl, K2.out.done _⟩
  have e3 : (p == 3) = false := by rw [beq_eq_false_iff_ne]; exact h3
  have e5 : (p == 5) = false := by rw [beq_eq_false_iff_ne]; exact h5
  have HE := Lib.hid (stepF0 p g r limit h3 h5)
  clear h3 h5
  have I := Lib.hid (StI.begin w ⟨p, g, r⟩)
  have c0 := I.out.box.s.1.1
  have K2 := I
  have ld := I.out.ld
  have st := I.out.st ⟨p, g, r⟩
  go_enter Try.func13, Try.ntmps13
  go_wp2_with fail
  (try simp only [Exit.inBlock, Exit.then])
  apply bodyPost_ret
  case hd => rfl
  case hr => exact results_cell_two rfl _ _ (w.heap.size + 1) _ rfl (load3 (sg_set K2.out.res ⟨p, g, r⟩))
  case hR => exact ⟨by rw [HE.out]; rfl, K2.out.done _⟩

set_option maxHeartbeats 4000000 in
theorem step_any : StepC := by
  intro s event limit w hr
  by_cases h1 : event = 1
  · subst h1; exact stepY s limit w hr
  by_cases h2 : event = 2
  · subst h2; exact stepN s limit w hr
  by_cases h3 : event = 3
  · subst h3; exact stepC s limit w hr
  by_cases h4 : event = 4
  · subst h4; exact stepF s limit w hr
  obtain ⟨p, g, r⟩ := s
  have HE := Lib.hid (step_out (s := ⟨p, g, r⟩) (event := event) (limit := limit) (by omega))
  have e1 : (event == 1) = false := by rw [beq_eq_false_iff_ne]; exact h1
  have e2 : (event == 2) = false := by rw [beq_eq_false_iff_ne]; exact h2
  have e3 : (event == 3) = false := by rw [beq_eq_false_iff_ne]; exact h3
  have e4 : (event == 4) = false := by rw [beq_eq_false_iff_ne]; exact h4
  clear h1 h2 h3 h4
  have I := Lib.hid (StI.begin w ⟨p, g, r⟩)
  have K2 := I
  have ld := I.out.ld
  have st := I.out.st ⟨p, g, r⟩
  go_enter Try.func13, Try.ntmps13
  go_wp2_with fail
  (try simp only [Exit.inBlock, Exit.then])
  apply bodyPost_ret
  case hd => rfl
  case hr => exact results_cell_two rfl _ _ (w.heap.size + 1) _ rfl (load3 (sg_set K2.out.res ⟨p, g, r⟩))
  case hR => exact ⟨by rw [HE.out]; rfl, K2.out.done _⟩

end Go.Proofs.Ytlggakjfgapppaa
