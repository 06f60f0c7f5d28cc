/- What the document's Step answers. -/
import Derived.Test.YtlggakjfgapppaaSgIdx
import Derived.Deep.DeepCutAuto
import Derived.Deep.RegionLaw
namespace Go.Proofs.Ytlggakjfgapppaa
set_option maxRecDepth 100000
open Go.RowKit Go.ChangeShapes Go.WideShapes Go.ChangeAt
attribute [local go_sem ↓] ldSg stSg alSg bxSg eqSg bdSg
attribute [local go_sem] al_sg bx_sg bd_sg bd_sg0 st_sgnew

theorem step_go {s : Sg} {event limit : Int} (hp : 1 ≤ s.phase ∧ s.phase ≤ 12) (he : 1 ≤ event ∧ event ≤ 4) (h1 : ¬ (rowT s.given s.phase.toNat event.toNat).1 = 0) (h2 : ¬ (rowT s.given s.phase.toNat event.toNat).1 < 0) :
    stepS s event limit = if stuckB s event limit then (⟨12, s.given, moreR s.ref⟩, 0, 0) else (⟨(rowT s.given s.phase.toNat event.toNat).1, s.given || (event == 3 && decide (s.phase < 6)), if event == 2 && undoB s.phase then moreR s.ref else if event == 1 && s.phase == 9 then 0 else s.ref⟩, (rowT s.given s.phase.toNat event.toNat).2, 0) := by
  unfold stepS
  rw [if_pos ⟨hp.1, hp.2, he.1, he.2⟩]
  dsimp only
  rw [if_neg h1, if_neg h2]
theorem step_no {s : Sg} {event limit : Int} (hp : 1 ≤ s.phase ∧ s.phase ≤ 12) (he : 1 ≤ event ∧ event ≤ 4) (h1 : (rowT s.given s.phase.toNat event.toNat).1 = 0) : stepS s event limit = (s, 0, 142) := by
  unfold stepS
  rw [if_pos ⟨hp.1, hp.2, he.1, he.2⟩]
  dsimp only
  rw [if_pos h1]
theorem step_late {s : Sg} {event limit : Int} (hp : 1 ≤ s.phase ∧ s.phase ≤ 12) (he : 1 ≤ event ∧ event ≤ 4) (h2 : (rowT s.given s.phase.toNat event.toNat).1 < 0) : stepS s event limit = (s, 0, 141) := by
  unfold stepS
  rw [if_pos ⟨hp.1, hp.2, he.1, he.2⟩]
  dsimp only
  rw [if_neg (by omega), if_pos h2]
theorem ld_three (W : World) (a c : Int) (b : Bool) : LdX 25 (.pointer (some ⟨W.heap.size, 0, none⟩)) (W.alloc (.cells #[.int .i64 a, .bool b, .int .i64 c] 25)) = .ok (.value (sgV ⟨a, b, c⟩)) (W.alloc (.cells #[.int .i64 a, .bool b, .int .i64 c] 25)) := ld_sg (s := ⟨a, b, c⟩) (Row.new W _ _)
theorem sgC_is (s : Sg) : sgC s = #[.int .i64 s.phase, .bool s.given, .int .i64 s.ref] := rfl
attribute [local go_sem] ld_three

section
variable (ev : Operand → Value) (d : Option Tmp) (ty : TypeId) (pos : String) (af : Array Edge) (gd : Option (Nat × Bool)) (w : World)
theorem stRw4 (x y : Operand) : (execOp ev ⟨d, .store 42 x y, ty, pos, af, gd⟩).run Try.prog w = StX 42 (ev x) (ev y) w := rfl
theorem alRw4 : (execOp ev ⟨d, .alloc 42, ty, pos, af, gd⟩).run Try.prog w = AlX 42 w := rfl
theorem al_rw4 : AlX 42 w = .ok (.value (.pointer (some ⟨w.heap.size, 0, none⟩))) (w.alloc (.cells #[.int .i64 0, .int .i64 0] 42)) := al_any _ _ w (fun W => by kernel_rfl)
end
theorem size2 (a b : Value) : (Try.prog.info? 42).map (·.size) = some #[a, b].size := by
  show _ = some 2
  kernel_rfl
theorem st_rw4 {W : World} {g : Nat} {x y : Value} (h : Row W g 42 #[x, y]) (a b : Int) : StX 42 (.pointer (some ⟨g, 0, none⟩)) (.agg #[.int .i64 a, .int .i64 b]) W = .ok .skip (W.setRow g #[.int .i64 a, .int .i64 b]) := by
  have := run_storeVar_row (P := Try.prog) W g 42 42 #[x, y] #[.int .i64 a, .int .i64 b] h (size2 _ _) rfl (by simp [Value.oneCell'])
  simp only [StX, Instr.storeAt, Instr.sureAddr, Sem.run_bind, Sem.run_pure, Result.andThen_ok]
  rw [this]
  rfl
theorem st_rw4new (W : World) (a b : Int) : StX 42 (.pointer (some ⟨W.heap.size, 0, none⟩)) (.agg #[.int .i64 a, .int .i64 b]) (W.alloc (.cells #[.int .i64 0, .int .i64 0] 42)) = .ok .skip (W.alloc (.cells #[.int .i64 a, .int .i64 b] 42)) := by
  rw [st_rw4 (Row.new W _ 42) a b, alloc_setRow]
attribute [local go_sem ↓] stRw4 alRw4
attribute [local go_sem] al_rw4 st_rw4new

/-- The saga that came in, in a variable, and the result's variable behind it. -/
structure DocI (w : World) (s : Sg) (W : World) : Prop where
  box : Row W w.heap.size 25 (sgC s)
  res : Row W (w.heap.size + 1) 25 (sgC noSg)
  low : Below w.heap.size w W
theorem DocI.below {w W W' : World} {s : Sg} (h : DocI w s W) (b : Below W.heap.size W W') : DocI w s W' := ⟨h.box.below b, h.res.below b, h.low.trans (b.mono h.low.size)⟩
theorem DocI.begin (w : World) (s : Sg) : DocI w s ((w.alloc (.cells (sgC s) 25)).alloc (.cells (sgC noSg) 25)) := by
  have b : Below w.heap.size w ((w.alloc (.cells (sgC s) 25)).alloc (.cells (sgC noSg) 25)) := ((Below.refl _ _).alloc (Nat.le_refl _) _).alloc (by simp) _
  refine ⟨(Row.new w (sgC s) _).more _, ?_, b⟩
  have := Row.new (w.alloc (.cells (sgC s) 25)) (sgC noSg) 25
  rwa [show (w.alloc (.cells (sgC s) 25)).heap.size = w.heap.size + 1 by simp] at this
theorem DocI.setRow {w W : World} {s : Sg} (h : DocI w s W) {g : Nat} (hg : w.heap.size + 2 ≤ g) (cs : Array Value) : DocI w s (W.setRow g cs) :=
  ⟨(setRow_other _ _ _ _ (by omega)).trans h.box, (setRow_other _ _ _ _ (by omega)).trans h.res, Below.row h.low (by omega) cs⟩
/-- What is answered, in a variable; the result's variable; the table's place. -/
structure EndI (w : World) (g Y : Nat) (z : Sg) (r1 r2 : Int) (V : World) : Prop where
  var : Row V Y 25 (sgC z)
  res : Row V (w.heap.size + 1) 25 (sgC noSg)
  row : Row V g 42 #[.int .i64 r1, .int .i64 r2]
  low : Below w.heap.size w V
theorem EndI.facts {w V : World} {g Y : Nat} {z : Sg} {r1 r2 : Int} (h : EndI w g Y z r1 r2 V) (hg : g ≠ w.heap.size + 1) :
    LdX 25 (.pointer (some ⟨Y, 0, none⟩)) V.drew = .ok (.value (sgV z)) V.drew ∧ StX 25 (.pointer (some ⟨w.heap.size + 1, 0, none⟩)) (sgV z) V.drew = .ok .skip (V.drew.setRow (w.heap.size + 1) (sgC z)) ∧
    V.drew.cell? ⟨g, 1, none⟩ = some (.int .i64 r2) ∧ (V.drew.setRow (w.heap.size + 1) (sgC z)).cell? ⟨g, 1, none⟩ = some (.int .i64 r2) ∧ Row (V.drew.setRow (w.heap.size + 1) (sgC z)) (w.heap.size + 1) 25 (sgC z) ∧ Below w.heap.size w (V.drew.setRow (w.heap.size + 1) (sgC z)) := by
  have b := (Below.refl V.heap.size V).drew
  have hr := h.row.below b
  refine ⟨ld_sg (h.var.below b), st_sg (h.res.below b) z, hr.cell 1, ?_, sg_set (h.res.below b) z, Below.row h.low.drew (by omega) _⟩
  have : Row (V.drew.setRow (w.heap.size + 1) (sgC z)) g 42 #[.int .i64 r1, .int .i64 r2] := (setRow_other _ _ _ _ hg).trans hr
  exact this.cell 1
/-- Behind the store of the result. -/
theorem doc_end {w W : World} (h : Below w.heap.size w W) (cs : Array Value) : Below w.heap.size w (W.setRow (w.heap.size + 1) cs) := Below.row h (by omega) cs

set_option maxHeartbeats 4000000 in
theorem refStep_any (s : Sg) (event limit : Int) (w : World) (hr : 0 ≤ s.ref ∧ s.ref ≤ 1000000) : Calls Try.prog 14 #[sgV s, .int .i64 event, .int .i64 limit] w (StepP (stepS s event limit) w) := by
  have I := Lib.hid (DocI.begin w s)
  obtain ⟨⟨c0, c1, c2⟩, _⟩ := I.out.box.s
  have ld := ld_sg I.out.box
  have hst := fun y => st_sg I.out.res y
  by_cases hin : 1 ≤ s.phase ∧ s.phase ≤ 12 ∧ 1 ≤ event ∧ event ≤ 4
  · obtain ⟨p1, p2, e1, e2⟩ := hin
    have HNO := Lib.hid (step_no (limit := limit) ⟨p1, p2⟩ ⟨e1, e2⟩)
    have HLT := Lib.hid (step_late (limit := limit) ⟨p1, p2⟩ ⟨e1, e2⟩)
    have HGO := Lib.hid (step_go (limit := limit) ⟨p1, p2⟩ ⟨e1, e2⟩)
    have ix := fun W => idx_row s.given ⟨p1, p2⟩ W
    have iy := fun W => idx_one s.given s.phase.toNat ⟨e1, e2⟩ W
    have CT := Lib.hid (fun W => table_any s.given W)
    generalize hR1 : (rowT s.given s.phase.toNat event.toNat).1 = r1 at *
    generalize hR2 : (rowT s.given s.phase.toNat event.toNat).2 = r2 at *
    clear hR1 hR2
    have q1 : ¬ s.phase < 1 := by omega
    have q2 : ¬ 12 < s.phase := by omega
    have q3 : ¬ event < 1 := by omega
    have q4 : ¬ 4 < event := by omega
    go_enter Try.func14, Try.ntmps14
    go_wp2_with fail
    generalize (w.alloc (.cells (sgC s) 25)).alloc (.cells (sgC noSg) 25) = W0 at *
    have kd := I.out.below (Below.refl W0.heap.size W0).drew
    obtain ⟨⟨d0, d1, d2⟩, _⟩ := kd.box.s
    clear c0 c1 c2 ld hst
    have zc : ∀ W o, DocI w s W → (W.alloc o).cell? ⟨w.heap.size, 0, none⟩ = some (.int .i64 s.phase) := fun W o h => (h.box.more o).s.1.1
    go_cut [9] (fun v wx => ∃ g, v = .pointer (some ⟨g, 0, none⟩) ∧ Hid (Row wx g 42 #[.int .i64 r1, .int .i64 r2]) ∧ Hid (DocI w s wx))
    case first =>
      have ke := (I.out.below ((Below.refl W0.heap.size W0).alloc (Nat.le_refl _) (.cells #[.int .i64 0, .int .i64 0] 42))).below (Below.refl _ _).drew
      have re : Row (W0.alloc (.cells #[.int .i64 0, .int .i64 0] 42)).drew W0.heap.size 42 #[.int .i64 0, .int .i64 0] := (Row.new W0 _ _).below (Below.refl _ _).drew
      have h0s : w.heap.size + 2 ≤ W0.heap.size := by have := I.out.res.lt; omega
      obtain ⟨⟨y0, y1, y2⟩, _⟩ := ke.box.s
      go_region_law (first
        | ((try go_simp); go_at_call 18; refine (CT.out W0.drew).mono ?_; rintro x w2 ⟨rfl, b2⟩; have k2 := kd.below b2; have z0 := k2.box.s.1.1; have z1 := k2.box.s.1.2.1)
        | ((try go_simp); go_at_call 18; refine (CT.out _).mono ?_; rintro x w2 ⟨rfl, b2⟩; have k2 := ke.below b2; have z0 := k2.box.s.1.1; have z1 := k2.box.s.1.2.1; have r44 := re.below b2; have s44 := st_rw4 r44 r1 r2))
      all_goals
        go_wp2_with fail
        go_meet
        first
          | exact ⟨_, rfl, Lib.hid (Row.new _ _ _), Lib.hid (k2.below ((Below.refl _ _).alloc (Nat.le_refl _) _))⟩
          | exact ⟨_, rfl, Lib.hid (setRow_heap _ _ _ _ _ _ r44), Lib.hid (k2.setRow h0s _)⟩
    case rest =>
      obtain ⟨g, rfl, RG, K⟩ := hcut
      clear kd d0 d1 d2 ix iy CT I
      have a0 : wc.cell? ⟨g, 0, none⟩ = some (.int .i64 r1) := RG.out.cell 0
      have a1 : wc.cell? ⟨g, 1, none⟩ = some (.int .i64 r2) := RG.out.cell 1
      have ld := ld_sg K.out.box
      have hst := fun y => st_sg K.out.res y
      by_cases h0 : r1 = 0
      · have HE := Lib.hid (HNO.out h0)
        subst h0
        go_wp2_with fail
        (try simp only [Exit.inBlock, Exit.then])
        apply bodyPost_ret
        case hd => rfl
        case hr => exact results_cell_two rfl _ _ (w.heap.size + 1) _ rfl (load3 (sg_set K.out.res s))
        case hR => exact ⟨by rw [HE.out]; rfl, doc_end K.out.low _⟩
      · by_cases h1 : r1 < 0
        · have HE := Lib.hid (HLT.out h1)
          go_wp2_with fail
          (try simp only [Exit.inBlock, Exit.then])
          apply bodyPost_ret
          case hd => rfl
          case hr => exact results_cell_two rfl _ _ (w.heap.size + 1) _ rfl (load3 (sg_set K.out.res s))
          case hR => exact ⟨by rw [HE.out]; rfl, doc_end K.out.low _⟩
        · have HE := Lib.hid (HGO.out h0 (by omega))
          clear HNO HLT HGO
          have KA := Lib.hid (fun cs => K.out.res.more (.cells cs 25))
          have BA := Lib.hid (fun cs => K.out.low.alloc K.out.low.size (.cells cs 25))
          have hst2 : ∀ cs y, StX 25 (.pointer (some ⟨w.heap.size + 1, 0, none⟩)) (sgV y) (wc.alloc (.cells cs 25)) = .ok .skip ((wc.alloc (.cells cs 25)).setRow (w.heap.size + 1) (sgC y)) := fun cs y => st_sg (KA.out cs) y
          have ca : ∀ cs, (wc.alloc (.cells cs 25)).cell? ⟨w.heap.size, 0, none⟩ = some (.int .i64 s.phase) := fun cs => (K.out.box.more _).s.1.1
          have hgl := RG.out.lt
          have ga : ∀ cs, (wc.alloc (.cells cs 25)).cell? ⟨g, 1, none⟩ = some (.int .i64 r2) := fun cs => (RG.out.more _).cell 1
          clear hst
          have hsg := sgC_is s
          have hev : event = 1 ∨ event = 2 ∨ event = 3 ∨ event = 4 := by omega
          clear q1 q2 q3 q4 e1 e2
          have hgx : g ≠ w.heap.size + 1 := fun e => by
            have h1 := RG.out
            rw [e] at h1
            have h2 := K.out.res
            unfold Row at h1 h2
            rw [h1] at h2
            injection h2 with h2
            injection h2 with _ h2
            revert h2
            decide
          rcases hev with rfl | rfl | rfl | rfl
          · cases h9 : (s.phase == 9) with
            | true =>
              have HE := Lib.hid (show stepS s 1 limit = (⟨r1, s.given, 0⟩, r2, 0) by rw [HE.out]; simp [stuckB, h9])
              go_wp2_with fail
              have EV : Hid (EndI w g wc.heap.size ⟨r1, s.given, 0⟩ r1 r2 (wc.alloc (.cells #[.int .i64 (⟨r1, s.given, 0⟩ : Sg).phase, .bool (⟨r1, s.given, 0⟩ : Sg).given, .int .i64 (⟨r1, s.given, 0⟩ : Sg).ref] 25))) := Lib.hid ⟨Row.new _ _ _, K.out.res.more _, RG.out.more _, K.out.low.alloc K.out.low.size _⟩
              dsimp only at EV
              generalize wc.alloc (.cells _ 25) = V at EV ⊢
              obtain ⟨f1, f2, f3, f4, f5, f6⟩ := EV.out.facts hgx
              have F5 := Lib.hid f5
              have F6 := Lib.hid f6
              clear f5 f6 hst2 ca ga ld hsg a0 a1
              go_region
              all_goals
                go_wp2_with fail
                (try simp only [Exit.inBlock, Exit.then])
                apply bodyPost_ret
                case hd => rfl
                case hr => exact results_cell_two rfl _ _ (w.heap.size + 1) _ rfl (load3 F5.out)
                case hR => exact ⟨by rw [HE.out]; rfl, F6.out⟩
            | false =>
              have HE := Lib.hid (show stepS s 1 limit = (⟨r1, s.given, s.ref⟩, r2, 0) by rw [HE.out]; simp [stuckB, h9])
              go_wp2_with fail
              have EV : Hid (EndI w g wc.heap.size ⟨r1, s.given, s.ref⟩ r1 r2 (wc.alloc (.cells #[.int .i64 (⟨r1, s.given, s.ref⟩ : Sg).phase, .bool (⟨r1, s.given, s.ref⟩ : Sg).given, .int .i64 (⟨r1, s.given, s.ref⟩ : Sg).ref] 25))) := Lib.hid ⟨Row.new _ _ _, K.out.res.more _, RG.out.more _, K.out.low.alloc K.out.low.size _⟩
              dsimp only at EV
              generalize wc.alloc (.cells _ 25) = V at EV ⊢
              obtain ⟨f1, f2, f3, f4, f5, f6⟩ := EV.out.facts hgx
              have F5 := Lib.hid f5
              have F6 := Lib.hid f6
              clear f5 f6 hst2 ca ga ld hsg a0 a1
              go_region
              all_goals
                go_wp2_with fail
                (try simp only [Exit.inBlock, Exit.then])
                apply bodyPost_ret
                case hd => rfl
                case hr => exact results_cell_two rfl _ _ (w.heap.size + 1) _ rfl (load3 F5.out)
                case hR => exact ⟨by rw [HE.out]; rfl, F6.out⟩
          · by_cases hu : s.phase = 9 ∨ s.phase = 10
            · have hub : undoB s.phase = true := by simpa [undoB] using hu
              have hut : (s.phase == 9) = true ∨ ((s.phase == 9) = false ∧ (s.phase == 10) = true) := by
                rcases hu with h | h <;> simp [h]
              obtain ⟨m1, m2⟩ := hr
              by_cases hm : 999999 < s.ref
              · have hM : moreR s.ref = 1000000 := by unfold moreR; rw [if_neg (by omega)]; rfl
                by_cases hl : limit < 1
                · have HE := Lib.hid (show stepS s 2 limit = (⟨12, s.given, 1000000⟩, 0, 0) by rw [HE.out]; simp [stuckB, hub, hM, capR, hl])
                  rcases hut with h9 | ⟨h9, h10⟩
                  all_goals
                    go_wp2_with fail
                    (try simp only [Exit.inBlock, Exit.then])
                    apply bodyPost_ret
                    case hd => rfl
                    case hr => exact results_cell_two rfl _ _ (w.heap.size + 1) _ rfl (load3 (sg_set (KA.out _) ⟨12, s.given, 1000000⟩))
                    case hR => exact ⟨by rw [HE.out]; rfl, doc_end (BA.out _) _⟩
                · by_cases hl2 : limit ≤ 1000000
                  · have HE := Lib.hid (show stepS s 2 limit = (⟨12, s.given, 1000000⟩, 0, 0) by rw [HE.out]; simp [stuckB, hub, hM, capR, hl, hl2])
                    rcases hut with h9 | ⟨h9, h10⟩
                    all_goals
                      go_wp2_with fail
                      (try simp only [Exit.inBlock, Exit.then])
                      apply bodyPost_ret
                      case hd => rfl
                      case hr => exact results_cell_two rfl _ _ (w.heap.size + 1) _ rfl (load3 (sg_set (KA.out _) ⟨12, s.given, 1000000⟩))
                      case hR => exact ⟨by rw [HE.out]; rfl, doc_end (BA.out _) _⟩
                  · have HE := Lib.hid (show stepS s 2 limit = (⟨r1, s.given, 1000000⟩, r2, 0) by rw [HE.out]; simp [stuckB, hub, hM, capR, hl, hl2])
                    rcases hut with h9 | ⟨h9, h10⟩
                    all_goals
                      go_wp2_with fail
                      have EV : Hid (EndI w g wc.heap.size ⟨r1, s.given, 1000000⟩ r1 r2 (wc.alloc (.cells #[.int .i64 (⟨r1, s.given, 1000000⟩ : Sg).phase, .bool (⟨r1, s.given, 1000000⟩ : Sg).given, .int .i64 (⟨r1, s.given, 1000000⟩ : Sg).ref] 25))) := Lib.hid ⟨Row.new _ _ _, K.out.res.more _, RG.out.more _, K.out.low.alloc K.out.low.size _⟩
                      dsimp only at EV
                      generalize wc.alloc (.cells _ 25) = V at EV ⊢
                      obtain ⟨f1, f2, f3, f4, f5, f6⟩ := EV.out.facts hgx
                      have F5 := Lib.hid f5
                      have F6 := Lib.hid f6
                      clear f5 f6 hst2 ca ga ld hsg a0 a1
                      go_region
                      all_goals
                        go_wp2_with fail
                        (try simp only [Exit.inBlock, Exit.then])
                        apply bodyPost_ret
                        case hd => rfl
                        case hr => exact results_cell_two rfl _ _ (w.heap.size + 1) _ rfl (load3 F5.out)
                        case hR => exact ⟨by rw [HE.out]; rfl, F6.out⟩
              · have hM : moreR s.ref = s.ref + 1 := by
                  unfold moreR
                  split <;> omega
                have hwr : IntKind.i64.wrap (s.ref + 1) = s.ref + 1 := by rw [IntKind.wrap_i64]; omega
                by_cases hl : limit < 1
                · have hl3 : 1 ≤ s.ref + 1 := by omega
                  have HE := Lib.hid (show stepS s 2 limit = (⟨12, s.given, s.ref + 1⟩, 0, 0) by rw [HE.out]; simp [stuckB, hub, hM, capR, hl]; omega)
                  rcases hut with h9 | ⟨h9, h10⟩
                  all_goals
                    go_wp2_with fail
                    (try simp only [Exit.inBlock, Exit.then])
                    apply bodyPost_ret
                    case hd => rfl
                    case hr => exact results_cell_two rfl _ _ (w.heap.size + 1) _ rfl (load3 (sg_set (KA.out _) ⟨12, s.given, s.ref + 1⟩))
                    case hR => exact ⟨by rw [HE.out]; rfl, doc_end (BA.out _) _⟩
                · by_cases hl2 : limit ≤ s.ref + 1
                  · have HE := Lib.hid (show stepS s 2 limit = (⟨12, s.given, s.ref + 1⟩, 0, 0) by rw [HE.out]; simp [stuckB, hub, hM, capR, hl, hl2])
                    rcases hut with h9 | ⟨h9, h10⟩
                    all_goals
                      go_wp2_with fail
                      (try simp only [Exit.inBlock, Exit.then])
                      apply bodyPost_ret
                      case hd => rfl
                      case hr => exact results_cell_two rfl _ _ (w.heap.size + 1) _ rfl (load3 (sg_set (KA.out _) ⟨12, s.given, s.ref + 1⟩))
                      case hR => exact ⟨by rw [HE.out]; rfl, doc_end (BA.out _) _⟩
                  · have HE := Lib.hid (show stepS s 2 limit = (⟨r1, s.given, s.ref + 1⟩, r2, 0) by rw [HE.out]; simp [stuckB, hub, hM, capR, hl, hl2])
                    rcases hut with h9 | ⟨h9, h10⟩
                    all_goals
                      go_wp2_with fail
                      have EV : Hid (EndI w g wc.heap.size ⟨r1, s.given, s.ref + 1⟩ r1 r2 (wc.alloc (.cells #[.int .i64 (⟨r1, s.given, s.ref + 1⟩ : Sg).phase, .bool (⟨r1, s.given, s.ref + 1⟩ : Sg).given, .int .i64 (⟨r1, s.given, s.ref + 1⟩ : Sg).ref] 25))) := Lib.hid ⟨Row.new _ _ _, K.out.res.more _, RG.out.more _, K.out.low.alloc K.out.low.size _⟩
                      dsimp only at EV
                      generalize wc.alloc (.cells _ 25) = V at EV ⊢
                      obtain ⟨f1, f2, f3, f4, f5, f6⟩ := EV.out.facts hgx
                      have F5 := Lib.hid f5
                      have F6 := Lib.hid f6
                      clear f5 f6 hst2 ca ga ld hsg a0 a1
                      go_region
                      all_goals
                        go_wp2_with fail
                        (try simp only [Exit.inBlock, Exit.then])
                        apply bodyPost_ret
                        case hd => rfl
                        case hr => exact results_cell_two rfl _ _ (w.heap.size + 1) _ rfl (load3 F5.out)
                        case hR => exact ⟨by rw [HE.out]; rfl, F6.out⟩
            · have h9 : (s.phase == 9) = false := by rw [beq_eq_false_iff_ne]; omega
              have h10 : (s.phase == 10) = false := by rw [beq_eq_false_iff_ne]; omega
              have HE := Lib.hid (show stepS s 2 limit = (⟨r1, s.given, s.ref⟩, r2, 0) by rw [HE.out]; simp [stuckB, undoB, h9, h10])
              go_wp2_with fail
              have EV : Hid (EndI w g wc.heap.size ⟨r1, s.given, s.ref⟩ r1 r2 (wc.alloc (.cells #[.int .i64 (⟨r1, s.given, s.ref⟩ : Sg).phase, .bool (⟨r1, s.given, s.ref⟩ : Sg).given, .int .i64 (⟨r1, s.given, s.ref⟩ : Sg).ref] 25))) := Lib.hid ⟨Row.new _ _ _, K.out.res.more _, RG.out.more _, K.out.low.alloc K.out.low.size _⟩
              dsimp only at EV
              generalize wc.alloc (.cells _ 25) = V at EV ⊢
              obtain ⟨f1, f2, f3, f4, f5, f6⟩ := EV.out.facts hgx
              have F5 := Lib.hid f5
              have F6 := Lib.hid f6
              clear f5 f6 hst2 ca ga ld hsg a0 a1
              go_region
              all_goals
                go_wp2_with fail
                (try simp only [Exit.inBlock, Exit.then])
                apply bodyPost_ret
                case hd => rfl
                case hr => exact results_cell_two rfl _ _ (w.heap.size + 1) _ rfl (load3 F5.out)
                case hR => exact ⟨by rw [HE.out]; rfl, F6.out⟩
          · cases h6 : decide (s.phase < 6) with
            | true =>
              have HE := Lib.hid (show stepS s 3 limit = (⟨r1, true, s.ref⟩, r2, 0) by rw [HE.out]; simp [stuckB, h6])
              go_wp2_with fail
              have EV : Hid (EndI w g wc.heap.size ⟨r1, true, s.ref⟩ r1 r2 (wc.alloc (.cells #[.int .i64 (⟨r1, true, s.ref⟩ : Sg).phase, .bool (⟨r1, true, s.ref⟩ : Sg).given, .int .i64 (⟨r1, true, s.ref⟩ : Sg).ref] 25))) := Lib.hid ⟨Row.new _ _ _, K.out.res.more _, RG.out.more _, K.out.low.alloc K.out.low.size _⟩
              dsimp only at EV
              generalize wc.alloc (.cells _ 25) = V at EV ⊢
              obtain ⟨f1, f2, f3, f4, f5, f6⟩ := EV.out.facts hgx
              have F5 := Lib.hid f5
              have F6 := Lib.hid f6
              clear f5 f6 hst2 ca ga ld hsg a0 a1
              go_region
              all_goals
                go_wp2_with fail
                (try simp only [Exit.inBlock, Exit.then])
                apply bodyPost_ret
                case hd => rfl
                case hr => exact results_cell_two rfl _ _ (w.heap.size + 1) _ rfl (load3 F5.out)
                case hR => exact ⟨by rw [HE.out]; rfl, F6.out⟩
            | false =>
              have HE := Lib.hid (show stepS s 3 limit = (⟨r1, s.given, s.ref⟩, r2, 0) by rw [HE.out]; simp [stuckB, h6])
              go_wp2_with fail
              have EV : Hid (EndI w g wc.heap.size ⟨r1, s.given, s.ref⟩ r1 r2 (wc.alloc (.cells #[.int .i64 (⟨r1, s.given, s.ref⟩ : Sg).phase, .bool (⟨r1, s.given, s.ref⟩ : Sg).given, .int .i64 (⟨r1, s.given, s.ref⟩ : Sg).ref] 25))) := Lib.hid ⟨Row.new _ _ _, K.out.res.more _, RG.out.more _, K.out.low.alloc K.out.low.size _⟩
              dsimp only at EV
              generalize wc.alloc (.cells _ 25) = V at EV ⊢
              obtain ⟨f1, f2, f3, f4, f5, f6⟩ := EV.out.facts hgx
              have F5 := Lib.hid f5
              have F6 := Lib.hid f6
              clear f5 f6 hst2 ca ga ld hsg a0 a1
              go_region
              all_goals
                go_wp2_with fail
                (try simp only [Exit.inBlock, Exit.then])
                apply bodyPost_ret
                case hd => rfl
                case hr => exact results_cell_two rfl _ _ (w.heap.size + 1) _ rfl (load3 F5.out)
                case hR => exact ⟨by rw [HE.out]; rfl, F6.out⟩
          · have HE := Lib.hid (show stepS s 4 limit = (⟨r1, s.given, s.ref⟩, r2, 0) by rw [HE.out]; simp [stuckB])
            go_wp2_with fail
            have EV : Hid (EndI w g wc.heap.size ⟨r1, s.given, s.ref⟩ r1 r2 (wc.alloc (.cells #[.int .i64 (⟨r1, s.given, s.ref⟩ : Sg).phase, .bool (⟨r1, s.given, s.ref⟩ : Sg).given, .int .i64 (⟨r1, s.given, s.ref⟩ : Sg).ref] 25))) := Lib.hid ⟨Row.new _ _ _, K.out.res.more _, RG.out.more _, K.out.low.alloc K.out.low.size _⟩
            dsimp only at EV
            generalize wc.alloc (.cells _ 25) = V at EV ⊢
            obtain ⟨f1, f2, f3, f4, f5, f6⟩ := EV.out.facts hgx
            have F5 := Lib.hid f5
            have F6 := Lib.hid f6
            clear f5 f6 hst2 ca ga ld hsg a0 a1
            go_region
            all_goals
              go_wp2_with fail
              (try simp only [Exit.inBlock, Exit.then])
              apply bodyPost_ret
              case hd => rfl
              case hr => exact results_cell_two rfl _ _ (w.heap.size + 1) _ rfl (load3 F5.out)
              case hR => exact ⟨by rw [HE.out]; rfl, F6.out⟩
  · have HE := Lib.hid (step_out (limit := limit) hin)
    have hst' := hst
    have hc : s.phase < 1 ∨ (¬ s.phase < 1 ∧ 12 < s.phase) ∨ (¬ s.phase < 1 ∧ ¬ 12 < s.phase ∧ event < 1) ∨ (¬ s.phase < 1 ∧ ¬ 12 < s.phase ∧ ¬ event < 1 ∧ 4 < event) := by omega
    clear hin hst'
    rcases hc with q1 | ⟨q1, q2⟩ | ⟨q1, q2, q3⟩ | ⟨q1, q2, q3, q4⟩
    all_goals
      go_enter Try.func14, Try.ntmps14
      go_wp2_with fail
      (try simp only [Exit.inBlock, Exit.then])
      apply bodyPost_ret
      case hd => rfl
      case hr => exact results_cell_two rfl _ _ (w.heap.size + 1) _ rfl (load3 (sg_set I.out.res s))
      case hR => exact ⟨by rw [HE.out]; rfl, doc_end I.out.low _⟩

end Go.Proofs.Ytlggakjfgapppaa
