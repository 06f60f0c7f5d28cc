/- What Right of package lines answers, at every slice of lines. -/
import Derived.Test.YtpmgafmbmjokhaaDoorLnMem
namespace Go.Proofs.YtpmgafmbmjokhaaDoor
open Go.RowKit

theorem prevAt_pos {l : List Ln} {j : Nat} (h : j < l.length) : prevAt l (j + 1) = some l[j] := by simp [prevAt, h]

set_option maxHeartbeats 2000000 in
theorem right14_any (a : Option Addr) (cap : Nat) (l : List Ln) (w : World) (h : LnsP w a cap l) (hm : l.length ≤ maxLen) :
    Calls Tryd.prog 25 #[.slice a l.length cap] w fun e w' => e = .returned (.bool (rightLB l)) ∧ Below w.heap.size w w' := by
  have H := Lib.hid h
  clear h
  unfold maxLen at hm
  by_cases h1 : 1 ≤ l.length
  · by_cases h8 : l.length ≤ 8
    · have HR := Lib.hid (show rightLB l = goodFrom (prevAt l 0) (l.drop 0) by simp [rightLB, h1, h8, prevAt])
      have e1 : decide ((l.length : Int) < 1) = false := by simp; omega
      have e2 : decide (8 < (l.length : Int)) = false := by simp; omega
      go_enter Tryd.func25, Tryd.ntmps25
      go_wp2_with fail
      go_loopw [15] (fun i wr => ∃ (k : Nat), k ≤ l.length ∧ i = .int .i64 k ∧ Hid (rightLB l = goodFrom (prevAt l k) (l.drop k)) ∧ Below w.heap.size w wr) (fun i _ => l.length - (intOf i).toNat)
      case atStart => exact ⟨0, Nat.zero_le _, rfl, HR, Below.refl _ _⟩
      case round =>
        obtain ⟨k, hk, rfl, HK, hbw⟩ := hrel
        by_cases hlt : k < l.length
        · have HL := Lib.hid (H.out.below hbw)
          obtain ⟨b, o, rfl, hb, c1, c2, c3, hsz⟩ := HL.out.at k hlt
          have p1 := H.out.cap
          have HS := Lib.hid (goodFrom_step l k hlt)
          have C := Lib.hid (fun w => isLine_any l[k].sku l[k].qty l[k].wt w hsz)
          have HX := Lib.hid (show ∀ j, k = j + 1 → ∃ hj : j < l.length, prevAt l k = some l[j] ∧ wr.cell? ⟨b, o + j * 3, none⟩ = some (.string l[j].sku) by
            intro j hj
            subst hj
            have hj' : j < l.length := by omega
            obtain ⟨b', o', e, _, q1, _⟩ := HL.out.at j hj'
            injection e with e
            injection e with ea eo
            subst ea eo
            exact ⟨hj', prevAt_pos hj', q1⟩)
          generalize l[k] = x at *
          have hbw1 := hbw.alloc hbw.size (Obj.cells #[Value.string x.sku, Value.int IntKind.i64 x.qty, Value.int IntKind.i64 x.wt] 49)
          have d1 : (wr.alloc (Obj.cells #[Value.string x.sku, Value.int IntKind.i64 x.qty, Value.int IntKind.i64 x.wt] 49)).cell? ⟨wr.heap.size, 0, none⟩ = some (.string x.sku) := by simp
          have d2 : (wr.alloc (Obj.cells #[Value.string x.sku, Value.int IntKind.i64 x.qty, Value.int IntKind.i64 x.wt] 49)).cell? ⟨wr.heap.size, 1, none⟩ = some (.int .i64 x.qty) := by simp
          have d3 : (wr.alloc (Obj.cells #[Value.string x.sku, Value.int IntKind.i64 x.qty, Value.int IntKind.i64 x.wt] 49)).cell? ⟨wr.heap.size, 2, none⟩ = some (.int .i64 x.wt) := by simp
          have hz : wr.heap.size < (wr.alloc (Obj.cells #[Value.string x.sku, Value.int IntKind.i64 x.qty, Value.int IntKind.i64 x.wt] 49)).heap.size := by simp
          have D := Lib.hid (And.intro d1 (And.intro d2 (And.intro d3 hz)))
          clear d1 d2 d3 hz
          cases hlb : lineB x with
          | false =>
            rw [show lineB ⟨x.sku, x.qty, x.wt⟩ = false from hlb] at C
            have HE := Lib.hid (show rightLB l = false by rw [HK.out, HS.out, hlb]; rfl)
            clear hlb
            go_wp2_with fail
            generalize wr.alloc (Obj.cells #[Value.string x.sku, Value.int IntKind.i64 x.qty, Value.int IntKind.i64 x.wt] 49) = W at *
            have f1 := far_cell D.out.2.2.2 D.out.1
            have f2 := far_cell D.out.2.2.2 D.out.2.1
            have f3 := far_cell D.out.2.2.2 D.out.2.2.1
            refine wp_region_far (by kernel_rfl) (by kernel_rfl) ?_
            repeat (first | go_big_quiet_step ((go_at_call 36; exact calls_far (C.out _))) | quiet_step ((go_at_call 36; exact calls_far (C.out _))))
            refine wpQuiet_nil ?_
            intro _ hw'
            obtain ⟨p, hw''⟩ := hw'
            subst hw''
            go_wp2_with fail
            go_ret
            exact ⟨by rw [HE.out]; rfl, hbw1.trans ((far_below _ _).mono hbw1.size)⟩
          | true =>
            rw [show lineB ⟨x.sku, x.qty, x.wt⟩ = true from hlb] at C
            by_cases hk0 : 0 < k
            · obtain ⟨j, rfl⟩ : ∃ j, k = j + 1 := ⟨k - 1, by omega⟩
              obtain ⟨hj, hp, hc⟩ := HX.out j rfl
              generalize l[j] = y at *
              have hb2 : b < (wr.alloc (Obj.cells #[Value.string x.sku, Value.int IntKind.i64 x.qty, Value.int IntKind.i64 x.wt] 49)).heap.size := by simp; omega
              have hc2 : (wr.alloc (Obj.cells #[Value.string x.sku, Value.int IntKind.i64 x.qty, Value.int IntKind.i64 x.wt] 49)).cell? ⟨b, o + j * 3, none⟩ = some (.string y.sku) := by
                rw [((Below.refl wr.heap.size wr).alloc (Nat.le_refl _) _).cell (p := ⟨b, o + j * 3, none⟩) hb]; exact hc
              have D2 := Lib.hid (And.intro hb2 hc2)
              have HQ : Hid (decide (0 ≤ kcmp y.sku x.sku) = ! decide (kcmp y.sku x.sku < 0)) := Lib.hid (by rw [Bool.eq_iff_iff]; simp)
              clear hb2 hc2 hc
              cases hq : decide (kcmp y.sku x.sku < 0) with
              | false =>
                have HE := Lib.hid (show rightLB l = false by rw [HK.out, HS.out, hlb, hp, behindB]; simp only [hq]; rfl)
                have hq2 : decide (0 ≤ kcmp y.sku x.sku) = true := by rw [HQ.out, hq]; rfl
                have hq3 : 0 ≤ kcmp y.sku x.sku := by simpa using hq2
                clear hlb hq hq2 hp
                go_wp2_with fail
                have f4 := far_cell D2.out.1 D2.out.2
                generalize wr.alloc (Obj.cells #[Value.string x.sku, Value.int IntKind.i64 x.qty, Value.int IntKind.i64 x.wt] 49) = W at *
                have f1 := far_cell D.out.2.2.2 D.out.1
                have f2 := far_cell D.out.2.2.2 D.out.2.1
                have f3 := far_cell D.out.2.2.2 D.out.2.2.1
                refine wp_region_far (by kernel_rfl) (by kernel_rfl) ?_
                repeat (first | go_big_quiet_step ((first | (go_at_call 36; exact calls_far (C.out _)) | (go_at_call 37; exact calls_far_same (cmp_any _ _ _)))) | quiet_step ((first | (go_at_call 36; exact calls_far (C.out _)) | (go_at_call 37; exact calls_far_same (cmp_any _ _ _)))))
                refine wpQuiet_nil ?_
                intro _ hw'
                obtain ⟨p, hw''⟩ := hw'
                subst hw''
                go_wp2_with fail
                go_ret
                exact ⟨by rw [HE.out]; rfl, hbw1.trans ((far_below _ _).mono hbw1.size)⟩
              | true =>
                have HE := Lib.hid (show rightLB l = goodFrom (prevAt l (j + 1 + 1)) (l.drop (j + 1 + 1)) by rw [HK.out, HS.out, hlb, hp, behindB]; simp only [hq]; rfl)
                have hq3 : kcmp y.sku x.sku < 0 := by simpa using hq
                clear hlb hq hp
                go_wp2_with fail
                have f4 := far_cell D2.out.1 D2.out.2
                generalize wr.alloc (Obj.cells #[Value.string x.sku, Value.int IntKind.i64 x.qty, Value.int IntKind.i64 x.wt] 49) = W at *
                have f1 := far_cell D.out.2.2.2 D.out.1
                have f2 := far_cell D.out.2.2.2 D.out.2.1
                have f3 := far_cell D.out.2.2.2 D.out.2.2.1
                refine wp_region_far (by kernel_rfl) (by kernel_rfl) ?_
                repeat (first | go_big_quiet_step ((first | (go_at_call 36; exact calls_far (C.out _)) | (go_at_call 37; exact calls_far_same (cmp_any _ _ _)))) | quiet_step ((first | (go_at_call 36; exact calls_far (C.out _)) | (go_at_call 37; exact calls_far_same (cmp_any _ _ _)))))
                refine wpQuiet_nil ?_
                intro _ hw'
                obtain ⟨p, hw''⟩ := hw'
                subst hw''
                go_wp2_with fail
                go_roundw
                case rel => exact ⟨j + 1 + 1, by omega, by go_num, HE, hbw1.trans ((far_below _ _).mono hbw1.size)⟩
                case measure => simp [intOf]; omega
            · have HP := Lib.hid (show prevAt l k = none by simp [prevAt]; omega)
              have HE := Lib.hid (show rightLB l = goodFrom (prevAt l (k + 1)) (l.drop (k + 1)) by rw [HK.out, HS.out, hlb, HP.out]; rfl)
              clear hlb
              go_wp2_with fail
              generalize wr.alloc (Obj.cells #[Value.string x.sku, Value.int IntKind.i64 x.qty, Value.int IntKind.i64 x.wt] 49) = W at *
              have f1 := far_cell D.out.2.2.2 D.out.1
              have f2 := far_cell D.out.2.2.2 D.out.2.1
              have f3 := far_cell D.out.2.2.2 D.out.2.2.1
              refine wp_region_far (by kernel_rfl) (by kernel_rfl) ?_
              repeat (first | go_big_quiet_step ((go_at_call 36; exact calls_far (C.out _))) | quiet_step ((go_at_call 36; exact calls_far (C.out _))))
              refine wpQuiet_nil ?_
              intro _ hw'
              obtain ⟨p, hw''⟩ := hw'
              subst hw''
              go_wp2_with fail
              go_roundw
              case rel => exact ⟨k + 1, by omega, by go_num, HE, hbw1.trans ((far_below _ _).mono hbw1.size)⟩
              case measure => simp [intOf]; omega
        · have HE := Lib.hid (show rightLB l = true by rw [HK.out, List.drop_eq_nil_of_le (by omega)]; rfl)
          go_wp2_with fail
          go_ret
          exact ⟨by rw [HE.out]; rfl, hbw⟩
    · have HE := Lib.hid (show rightLB l = false by simp [rightLB, h8])
      go_enter Tryd.func25, Tryd.ntmps25
      go_wp2_with fail
      go_ret
      exact ⟨by rw [HE.out]; rfl, Below.refl _ _⟩
  · have HE := Lib.hid (show rightLB l = false by simp [rightLB, h1])
    go_enter Tryd.func25, Tryd.ntmps25
    go_wp2_with fail
    go_ret
    exact ⟨by rw [HE.out]; rfl, Below.refl _ _⟩


theorem lineB_false {x : Ln} (h : lineB x = false) : rightB x.sku.data.toList = false ∨ rightB x.sku.data.toList = true ∧ (x.qty < 1 ∨ 1 ≤ x.qty ∧ (1000 < x.qty ∨ x.qty ≤ 1000 ∧ (x.wt < 0 ∨ 0 ≤ x.wt ∧ 100000 < x.wt))) := by
  cases hr : rightB x.sku.data.toList with
  | false => exact Or.inl rfl
  | true =>
    refine Or.inr ⟨rfl, ?_⟩
    simp only [lineB, hr, Bool.true_and, decide_eq_false_iff_not] at h
    omega

end Go.Proofs.YtpmgafmbmjokhaaDoor
