/- The document's own words on lines: what Right, Pieces and Weight of package packhorseref04 answer, at every slice of lines. -/
import Derived.Test.YtijcgioggmphkaaSame
namespace Go.Proofs.Ytijcgioggmphkaa
open Go.RowKit

theorem lineB_false {x : Ln} (h : lineB x = false) : rightB x.sku.data.toList = false ∨ rightB x.sku.data.toList = true ∧ (x.qty < 1 ∨ 1 ≤ x.qty ∧ (1000 < x.qty ∨ x.qty ≤ 1000 ∧ (x.wt < 0 ∨ 0 ≤ x.wt ∧ 100000 < x.wt))) := by
  cases hr : rightB x.sku.data.toList with
  | false => exact Or.inl rfl
  | true =>
    refine Or.inr ⟨rfl, ?_⟩
    simp only [lineB, hr, Bool.true_and, decide_eq_false_iff_not] at h
    omega

set_option maxHeartbeats 4000000 in
theorem refRight15_any (a : Option Addr) (cap : Nat) (l : List Ln) (w : World) (h : LnsP w a cap l) (hm : l.length ≤ maxLen) :
    Calls Try.prog 15 #[.slice a l.length cap] w fun e w' => e = .returned (.bool (rightLB l)) ∧ Below w.heap.size w w' := by
  have H := Lib.hid h
  clear h
  unfold maxLen at hm
  by_cases h1 : 1 ≤ l.length
  · by_cases h8 : l.length ≤ 8
    · have HR := Lib.hid (show rightLB l = goodFrom (prevAt l 0) (l.drop 0) by simp [rightLB, h1, h8, prevAt])
      have e1 : decide ((l.length : Int) < 1) = false := by simp; omega
      have e2 : decide (8 < (l.length : Int)) = false := by simp; omega
      go_enter Try.func15, Try.ntmps15
      go_wp2_with fail
      go_loopw [15] (fun i wr => ∃ (k : Nat), k ≤ l.length ∧ i = .int .i64 k ∧ Hid (rightLB l = goodFrom (prevAt l k) (l.drop k)) ∧ Below w.heap.size w wr) (fun i _ => l.length - (intOf i).toNat)
      case atStart => exact ⟨0, Nat.zero_le _, rfl, HR, Below.refl _ _⟩
      case round =>
        obtain ⟨k, hk, rfl, HK, hbw⟩ := hrel
        by_cases hlt : k < l.length
        · have HL := Lib.hid (H.out.below hbw)
          obtain ⟨b, o, ea, hb, c1, c2, c3, hsz⟩ := HL.out.at k hlt
          subst ea
          have p1 := H.out.cap
          have HS := Lib.hid (goodFrom_step l k hlt)
          have C := Lib.hid (fun w => refRight_any l[k].sku w hsz)
          have HX := Lib.hid (show ∀ j, k = j + 1 → ∃ hj : j < l.length, prevAt l k = some l[j] ∧ wr.cell? ⟨b, o + j * 3, none⟩ = some (.string l[j].sku) ∧ l[j].sku.size ≤ maxLen by
            intro j hj
            subst hj
            have hj' : j < l.length := by omega
            obtain ⟨b', o', e, _, q1, _, _, q4⟩ := HL.out.at j hj'
            injection e with e
            injection e with ea eo
            subst ea eo
            exact ⟨hj', prevAt_pos hj', q1, q4⟩)
          have HSZ := Lib.hid hsz
          clear hsz
          generalize l[k] = x at *
          have hbw1 := hbw.alloc hbw.size (Obj.cells #[Value.string x.sku, Value.int IntKind.i64 x.qty, Value.int IntKind.i64 x.wt] 27)
          have d0 : (wr.alloc (Obj.cells #[Value.string x.sku, Value.int IntKind.i64 x.qty, Value.int IntKind.i64 x.wt] 27)).cell? ⟨wr.heap.size, 0, none⟩ = some (.string x.sku) := by simp
          have d1 : (wr.alloc (Obj.cells #[Value.string x.sku, Value.int IntKind.i64 x.qty, Value.int IntKind.i64 x.wt] 27)).cell? ⟨wr.heap.size, 1, none⟩ = some (.int .i64 x.qty) := by simp
          have d2 : (wr.alloc (Obj.cells #[Value.string x.sku, Value.int IntKind.i64 x.qty, Value.int IntKind.i64 x.wt] 27)).cell? ⟨wr.heap.size, 2, none⟩ = some (.int .i64 x.wt) := by simp
          have hz : wr.heap.size < (wr.alloc (Obj.cells #[Value.string x.sku, Value.int IntKind.i64 x.qty, Value.int IntKind.i64 x.wt] 27)).heap.size := by simp
          have D := Lib.hid (And.intro d0 (And.intro d1 (And.intro d2 hz)))
          have BA := Lib.hid (show Below wr.heap.size wr (wr.alloc (Obj.cells #[Value.string x.sku, Value.int IntKind.i64 x.qty, Value.int IntKind.i64 x.wt] 27)) from (Below.refl _ _).alloc (Nat.le_refl _) _)
          clear d0 d1 d2 hz
          cases hlb : lineB x with
          | false =>
            have HE := Lib.hid (show rightLB l = false by rw [HK.out, HS.out, hlb]; rfl)
            rcases lineB_false hlb with h0 | ⟨h0, h0' | ⟨h1', h0' | ⟨h2', h0' | ⟨h3', h0'⟩⟩⟩⟩
            all_goals
              rw [h0] at C
              clear hlb h0
              go_wp2_with fail
              generalize wr.alloc (Obj.cells #[Value.string x.sku, Value.int IntKind.i64 x.qty, Value.int IntKind.i64 x.wt] 27) = W1 at *
              refine (C.out _).mono ?_
              rintro e w1 ⟨rfl, b1⟩
              have b2 := hbw1.trans (b1.mono hbw1.size)
              have e3 := (b1.cell (p := ⟨wr.heap.size, 1, none⟩) D.out.2.2.2).trans D.out.2.1
              have e4 := (b1.cell (p := ⟨wr.heap.size, 2, none⟩) D.out.2.2.2).trans D.out.2.2.1
              go_wp2_with fail
              go_ret
              exact ⟨by rw [HE.out]; rfl, b2⟩
          | true =>
            obtain ⟨hr0, hx1, hx2, hx3, hx4⟩ := lineB_of hlb
            rw [hr0] at C
            have HLB := Lib.hid hlb
            clear hlb hr0
            go_wp2_with fail
            generalize wr.alloc (Obj.cells #[Value.string x.sku, Value.int IntKind.i64 x.qty, Value.int IntKind.i64 x.wt] 27) = W1 at *
            refine (C.out _).mono ?_
            rintro e w1 ⟨rfl, b1⟩
            have b2 := hbw1.trans (b1.mono hbw1.size)
            have e3 := (b1.cell (p := ⟨wr.heap.size, 1, none⟩) D.out.2.2.2).trans D.out.2.1
            have e4 := (b1.cell (p := ⟨wr.heap.size, 2, none⟩) D.out.2.2.2).trans D.out.2.2.1
            have D2 := Lib.hid (And.intro ((b1.cell (p := ⟨wr.heap.size, 0, none⟩) D.out.2.2.2).trans D.out.1) (Nat.lt_of_lt_of_le D.out.2.2.2 b1.size))
            have D3 := Lib.hid (show ∀ o v, wr.cell? ⟨b, o, none⟩ = some v → w1.cell? ⟨b, o, none⟩ = some v from fun o v h => (b1.cell (p := ⟨b, o, none⟩) (Nat.lt_of_lt_of_le hb BA.out.size)).trans ((BA.out.cell (p := ⟨b, o, none⟩) hb).trans h))
            have hb1 : b < w1.heap.size := Nat.lt_of_lt_of_le hb (Nat.le_trans BA.out.size b1.size)
            by_cases hk0 : 0 < k
            · obtain ⟨j, rfl⟩ : ∃ j, k = j + 1 := ⟨k - 1, by omega⟩
              obtain ⟨hj, hp, hc, hjs⟩ := HX.out j rfl
              have CC := Lib.hid (fun w => refCmp_any l[j].sku x.sku w hjs HSZ.out)
              generalize l[j] = y at *
              have D4 := Lib.hid (And.intro hb1 (D3.out _ _ hc))
              clear hc hjs
              have h3 := kcmp_three y.sku x.sku
              cases hq : decide (kcmp y.sku x.sku < 0) with
              | false =>
                have HE := Lib.hid (show rightLB l = false by rw [HK.out, HS.out, HLB.out, hp, behindB]; simp only [hq]; rfl)
                have hq3 : (kcmp y.sku x.sku != -1) = true := by simp at hq ⊢; omega
                clear hq hp h3
                generalize kcmp y.sku x.sku = c at *
                go_wp2_with fail
                clear e3 e4
                have f1 := far_cell D2.out.2 D2.out.1
                have f4 := far_cell D4.out.1 D4.out.2
                refine wp_region_far (by kernel_rfl) (by kernel_rfl) ?_
                repeat (first | go_big_quiet_step ((go_at_call 31; exact calls_far (CC.out _))) | quiet_step ((go_at_call 31; exact calls_far (CC.out _))))
                refine wpQuiet_nil ?_
                intro _ hw'
                obtain ⟨p, hw''⟩ := hw'
                subst hw''
                go_wp2_with fail
                go_ret
                exact ⟨by rw [HE.out]; rfl, b2.trans ((far_below _ _).mono b2.size)⟩
              | true =>
                have HE := Lib.hid (show rightLB l = goodFrom (prevAt l (j + 1 + 1)) (l.drop (j + 1 + 1)) by rw [HK.out, HS.out, HLB.out, hp, behindB]; simp only [hq]; rfl)
                have hq3 : (kcmp y.sku x.sku != -1) = false := by simp at hq ⊢; omega
                clear hq hp h3
                generalize kcmp y.sku x.sku = c at *
                go_wp2_with fail
                clear e3 e4
                have f1 := far_cell D2.out.2 D2.out.1
                have f4 := far_cell D4.out.1 D4.out.2
                refine wp_region_far (by kernel_rfl) (by kernel_rfl) ?_
                repeat (first | go_big_quiet_step ((go_at_call 31; exact calls_far (CC.out _))) | quiet_step ((go_at_call 31; exact calls_far (CC.out _))))
                refine wpQuiet_nil ?_
                intro _ hw'
                obtain ⟨p, hw''⟩ := hw'
                subst hw''
                go_wp2_with fail
                go_roundw
                case rel => exact ⟨j + 1 + 1, by omega, by go_num, HE, b2.trans ((far_below _ _).mono b2.size)⟩
                case measure => simp [intOf]; omega
            · have HP := Lib.hid (show prevAt l k = none by simp [prevAt]; omega)
              have HE := Lib.hid (show rightLB l = goodFrom (prevAt l (k + 1)) (l.drop (k + 1)) by rw [HK.out, HS.out, HLB.out, HP.out]; rfl)
              go_wp2_with fail
              clear e3 e4
              have f1 := far_cell D2.out.2 D2.out.1
              refine wp_region_far (by kernel_rfl) (by kernel_rfl) ?_
              repeat (first | go_big_quiet_step (fail) | quiet_step (fail))
              refine wpQuiet_nil ?_
              intro _ hw'
              obtain ⟨p, hw''⟩ := hw'
              subst hw''
              go_wp2_with fail
              go_roundw
              case rel => exact ⟨k + 1, by omega, by go_num, HE, b2.trans ((far_below _ _).mono b2.size)⟩
              case measure => simp [intOf]; omega
        · have HE := Lib.hid (show rightLB l = true by rw [HK.out, List.drop_eq_nil_of_le (by omega)]; rfl)
          go_wp2_with fail
          go_ret
          exact ⟨by rw [HE.out]; rfl, hbw⟩
    · have HE := Lib.hid (show rightLB l = false by simp [rightLB, h8])
      go_enter Try.func15, Try.ntmps15
      go_wp2_with fail
      go_ret
      exact ⟨by rw [HE.out]; rfl, Below.refl _ _⟩
  · have HE := Lib.hid (show rightLB l = false by simp [rightLB, h1])
    go_enter Try.func15, Try.ntmps15
    go_wp2_with fail
    go_ret
    exact ⟨by rw [HE.out]; rfl, Below.refl _ _⟩

set_option maxHeartbeats 2000000 in
theorem refPieces_any (a : Option Addr) (cap : Nat) (l : List Ln) (w : World) (h : LnsP w a cap l) (hm : l.length ≤ maxLen) :
    Calls Try.prog 17 #[.slice a l.length cap] w fun e w' => e = .returned (.int .i64 (piecesV l)) ∧ Below w.heap.size w w' := by
  have C := Lib.hid (fun W (hW : LnsP W a cap l) => refRight15_any a cap l W hW hm)
  have H := Lib.hid h
  clear h
  unfold maxLen at hm
  cases hr : rightLB l with
  | false =>
    have HV := Lib.hid (show piecesV l = 0 by unfold piecesV; rw [hr]; rfl)
    rw [hr] at C
    clear hr
    go_enter Try.func17, Try.ntmps17
    go_wp2_with fail
    go_loopw [3, 8] (fun s i wr => ∃ (k : Nat), k ≤ l.length ∧ i = .int .i64 k ∧ s = .int .i64 0 ∧ Below w.heap.size w wr) (fun _ i _ => l.length - (intOf i).toNat)
    case atStart => exact ⟨0, Nat.zero_le _, rfl, rfl, Below.refl _ _⟩
    case round =>
      obtain ⟨k, hk, rfl, rfl, hbw⟩ := hrel
      by_cases hlt : k < l.length
      · have HB := Lib.hid (H.out.below hbw)
        obtain ⟨b, o, ea, hb, c1, c2, c3, hsz⟩ := HB.out.at k hlt
        subst ea
        have p1 := H.out.cap
        generalize l[k] = x at *
        have hbw1 := hbw.alloc hbw.size (Obj.cells #[Value.string x.sku, Value.int IntKind.i64 x.qty, Value.int IntKind.i64 x.wt] 27)
        have HB1 := Lib.hid (H.out.below hbw1)
        go_wp2_with fail
        refine (C.out _ HB1.out).mono ?_
        rintro e w1 ⟨rfl, b1⟩
        have b2 := hbw1.trans (b1.mono hbw1.size)
        go_wp2_with fail
        go_roundw
        case rel => exact ⟨k + 1, by omega, by go_num, rfl, b2⟩
        case measure => simp [intOf]; omega
      · go_wp2_with fail
        go_ret
        exact ⟨by rw [HV.out]; rfl, hbw⟩
  | true =>
    have HV := Lib.hid (show piecesV l = sumQ l by unfold piecesV; rw [hr]; rfl)
    have HL := Lib.hid ((rightLB_iff l).1 hr)
    rw [hr] at C
    clear hr
    go_enter Try.func17, Try.ntmps17
    go_wp2_with fail
    go_loopw [3, 8] (fun s i wr => ∃ (k : Nat), k ≤ l.length ∧ i = .int .i64 k ∧ s = .int .i64 (sumQ (l.take k)) ∧ Below w.heap.size w wr) (fun _ i _ => l.length - (intOf i).toNat)
    case atStart => exact ⟨0, Nat.zero_le _, rfl, rfl, Below.refl _ _⟩
    case round =>
      obtain ⟨k, hk, rfl, rfl, hbw⟩ := hrel
      by_cases hlt : k < l.length
      · have HB := Lib.hid (H.out.below hbw)
        obtain ⟨b, o, ea, hb, c1, c2, c3, hsz⟩ := HB.out.at k hlt
        subst ea
        have p1 := H.out.cap
        have hb0 := sum_bound (l.take k) (fun x hx => HL.out.2.1 x (List.mem_of_mem_take hx))
        have hlen : (l.take k).length ≤ 8 := by rw [List.length_take]; have := HL.out.1.2; omega
        have hx := HL.out.2.1 _ (List.getElem_mem hlt)
        have hp := prod_bound hx
        have hx2 := lineB_of hx
        have HT := Lib.hid (show sumQ (l.take (k + 1)) = sumQ (l.take k) + l[k].qty by rw [List.take_succ_eq_append_getElem hlt, sumQ_append, sumQ_cons, sumQ_nil]; omega)
        have q1 : 0 ≤ sumQ (l.take k) := by omega
        have q2 : sumQ (l.take k) ≤ 800000000 := by omega
        have q3 : 0 ≤ l[k].qty := by omega
        have q4 : l[k].qty ≤ 100000000 := by omega
        clear hb0 hlen hx hp hx2
        generalize l[k] = x at *
        generalize sumQ (l.take k) = s at *
        have hbw1 := hbw.alloc hbw.size (Obj.cells #[Value.string x.sku, Value.int IntKind.i64 x.qty, Value.int IntKind.i64 x.wt] 27)
        have HB1 := Lib.hid (H.out.below hbw1)
        have d1 : (wr.alloc (Obj.cells #[Value.string x.sku, Value.int IntKind.i64 x.qty, Value.int IntKind.i64 x.wt] 27)).cell? ⟨wr.heap.size, 1, none⟩ = some (.int .i64 x.qty) := by simp
        have d2 : (wr.alloc (Obj.cells #[Value.string x.sku, Value.int IntKind.i64 x.qty, Value.int IntKind.i64 x.wt] 27)).cell? ⟨wr.heap.size, 2, none⟩ = some (.int .i64 x.wt) := by simp
        have hzz : wr.heap.size < (wr.alloc (Obj.cells #[Value.string x.sku, Value.int IntKind.i64 x.qty, Value.int IntKind.i64 x.wt] 27)).heap.size := by simp
        have D := Lib.hid (And.intro d1 (And.intro d2 hzz))
        clear d1 d2 hzz
        go_wp2_with fail
        generalize wr.alloc (Obj.cells #[Value.string x.sku, Value.int IntKind.i64 x.qty, Value.int IntKind.i64 x.wt] 27) = W1 at *
        refine (C.out _ HB1.out).mono ?_
        rintro e w1 ⟨rfl, b1⟩
        have b2 := hbw1.trans (b1.mono hbw1.size)
        have e1 := (b1.cell (p := ⟨wr.heap.size, 1, none⟩) D.out.2.2).trans D.out.1
        have e2 := (b1.cell (p := ⟨wr.heap.size, 2, none⟩) D.out.2.2).trans D.out.2.1
        go_wp2_with fail
        go_roundw
        case rel => exact ⟨k + 1, by omega, by go_num, by rw [HT.out], b2⟩
        case measure => simp [intOf]; omega
      · have HT := Lib.hid (show sumQ (l.take k) = sumQ l by rw [List.take_of_length_le (by omega)])
        go_wp2_with fail
        go_ret
        exact ⟨by rw [HV.out, ← HT.out]; rfl, hbw⟩

set_option maxHeartbeats 2000000 in
theorem refWeight_any (a : Option Addr) (cap : Nat) (l : List Ln) (w : World) (h : LnsP w a cap l) (hm : l.length ≤ maxLen) :
    Calls Try.prog 18 #[.slice a l.length cap] w fun e w' => e = .returned (.int .i64 (weightV l)) ∧ Below w.heap.size w w' := by
  have C := Lib.hid (fun W (hW : LnsP W a cap l) => refRight15_any a cap l W hW hm)
  have H := Lib.hid h
  clear h
  unfold maxLen at hm
  cases hr : rightLB l with
  | false =>
    have HV := Lib.hid (show weightV l = 0 by unfold weightV; rw [hr]; rfl)
    rw [hr] at C
    clear hr
    go_enter Try.func18, Try.ntmps18
    go_wp2_with fail
    go_loopw [3, 8] (fun s i wr => ∃ (k : Nat), k ≤ l.length ∧ i = .int .i64 k ∧ s = .int .i64 0 ∧ Below w.heap.size w wr) (fun _ i _ => l.length - (intOf i).toNat)
    case atStart => exact ⟨0, Nat.zero_le _, rfl, rfl, Below.refl _ _⟩
    case round =>
      obtain ⟨k, hk, rfl, rfl, hbw⟩ := hrel
      by_cases hlt : k < l.length
      · have HB := Lib.hid (H.out.below hbw)
        obtain ⟨b, o, ea, hb, c1, c2, c3, hsz⟩ := HB.out.at k hlt
        subst ea
        have p1 := H.out.cap
        generalize l[k] = x at *
        have hbw1 := hbw.alloc hbw.size (Obj.cells #[Value.string x.sku, Value.int IntKind.i64 x.qty, Value.int IntKind.i64 x.wt] 27)
        have HB1 := Lib.hid (H.out.below hbw1)
        go_wp2_with fail
        refine (C.out _ HB1.out).mono ?_
        rintro e w1 ⟨rfl, b1⟩
        have b2 := hbw1.trans (b1.mono hbw1.size)
        go_wp2_with fail
        go_roundw
        case rel => exact ⟨k + 1, by omega, by go_num, rfl, b2⟩
        case measure => simp [intOf]; omega
      · go_wp2_with fail
        go_ret
        exact ⟨by rw [HV.out]; rfl, hbw⟩
  | true =>
    have HV := Lib.hid (show weightV l = sumW l by unfold weightV; rw [hr]; rfl)
    have HL := Lib.hid ((rightLB_iff l).1 hr)
    rw [hr] at C
    clear hr
    go_enter Try.func18, Try.ntmps18
    go_wp2_with fail
    go_loopw [3, 8] (fun s i wr => ∃ (k : Nat), k ≤ l.length ∧ i = .int .i64 k ∧ s = .int .i64 (sumW (l.take k)) ∧ Below w.heap.size w wr) (fun _ i _ => l.length - (intOf i).toNat)
    case atStart => exact ⟨0, Nat.zero_le _, rfl, rfl, Below.refl _ _⟩
    case round =>
      obtain ⟨k, hk, rfl, rfl, hbw⟩ := hrel
      by_cases hlt : k < l.length
      · have HB := Lib.hid (H.out.below hbw)
        obtain ⟨b, o, ea, hb, c1, c2, c3, hsz⟩ := HB.out.at k hlt
        subst ea
        have p1 := H.out.cap
        have hb0 := sum_bound (l.take k) (fun x hx => HL.out.2.1 x (List.mem_of_mem_take hx))
        have hlen : (l.take k).length ≤ 8 := by rw [List.length_take]; have := HL.out.1.2; omega
        have hx := HL.out.2.1 _ (List.getElem_mem hlt)
        have hp := prod_bound hx
        have hx2 := lineB_of hx
        have HT := Lib.hid (show sumW (l.take (k + 1)) = sumW (l.take k) + l[k].qty * l[k].wt by rw [List.take_succ_eq_append_getElem hlt, sumW_append, sumW_cons, sumW_nil]; omega)
        have q1 : 0 ≤ sumW (l.take k) := by omega
        have q2 : sumW (l.take k) ≤ 800000000 := by omega
        have q3 : 0 ≤ l[k].qty * l[k].wt := by omega
        have q4 : l[k].qty * l[k].wt ≤ 100000000 := by omega
        clear hb0 hlen hx hp hx2
        generalize l[k] = x at *
        generalize sumW (l.take k) = s at *
        have hbw1 := hbw.alloc hbw.size (Obj.cells #[Value.string x.sku, Value.int IntKind.i64 x.qty, Value.int IntKind.i64 x.wt] 27)
        have HB1 := Lib.hid (H.out.below hbw1)
        have d1 : (wr.alloc (Obj.cells #[Value.string x.sku, Value.int IntKind.i64 x.qty, Value.int IntKind.i64 x.wt] 27)).cell? ⟨wr.heap.size, 1, none⟩ = some (.int .i64 x.qty) := by simp
        have d2 : (wr.alloc (Obj.cells #[Value.string x.sku, Value.int IntKind.i64 x.qty, Value.int IntKind.i64 x.wt] 27)).cell? ⟨wr.heap.size, 2, none⟩ = some (.int .i64 x.wt) := by simp
        have hzz : wr.heap.size < (wr.alloc (Obj.cells #[Value.string x.sku, Value.int IntKind.i64 x.qty, Value.int IntKind.i64 x.wt] 27)).heap.size := by simp
        have D := Lib.hid (And.intro d1 (And.intro d2 hzz))
        clear d1 d2 hzz
        go_wp2_with fail
        generalize wr.alloc (Obj.cells #[Value.string x.sku, Value.int IntKind.i64 x.qty, Value.int IntKind.i64 x.wt] 27) = W1 at *
        refine (C.out _ HB1.out).mono ?_
        rintro e w1 ⟨rfl, b1⟩
        have b2 := hbw1.trans (b1.mono hbw1.size)
        have e1 := (b1.cell (p := ⟨wr.heap.size, 1, none⟩) D.out.2.2).trans D.out.1
        have e2 := (b1.cell (p := ⟨wr.heap.size, 2, none⟩) D.out.2.2).trans D.out.2.1
        go_wp2_with fail
        go_roundw
        case rel => exact ⟨k + 1, by omega, by go_num, by rw [HT.out], b2⟩
        case measure => simp [intOf]; omega
      · have HT := Lib.hid (show sumW (l.take k) = sumW l by rw [List.take_of_length_le (by omega)])
        go_wp2_with fail
        go_ret
        exact ⟨by rw [HV.out, ← HT.out]; rfl, hbw⟩

end Go.Proofs.Ytijcgioggmphkaa
