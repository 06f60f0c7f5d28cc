/- LinesWeigh: the law returns true for any lines: pieces and weight are those of the lines by themselves, together, and one piece fewer weighs so much less. It has no conditions. -/
import Derived.Test.YtijcgioggmphkaaArgs
namespace Go.Proofs.Ytijcgioggmphkaa
open Go.ChangeShapes Go.WideShapes Go.ChangeAt Go.RowKit

theorem takeV_le {l : List Ln} (hl : l.length ≤ 50) (k : ByteArray) (q : Int) : (takeV l k q).length ≤ 50 := by
  unfold takeV
  split
  · have := takeL_len l k q
    omega
  · simp
theorem pieces_one {x : Ln} (h : lineB x = true) : piecesV [x] = x.qty := by
  unfold piecesV
  rw [right_one, h, if_pos rfl, sumQ_cons, sumQ_nil]
  omega
theorem weight_one {x : Ln} (h : lineB x = true) : weightV [x] = x.qty * x.wt := by
  unfold weightV
  rw [right_one, h, if_pos rfl, sumW_cons, sumW_nil]
  omega

/-- Without one piece, where something is left. -/
theorem take_one {l : List Ln} {x : Ln} (hr : rightLB l = true) (hx : x ∈ l) (hne : takeV l x.sku 1 ≠ []) : weightV (takeV l x.sku 1) = weightV l - x.wt ∧ piecesV (takeV l x.sku 1) = piecesV l - 1 := by
  have hline := ((rightLB_iff _).1 hr).2.1 x hx
  have hq := lineB_of hline
  have hs := ((rightLB_iff _).1 hr).2.2
  have hv : takeV l x.sku 1 = takeL l x.sku 1 := by
    unfold takeV at hne ⊢
    split
    · rfl
    · rename_i h
      rw [if_neg h] at hne
      exact absurd rfl hne
  have tk := took hr hx (Int.le_refl 1) hq.2.1
  rw [hv] at hne ⊢
  have h1 := tk.pieces
  have h2 := tk.heavy
  have h3 := tk.right hne
  unfold weightV piecesV
  rw [h3, hr, if_pos rfl, if_pos rfl, if_pos rfl, if_pos rfl]
  constructor <;> omega

set_option maxHeartbeats 4000000 in
theorem weigh_walk (a : Option Addr) (cap : Nat) (l : List Ln) (w : World) (h : LnsP w a cap l) (hm : l.length ≤ maxLen) : Calls Try.prog 8 #[.slice a l.length cap] w (TrueB w) := by
  have H := Lib.hid h
  have HM := Lib.hid hm
  clear h
  unfold maxLen at hm
  cases ht : decide (50 < (l.length : Int)) with
  | true =>
    go_enter Try.func8, Try.ntmps8
    go_wp2_with fail
    refine (alive_any _).mono ?_
    rintro e w1 ⟨rfl, b1⟩
    go_wp2_with fail
    go_ret
    exact ⟨rfl, b1⟩
  | false =>
    have hl : l.length ≤ 50 := by simp at ht; omega
    have C1 := Lib.hid (fun W (hW : LnsP W a cap l) => right14_any a cap l W hW HM.out)
    have CPL := Lib.hid (fun W (hW : LnsP W a cap l) => pieces_any a cap l W hW HM.out)
    have CWL := Lib.hid (fun W (hW : LnsP W a cap l) => weight_any a cap l W hW HM.out)
    cases hr : rightLB l with
    | false =>
      rw [hr] at C1
      clear hr
      go_enter Try.func8, Try.ntmps8
      go_wp2_with fail
      refine (alive_any _).mono ?_
      rintro e w1 ⟨rfl, b1⟩
      go_wp2_with fail
      refine (C1.out _ (H.out.below b1)).mono ?_
      rintro e w2 ⟨rfl, b2⟩
      have d2 := b1.trans (b2.mono b1.size)
      go_wp2_with fail
      go_ret
      exact ⟨rfl, d2⟩
    | true =>
      rw [hr] at C1
      have HR := Lib.hid hr
      have HL := Lib.hid ((rightLB_iff l).1 hr)
      have hbd := sum_bound l HL.out.2.1
      have hl8 := HL.out.1.2
      have HVP := Lib.hid (show piecesV l = sumQ l by unfold piecesV; rw [hr]; rfl)
      have HVW := Lib.hid (show weightV l = sumW l by unfold weightV; rw [hr]; rfl)
      have hpl0 : 0 ≤ piecesV l := by rw [HVP.out]; omega
      have hpl1 : piecesV l ≤ 8000 := by rw [HVP.out]; omega
      have hwl0 : 0 ≤ weightV l := by rw [HVW.out]; omega
      have hwl1 : weightV l ≤ 800000000 := by rw [HVW.out]; omega
      clear hr hbd
      go_enter Try.func8, Try.ntmps8
      go_wp2_with fail
      refine (alive_any _).mono ?_
      rintro e w1 ⟨rfl, b1⟩
      go_wp2_with fail
      refine (C1.out _ (H.out.below b1)).mono ?_
      rintro e w2 ⟨rfl, b2⟩
      have d2 := b1.trans (b2.mono b1.size)
      go_wp2_with fail
      go_loopw [3, 4, 21] (fun s t i wr => ∃ (k : Nat), k ≤ l.length ∧ i = .int .i64 k ∧ s = .int .i64 (sumQ (l.take k)) ∧ t = .int .i64 (sumW (l.take k)) ∧ Below w.heap.size w wr) (fun _ _ i _ => l.length - (intOf i).toNat)
      case atStart => exact ⟨0, Nat.zero_le _, rfl, rfl, rfl, d2⟩
      case round =>
        clear d2 b1 b2
        obtain ⟨k, hk, rfl, rfl, rfl, hbw⟩ := hrel
        by_cases hlt : k < l.length
        · obtain ⟨b, o, ea, hb, c1, c2, c3, hsz⟩ := (H.out.below hbw).at k hlt
          subst ea
          have p1 := H.out.cap
          have hb0 := sum_bound (l.take k) (fun x hx => HL.out.2.1 x (List.mem_of_mem_take hx))
          have hlen : (l.take k).length ≤ 8 := by rw [List.length_take]; omega
          have hx := HL.out.2.1 _ (List.getElem_mem hlt)
          have hp := prod_bound hx
          have hx2 := lineB_of hx
          have HTQ := Lib.hid (show sumQ (l.take (k + 1)) = sumQ (l.take k) + l[k].qty by rw [List.take_succ_eq_append_getElem hlt, sumQ_append, sumQ_cons, sumQ_nil]; omega)
          have HTW := Lib.hid (show sumW (l.take (k + 1)) = sumW (l.take k) + l[k].qty * l[k].wt by rw [List.take_succ_eq_append_getElem hlt, sumW_append, sumW_cons, sumW_nil]; omega)
          have q1 : 0 ≤ sumQ (l.take k) := by omega
          have q2 : sumQ (l.take k) ≤ 8000 := by omega
          have q3 : 0 ≤ sumW (l.take k) := by omega
          have q4 : sumW (l.take k) ≤ 800000000 := by omega
          have q5 : 0 ≤ l[k].qty * l[k].wt := by omega
          have q6 : l[k].qty * l[k].wt ≤ 100000000 := by omega
          have q7 : 1 ≤ l[k].qty := hx2.2.1
          have q8 : l[k].qty ≤ 1000 := hx2.2.2.1
          have q9 : 0 ≤ l[k].wt := hx2.2.2.2.1
          have q10 : l[k].wt ≤ 100000 := hx2.2.2.2.2
          have HP1 := Lib.hid (pieces_one hx)
          have HW1 := Lib.hid (weight_one hx)
          have HTK := Lib.hid (fun h => take_one HR.out (List.getElem_mem hlt) h)
          have HSZ := Lib.hid hsz
          clear hb0 hlen hx hp hx2 hsz
          generalize l[k] = x at *
          generalize sumQ (l.take k) = sq at *
          generalize sumW (l.take k) = sw at *
          have HLB := Lib.hid (fun w => lns_block w [x] (by intro y hy; simp at hy; subst hy; exact HSZ.out) (by unfold maxLen; simp))
          have e1 : (wr.alloc (Obj.cells #[Value.string x.sku, Value.int IntKind.i64 x.qty, Value.int IntKind.i64 x.wt] 27)).heap.size = wr.heap.size + 1 := by simp
          have i1 : LnsP ((wr.alloc (Obj.cells #[Value.string x.sku, Value.int IntKind.i64 x.qty, Value.int IntKind.i64 x.wt] 27)).alloc (Obj.cells #[Value.string x.sku, Value.int IntKind.i64 x.qty, Value.int IntKind.i64 x.wt] 27)) (some ⟨wr.heap.size + 1, 0, none⟩) 1 [x] := by
            have := HLB.out (wr.alloc (Obj.cells #[Value.string x.sku, Value.int IntKind.i64 x.qty, Value.int IntKind.i64 x.wt] 27))
            rw [e1] at this
            exact this
          have CP := Lib.hid (pieces_any _ _ _ _ i1 (by unfold maxLen; simp))
          rw [HP1.out] at CP
          have CW := Lib.hid (fun w => weight_any _ _ _ _ (HLB.out w) (by unfold maxLen; simp))
          rw [HW1.out] at CW
          have CT := Lib.hid (fun W (hW : LnsP W (some ⟨b, o, none⟩) cap l) => take_any _ cap l x.sku 1 W hW (by omega))
          have f1 := hbw.alloc hbw.size (Obj.cells #[Value.string x.sku, Value.int IntKind.i64 x.qty, Value.int IntKind.i64 x.wt] 27)
          have f2 := f1.alloc f1.size (Obj.cells #[Value.string x.sku, Value.int IntKind.i64 x.qty, Value.int IntKind.i64 x.wt] 27)
          have D := Lib.hid (show ((wr.alloc (Obj.cells #[Value.string x.sku, Value.int IntKind.i64 x.qty, Value.int IntKind.i64 x.wt] 27)).alloc (Obj.cells #[Value.string x.sku, Value.int IntKind.i64 x.qty, Value.int IntKind.i64 x.wt] 27)).cell? ⟨wr.heap.size, 0, none⟩ = some (.string x.sku) ∧ ((wr.alloc (Obj.cells #[Value.string x.sku, Value.int IntKind.i64 x.qty, Value.int IntKind.i64 x.wt] 27)).alloc (Obj.cells #[Value.string x.sku, Value.int IntKind.i64 x.qty, Value.int IntKind.i64 x.wt] 27)).cell? ⟨wr.heap.size, 1, none⟩ = some (.int .i64 x.qty) ∧ ((wr.alloc (Obj.cells #[Value.string x.sku, Value.int IntKind.i64 x.qty, Value.int IntKind.i64 x.wt] 27)).alloc (Obj.cells #[Value.string x.sku, Value.int IntKind.i64 x.qty, Value.int IntKind.i64 x.wt] 27)).cell? ⟨wr.heap.size, 2, none⟩ = some (.int .i64 x.wt) ∧ wr.heap.size < ((wr.alloc (Obj.cells #[Value.string x.sku, Value.int IntKind.i64 x.qty, Value.int IntKind.i64 x.wt] 27)).alloc (Obj.cells #[Value.string x.sku, Value.int IntKind.i64 x.qty, Value.int IntKind.i64 x.wt] 27)).heap.size from
            ⟨Lib.cell?_alloc_some _ (by simp), Lib.cell?_alloc_some _ (by simp), Lib.cell?_alloc_some _ (by simp), by simp; omega⟩)
          clear e1 i1
          go_wp2_with fail
          generalize (wr.alloc (Obj.cells #[Value.string x.sku, Value.int IntKind.i64 x.qty, Value.int IntKind.i64 x.wt] 27)).alloc (Obj.cells #[Value.string x.sku, Value.int IntKind.i64 x.qty, Value.int IntKind.i64 x.wt] 27) = W2 at *
          refine CP.out.mono ?_
          rintro e w3 ⟨rfl, b3⟩
          have f3 := f2.trans (b3.mono f2.size)
          have D3 := Lib.hid (show w3.cell? ⟨wr.heap.size, 0, none⟩ = some (.string x.sku) ∧ w3.cell? ⟨wr.heap.size, 1, none⟩ = some (.int .i64 x.qty) ∧ w3.cell? ⟨wr.heap.size, 2, none⟩ = some (.int .i64 x.wt) ∧ wr.heap.size < w3.heap.size from
            ⟨(b3.cell (p := ⟨wr.heap.size, 0, none⟩) D.out.2.2.2).trans D.out.1, (b3.cell (p := ⟨wr.heap.size, 1, none⟩) D.out.2.2.2).trans D.out.2.1, (b3.cell (p := ⟨wr.heap.size, 2, none⟩) D.out.2.2.2).trans D.out.2.2.1, Nat.lt_of_lt_of_le D.out.2.2.2 b3.size⟩)
          have g0 := D3.out.1
          have g1 := D3.out.2.1
          have g2 := D3.out.2.2.1
          have f4 := f3.alloc f3.size (Obj.cells #[Value.string x.sku, Value.int IntKind.i64 x.qty, Value.int IntKind.i64 x.wt] 27)
          go_wp2_with fail
          refine (CW.out _).mono ?_
          rintro e w4 ⟨rfl, b4⟩
          have f5 := f4.trans (b4.mono f4.size)
          have A3 := Lib.hid (show Below w3.heap.size w3 w4 from ((Below.refl _ _).alloc (Nat.le_refl _) _).trans (b4.mono (by simp)))
          have D4 := Lib.hid (show w4.cell? ⟨wr.heap.size, 0, none⟩ = some (.string x.sku) ∧ w4.cell? ⟨wr.heap.size, 2, none⟩ = some (.int .i64 x.wt) ∧ wr.heap.size < w4.heap.size from
            ⟨(A3.out.cell (p := ⟨wr.heap.size, 0, none⟩) D3.out.2.2.2).trans D3.out.1, (A3.out.cell (p := ⟨wr.heap.size, 2, none⟩) D3.out.2.2.2).trans D3.out.2.2.1, Nat.lt_of_lt_of_le D3.out.2.2.2 A3.out.size⟩)
          clear g0 g1 g2
          have g0 := D4.out.1
          go_wp2_with fail
          refine (CT.out _ (H.out.below f5)).mono ?_
          rintro e w5 ⟨a5, c5, rfl, i5, b5⟩
          have f6 := f5.trans (b5.mono f5.size)
          have IS := Lib.hid i5
          have IL := Lib.hid (H.out.below f6)
          have D5 := Lib.hid (show w5.cell? ⟨wr.heap.size, 2, none⟩ = some (.int .i64 x.wt) ∧ wr.heap.size < w5.heap.size from
            ⟨(b5.cell (p := ⟨wr.heap.size, 2, none⟩) D4.out.2.2).trans D4.out.2.1, Nat.lt_of_lt_of_le D4.out.2.2 b5.size⟩)
          clear g0 i5
          have hvl := takeV_le hl x.sku 1
          have CPS := Lib.hid (fun W (hW : LnsP W a5 c5 (takeV l x.sku 1)) => pieces_any a5 c5 (takeV l x.sku 1) W hW (by unfold maxLen; omega))
          have CWS := Lib.hid (fun W (hW : LnsP W a5 c5 (takeV l x.sku 1)) => weight_any a5 c5 (takeV l x.sku 1) W hW (by unfold maxLen; omega))
          by_cases hne : takeV l x.sku 1 = []
          · have HE := Lib.hid (takeE_nil hne)
            rw [HE.out]
            clear hne
            go_wp2_with fail
            refine wp_region_far (by kernel_rfl) (by kernel_rfl) ?_
            repeat (first | go_big_quiet_step (fail) | quiet_step (fail))
            refine wpQuiet_nil ?_
            intro _ hw'
            obtain ⟨p, hw''⟩ := hw'
            subst hw''
            go_wp2_with fail
            go_roundw
            case rel => exact ⟨k + 1, by omega, by go_num, by rw [HTQ.out], by rw [HTW.out], f6.trans ((far_below _ _).mono f6.size)⟩
            case measure => simp [intOf]; omega
          · have HE := Lib.hid (takeE_ne hne)
            rw [HE.out]
            obtain ⟨h1, h2⟩ := HTK.out hne
            rw [h2] at CPS
            rw [h1] at CWS
            clear hne h1 h2
            have m1 := far_cell D5.out.2 D5.out.1
            have r1 : IntKind.i64.wrap (weightV l - x.wt) = weightV l - x.wt := IntWalk.i64_in _ (by omega)
            have r2 : IntKind.i64.wrap (piecesV l - 1) = piecesV l - 1 := IntWalk.i64_in _ (by omega)
            generalize takeV l x.sku 1 = S at *
            generalize weightV l = wl at *
            generalize piecesV l = pl at *
            go_wp2_with fail
            refine wp_region_far (by kernel_rfl) (by kernel_rfl) ?_
            repeat (first | go_big_quiet_step ((first | (go_at_call 13; first | exact calls_far (CWS.out _ (IS.out.below (far_below _ _))) | exact calls_far (CWL.out _ (IL.out.below (far_below _ _)))) | (go_at_call 16; first | exact calls_far (CPS.out _ (IS.out.below (far_below _ _))) | exact calls_far (CPL.out _ (IL.out.below (far_below _ _)))))) | quiet_step ((first | (go_at_call 13; first | exact calls_far (CWS.out _ (IS.out.below (far_below _ _))) | exact calls_far (CWL.out _ (IL.out.below (far_below _ _)))) | (go_at_call 16; first | exact calls_far (CPS.out _ (IS.out.below (far_below _ _))) | exact calls_far (CPL.out _ (IL.out.below (far_below _ _)))))))
            refine wpQuiet_nil ?_
            intro _ hw'
            obtain ⟨p, hw''⟩ := hw'
            subst hw''
            go_wp2_with fail
            go_roundw
            case rel => exact ⟨k + 1, by omega, by go_num, by rw [HTQ.out], by rw [HTW.out], f6.trans ((far_below _ _).mono f6.size)⟩
            case measure => simp [intOf]; omega
        · have HT := Lib.hid (show l.take k = l from List.take_of_length_le (by omega))
          rw [HT.out, ← HVP.out, ← HVW.out]
          generalize weightV l = wl at *
          generalize piecesV l = pl at *
          go_wp2_with fail
          refine (CPL.out _ (H.out.below hbw)).mono ?_
          rintro e w3 ⟨rfl, b3⟩
          have f3 := hbw.trans (b3.mono hbw.size)
          go_wp2_with fail
          refine (CWL.out _ (H.out.below f3)).mono ?_
          rintro e w4 ⟨rfl, b4⟩
          have f4 := f3.trans (b4.mono f3.size)
          go_wp2_with fail
          go_ret
          exact ⟨rfl, f4⟩



set_option maxRecDepth 100000 in
theorem linesWeigh_lifted (os : Os) (started : os.Started) (H : Type) (enc : TypeId × Value → H) :
    ReturnsInHanded {} Try.checked os 8 .any (Rows.linesWeighSpec.pre6 enc Try.prog Try.f8 Rows.linesWeighRow.domain false) (Rows.linesWeighSpec.post enc Try.prog Try.f8 false true false false) := by
  refine returnsInHanded_of_change (C := Try.checked) own started (by kernel_rfl) Try.func8
    (ChangeSpec.witness6 (enc := enc) (C := Try.checked) false ⟨#[], #[.slice none 0 0], []⟩ 8 (by kernel_rfl) (by kernel_rfl) (by kernel_rfl) (by kernel_rfl)) ?_
  intro W base args ds gs before hval0 hW _ _
  have hval : ∀ (j : Nat) t v, Try.f8.params[j]? = some t → args[j]? = some v → Value.okWide Try.prog W .any base t v := hval0
  have hW' := hW
  obtain ⟨p, q, hA0, hV, rfl, _, _⟩ := hW
  have hA : DataW.TrodAll enc Try.prog W 0 (fun _ => true) true Try.f8.params.toList args.toList ds p := hA0
  rw [Try.params8] at hA hval
  obtain ⟨v0, vs0, d0, ds0, p0, q_0, hargs, rfl, rfl, h0, r0⟩ := trodAll_cons hA
  obtain ⟨rfl, rfl, rfl⟩ := trodAll_nil r0
  obtain rfl : args = #[v0] := by cases args; simp_all
  obtain ⟨rfl, rfl⟩ := trodVars_none hV
  clear hA0 hval0
  simp only [List.append_nil] at hW'
  obtain ⟨q0, cap0, l0, rfl, hS0, hm0⟩ := lns_of_trod (hval 0 22 v0 rfl rfl) h0
  have hlt0 : ∀ x ∈ p0, x.block < W.heap.size := fun x hx => by simpa using hW'.lt x (by simpa using (by simp [hx]))
  refine (weigh_walk q0 cap0 l0 W hS0 hm0.1).mono fun e W' ⟨he, hb⟩ => ?_
  subst he
  have hT : DataW.TrodAll enc Try.prog W' 0 (fun b => decide (b < W.heap.size)) true _ _ _ _ := (trodAll_cons_mk (Below.trod laidOut (by kernel_rfl) (of_decide_eq_true (by kernel_rfl)) h0 hb hlt0) trodAll_mk0)
  simp only [List.append_nil] at hT
  exact ⟨_, rfl, _, _, _, [], p0, [], hW', trodAll_mk1 (shut_bool Try.underlying4 _), hT, rfl, hb.frame _, fun h => by cases h⟩

theorem linesWeigh_holds : Rows.LinesWeighSaid :=
  OpenClaim.holds_of_wide 8 Try.f8 rfl rfl rfl rfl rfl rfl rfl ⟨rfl, rfl, rfl, rfl, rfl⟩ rfl rfl rfl rfl rfl (by kernel_rfl) Try.func8 (by kernel_rfl)
    (of_decide_eq_true (by kernel_rfl)) (by unfold Func.isWrapper; first | (rw [if_pos (by decide +kernel)]; kernel_rfl) | (rw [if_neg (by decide +kernel)]; exact ⟨rfl, rfl⟩))
    (fun os started H enc _ => linesWeigh_lifted os started H enc)
#print axioms linesWeigh_holds


end Go.Proofs.Ytijcgioggmphkaa
