/- What Pieces and Weight of package lines answer, at every slice of lines. -/
import Derived.Test.YtijcgioggmphkaaRight
namespace Go.Proofs.Ytijcgioggmphkaa
open Go.RowKit

set_option maxHeartbeats 2000000 in
theorem piecesSum_any (a : Option Addr) (cap : Nat) (l : List Ln) (w : World) (h : LnsP w a cap l) (hm : l.length ≤ maxLen) :
    Calls Try.prog 27 #[.slice a l.length cap, .func (.func 32) #[] #[]] w fun e w' => e = .returned (.int .i64 (piecesV l)) ∧ Below w.heap.size w w' := by
  have C := Lib.hid (right14_any a cap l w h hm)
  have H := Lib.hid h
  clear h
  unfold maxLen at hm
  cases hr : rightLB l with
  | false =>
    have HV := Lib.hid (show piecesV l = 0 by unfold piecesV; rw [hr]; rfl)
    rw [hr] at C
    clear hr
    go_enter Try.func27, Try.ntmps27
    go_wp2_with fail
    refine C.out.mono ?_
    rintro e w1 ⟨rfl, b1⟩
    go_wp2_with fail
    go_ret
    exact ⟨by rw [HV.out]; rfl, b1⟩
  | true =>
    have HV := Lib.hid (show piecesV l = sumQ l by unfold piecesV; rw [hr]; rfl)
    have HL := Lib.hid ((rightLB_iff l).1 hr)
    rw [hr] at C
    clear hr
    go_enter Try.func27, Try.ntmps27
    go_wp2_with fail
    refine C.out.mono ?_
    rintro e w1 ⟨rfl, b1⟩
    go_wp2_with fail
    go_loopw [5, 13] (fun s i wr => ∃ (k : Nat), k ≤ l.length ∧ i = .int .i64 k ∧ s = .int .i64 (sumQ (l.take k)) ∧ Below w.heap.size w wr) (fun _ i _ => l.length - (intOf i).toNat)
    case atStart => exact ⟨0, Nat.zero_le _, rfl, rfl, b1⟩
    case round =>
      obtain ⟨k, hk, rfl, rfl, hbw⟩ := hrel
      by_cases hlt : k < l.length
      · obtain ⟨b, o, rfl, hb, c1, c2, c3, hsz⟩ := (H.out.below hbw).at k hlt
        have p1 := H.out.cap
        have hb0 := sum_bound (l.take k) (fun x hx => HL.out.2.1 x (List.mem_of_mem_take hx))
        have hlen : (l.take k).length ≤ 8 := by rw [List.length_take]; have := HL.out.1.2; omega
        have hx := HL.out.2.1 _ (List.getElem_mem hlt)
        have hp := prod_bound hx
        have hx2 := lineB_of hx
        have HT := Lib.hid (show sumQ (l.take (k + 1)) = sumQ (l.take k) + l[k].qty by rw [List.take_succ_eq_append_getElem hlt, sumQ_append, sumQ_cons, sumQ_nil]; omega)
        have q1 : 0 ≤ sumQ (l.take k) := by omega
        have q2 : sumQ (l.take k) ≤ 800000000 := by omega
        have q3 : 0 ≤ l[k].qty := by omega
        have q4 : l[k].qty ≤ 100000000 := by omega
        have CC := Lib.hid (fun w => pieces1_any l[k].sku l[k].qty l[k].wt w)
        clear hb0 hlen hx hp hx2
        generalize l[k] = x at *
        generalize sumQ (l.take k) = s at *
        go_wp2_with fail
        refine (CC.out _).mono ?_
        rintro e w2 ⟨rfl, b2⟩
        have b3 := (hbw.alloc hbw.size (Obj.cells #[Value.string x.sku, Value.int IntKind.i64 x.qty, Value.int IntKind.i64 x.wt] 27)).trans (b2.mono (hbw.alloc hbw.size _).size)
        go_wp2_with fail
        go_roundw
        case rel => exact ⟨k + 1, by omega, by go_num, by rw [HT.out], b3⟩
        case measure => simp [intOf]; omega
      · have HT := Lib.hid (show sumQ (l.take k) = sumQ l by rw [List.take_of_length_le (by omega)])
        go_wp2_with fail
        go_ret
        exact ⟨by rw [HV.out, ← HT.out]; rfl, hbw⟩

theorem pieces_any (a : Option Addr) (cap : Nat) (l : List Ln) (w : World) (h : LnsP w a cap l) (hm : l.length ≤ maxLen) :
    Calls Try.prog 16 #[.slice a l.length cap] w fun e w' => e = .returned (.int .i64 (piecesV l)) ∧ Below w.heap.size w w' := by
  have C := Lib.hid (piecesSum_any a cap l w h hm)
  clear h
  go_enter Try.func16, Try.ntmps16
  go_wp2_with fail
  refine C.out.mono ?_
  rintro e w1 ⟨rfl, b1⟩
  go_wp2_with fail
  go_ret
  exact ⟨rfl, b1⟩

set_option maxHeartbeats 2000000 in
theorem weightSum_any (a : Option Addr) (cap : Nat) (l : List Ln) (w : World) (h : LnsP w a cap l) (hm : l.length ≤ maxLen) :
    Calls Try.prog 27 #[.slice a l.length cap, .func (.func 28) #[] #[]] w fun e w' => e = .returned (.int .i64 (weightV l)) ∧ Below w.heap.size w w' := by
  have C := Lib.hid (right14_any a cap l w h hm)
  have H := Lib.hid h
  clear h
  unfold maxLen at hm
  cases hr : rightLB l with
  | false =>
    have HV := Lib.hid (show weightV l = 0 by unfold weightV; rw [hr]; rfl)
    rw [hr] at C
    clear hr
    go_enter Try.func27, Try.ntmps27
    go_wp2_with fail
    refine C.out.mono ?_
    rintro e w1 ⟨rfl, b1⟩
    go_wp2_with fail
    go_ret
    exact ⟨by rw [HV.out]; rfl, b1⟩
  | true =>
    have HV := Lib.hid (show weightV l = sumW l by unfold weightV; rw [hr]; rfl)
    have HL := Lib.hid ((rightLB_iff l).1 hr)
    rw [hr] at C
    clear hr
    go_enter Try.func27, Try.ntmps27
    go_wp2_with fail
    refine C.out.mono ?_
    rintro e w1 ⟨rfl, b1⟩
    go_wp2_with fail
    go_loopw [5, 13] (fun s i wr => ∃ (k : Nat), k ≤ l.length ∧ i = .int .i64 k ∧ s = .int .i64 (sumW (l.take k)) ∧ Below w.heap.size w wr) (fun _ i _ => l.length - (intOf i).toNat)
    case atStart => exact ⟨0, Nat.zero_le _, rfl, rfl, b1⟩
    case round =>
      obtain ⟨k, hk, rfl, rfl, hbw⟩ := hrel
      by_cases hlt : k < l.length
      · obtain ⟨b, o, rfl, hb, c1, c2, c3, hsz⟩ := (H.out.below hbw).at k hlt
        have p1 := H.out.cap
        have hb0 := sum_bound (l.take k) (fun x hx => HL.out.2.1 x (List.mem_of_mem_take hx))
        have hlen : (l.take k).length ≤ 8 := by rw [List.length_take]; have := HL.out.1.2; omega
        have hx := HL.out.2.1 _ (List.getElem_mem hlt)
        have hp := prod_bound hx
        have hx2 := lineB_of hx
        have HT := Lib.hid (show sumW (l.take (k + 1)) = sumW (l.take k) + l[k].qty * l[k].wt by rw [List.take_succ_eq_append_getElem hlt, sumW_append, sumW_cons, sumW_nil]; omega)
        have q1 : 0 ≤ sumW (l.take k) := by omega
        have q2 : sumW (l.take k) ≤ 800000000 := by omega
        have q3 : 0 ≤ l[k].qty * l[k].wt := by omega
        have q4 : l[k].qty * l[k].wt ≤ 100000000 := by omega
        have CC := Lib.hid (fun w => weight1_any l[k].sku l[k].qty l[k].wt w q3 q4)
        clear hb0 hlen hx hp hx2
        generalize l[k] = x at *
        generalize sumW (l.take k) = s at *
        go_wp2_with fail
        refine (CC.out _).mono ?_
        rintro e w2 ⟨rfl, b2⟩
        have b3 := (hbw.alloc hbw.size (Obj.cells #[Value.string x.sku, Value.int IntKind.i64 x.qty, Value.int IntKind.i64 x.wt] 27)).trans (b2.mono (hbw.alloc hbw.size _).size)
        go_wp2_with fail
        go_roundw
        case rel => exact ⟨k + 1, by omega, by go_num, by rw [HT.out], b3⟩
        case measure => simp [intOf]; omega
      · have HT := Lib.hid (show sumW (l.take k) = sumW l by rw [List.take_of_length_le (by omega)])
        go_wp2_with fail
        go_ret
        exact ⟨by rw [HV.out, ← HT.out]; rfl, hbw⟩

theorem weight_any (a : Option Addr) (cap : Nat) (l : List Ln) (w : World) (h : LnsP w a cap l) (hm : l.length ≤ maxLen) :
    Calls Try.prog 13 #[.slice a l.length cap] w fun e w' => e = .returned (.int .i64 (weightV l)) ∧ Below w.heap.size w w' := by
  have C := Lib.hid (weightSum_any a cap l w h hm)
  clear h
  go_enter Try.func13, Try.ntmps13
  go_wp2_with fail
  refine C.out.mono ?_
  rintro e w1 ⟨rfl, b1⟩
  go_wp2_with fail
  go_ret
  exact ⟨rfl, b1⟩

end Go.Proofs.Ytijcgioggmphkaa
