/- What the document's Evict of batches answers, at every batch whose weight is a tally. -/
import Derived.Test.YtieoihmndpkdoaaBtRefJ
namespace Go.Proofs.Ytieoihmndpkdoaa
set_option maxRecDepth 100000
open Go.RowKit Go.ChangeShapes Go.WideShapes Go.ChangeAt

theorem dropT_take (l : List ByteArray) (x : ByteArray) {k : Nat} (h : k < l.length) : dropT (l.take (k + 1)) x = dropT (l.take k) x ++ (if (l[k].toList == x.toList) then [] else [l[k]]) := by
  unfold dropT
  rw [List.take_succ_eq_append_getElem h, List.filter_append]
  congr 1
  cases e : (l[k].toList == x.toList) <;> simp [List.filter, e]
theorem lessV_ref {p q : Int} (hp : tallyB p = true) (hq : tallyB q = true) : lessV p q = if p < q then 0 else p - q := by
  unfold lessV
  rw [hp, hq]
  by_cases h : p < q
  · rw [if_pos h, decide_eq_false (by omega)]; rfl
  · rw [if_neg h, decide_eq_true (by omega)]; rfl

set_option maxHeartbeats 8000000 in
theorem refBtEvict_any (a : Option Addr) (cap : Nat) (b : Bt) (id : ByteArray) (x : Int) (w : World) (h : StrsP w a cap b.mem) (hl : b.mem.length ≤ 10000) (hb : tallyB b.wt = true) (hx : tallyB x = true) :
    Calls Try.prog 23 #[btV a cap b, .string id, .int .i64 x] w (BtRAns a b (evictV b id x) (evictE b id) w) := by
  have CC := Lib.hid (fun W hW => refHas_any a cap b id W hW)
  have H := Lib.hid h
  have DI := Lib.hid (BtI.new w (btC a cap b) zB)
  have HA := Lib.hid (lessV_ref hb hx)
  obtain ⟨b0, b1⟩ := (tallyB_iff _).1 hb
  obtain ⟨x0, x1⟩ := (tallyB_iff _).1 hx
  have hcp := h.cap
  clear h hb hx
  unfold btV at *
  unfold btC zB at *
  go_enter Try.func23, Try.ntmps23
  obtain ⟨⟨⟨c0, c1, c2, c3, c4⟩, c5, c6, c7, c8⟩, f⟩ := cellsR9 DI.out.var
  cases h1 : (b.phase != 1) with
  | true =>
    have HE := Lib.hid (evictE_closed (id := id) (x := x) h1)
    go_wp2_with (refine wpList_store_batch rfl _ _ rfl (w.heap.size + 1) a cap b _ (by rfl) rfl rfl DI.out.res ?_)
    (try simp only [Exit.inBlock, Exit.then])
    apply bodyPost_ret
    case hd => rfl
    case hr => exact results_cell_one rfl _ _ (w.heap.size + 1) _ rfl (load9 (b := b) (setRow_heap _ _ _ _ _ _ DI.out.res))
    case hR => exact ⟨a, cap, by rw [HE.out.1, HE.out.2]; rfl, by rw [HE.out.2]; exact .inl ⟨rfl, rfl, H.out.below (Below.row DI.out.low (by omega) _)⟩, Below.row DI.out.low (by omega) _⟩
  | false =>
    go_wp2_with fail
    refine (CC.out _ (H.out.below DI.out.low)).mono ?_
    rintro e w2 ⟨rfl, b2⟩
    have D2 := Lib.hid (DI.out.below b2)
    clear c0 c1 c2 c3 c4 c5 c6 c7 c8 f
    clear b2 DI CC
    obtain ⟨⟨⟨c0, c1, c2, c3, c4⟩, c5, c6, c7, c8⟩, f⟩ := cellsR9 D2.out.var
    cases h3 : hasT b.mem id with
    | false =>
      have HE := Lib.hid (evictE_none (x := x) h1 h3)
      go_wp2_with (refine wpList_store_batch rfl _ _ rfl (w.heap.size + 1) a cap b _ (by rfl) rfl rfl D2.out.res ?_)
      (try simp only [Exit.inBlock, Exit.then])
      apply bodyPost_ret
      case hd => rfl
      case hr => exact results_cell_one rfl _ _ (w.heap.size + 1) _ rfl (load9 (b := b) (setRow_heap _ _ _ _ _ _ D2.out.res))
      case hR => exact ⟨a, cap, by rw [HE.out.1, HE.out.2]; rfl, by rw [HE.out.2]; exact .inl ⟨rfl, rfl, H.out.below (Below.row D2.out.low (by omega) _)⟩, Below.row D2.out.low (by omega) _⟩
    | true =>
      have HE := Lib.hid (evictE_fine (x := x) h1 h3)
      have hz := D2.out.res.lt
      have D3 := Lib.hid (D2.out.below ((Below.refl _ _).alloc (Nat.le_refl _) (.cells #[] 9)))
      have O3 := Lib.hid (OwnT.fresh w2 (w.heap.size + 2) (by omega))
      have hlt2 : w.heap.size < w2.heap.size := by omega
      have d8 := D3.out.var.cell 8
      clear c0 c1 c2 c3 c4 c5 c6 c7 c8 f
      go_wp2_with fail
      clear d8 D2
      go_loopw [8, 24] (fun v i wr => ∃ (k : Nat), k ≤ b.mem.length ∧ i = .int .i64 k ∧ Hid (BtI w w.heap.size (w.heap.size + 1) #[Value.int IntKind.i64 b.id, Value.int IntKind.i64 b.wt, Value.int IntKind.i64 b.born, Value.int IntKind.i64 b.kind, Value.int IntKind.i64 b.phase, Value.string b.car, Value.string b.zone, Value.string b.serv, Value.slice a b.mem.length cap] #[.int .i64 0, .int .i64 0, .int .i64 0, .int .i64 0, .int .i64 0, .string ⟨#[]⟩, .string ⟨#[]⟩, .string ⟨#[]⟩, .slice none 0 0] wr) ∧ Hid (OwnT wr (w.heap.size + 2) v (dropT (b.mem.take k) id))) (fun _ i _ => b.mem.length - (intOf i).toNat)
      case atStart => exact ⟨0, Nat.zero_le _, rfl, D3, O3⟩
      case round =>
        clear D3 O3
        obtain ⟨k, hk, rfl, DR, OR⟩ := hrel
        by_cases hlt : k < b.mem.length
        · have HP := Lib.hid (H.out.below DR.out.low)
          obtain ⟨bb, oo, rfl, q1, g1⟩ := HP.out.at k hlt
          have HS := Lib.hid (dropT_take b.mem id hlt)
          have hln : (dropT (b.mem.take k) id).length ≤ 10000 := Nat.le_trans (List.length_filter_le _ _) (by rw [List.length_take]; omega)
          generalize b.mem[k] = y at *
          cases hy : (y.toList == id.toList) with
          | true =>
            have e9 : dropT (b.mem.take (k + 1)) id = dropT (b.mem.take k) id := by rw [HS.out, hy, if_pos rfl, List.append_nil]
            have ON := OR
            rw [← e9] at ON
            clear e9 OR
            go_wp2_with fail
            go_roundw
            case rel => exact ⟨k + 1, by omega, by go_num, DR, ON⟩
            case measure => simp [intOf]; omega
          | false =>
            rw [hy] at HS
            have HS2 := Lib.hid (show dropT (b.mem.take (k + 1)) id = dropT (b.mem.take k) id ++ [y] from HS.out)
            clear HS
            generalize dropT (b.mem.take k) id = acc at *
            have D5 := Lib.hid (DR.out.below ((Below.refl _ _).alloc (Nat.le_refl _) (.cells #[.string y] 9)))
            have O5 := Lib.hid (OR.out.below ((Below.refl _ _).alloc (Nat.le_refl _) (.cells #[.string y] 9)))
            have T5 := Lib.hid (strs_block1 wr y)
            have hz5 := D5.out.res.lt
            go_wp2_with (at_builtin; go_must (refine wpList_append_texts rfl _ _ rfl (w.heap.size + 2) _ acc [y] rfl O5.out _ 1 rfl T5.out (by simp; omega) hz5 ?_))
            rintro v6 w6 o6 g6
            obtain ⟨q2, hq2, bq2⟩ := But.grown g6 O5.out.row
            have D6 : Hid (BtI w w.heap.size (w.heap.size + 1) _ _ w6) := Lib.hid ⟨D5.out.var.but bq2 (by omega), D5.out.res.but bq2 (by omega), D5.out.low.trans (bq2.below (by omega) D5.out.low.size)⟩
            have O6 := Lib.hid o6
            rw [← HS2.out] at O6
            clear g6 o6 bq2 D5 O5 T5
            go_wp2_with fail
            go_roundw
            case rel => exact ⟨k + 1, by omega, by go_num, D6, O6⟩
            case measure => simp [intOf]; omega
        · have ek : b.mem.take k = b.mem := List.take_of_length_le (by omega)
          rw [ek] at OR
          have HD := Lib.hid (show evictD b id x = ⟨b.id, if b.wt < x then 0 else b.wt - x, b.born, b.kind, b.phase, b.car, b.zone, b.serv, dropT b.mem id⟩ by unfold evictD; rw [HA.out])
          generalize dropT b.mem id = m at *
          obtain ⟨a6, p6, e6⟩ := OR.out.shape
          subst e6
          clear HA ek
          obtain ⟨⟨⟨c0, c1, c2, c3, c4⟩, c5, c6, c7, c8⟩, f⟩ := cellsR9 DR.out.var
          by_cases hc : b.wt < x
          · rw [if_pos hc] at HD
            have D7 := Lib.hid ((DR.out.set (Nat.le_refl _) (by omega) 8 (.slice a6 m.length p6)).set (Nat.le_refl _) (by omega) 1 (.int .i64 0))
            have O7 := Lib.hid ((OR.out.cell (k := w.heap.size) (by omega) 8 (.slice a6 m.length p6)).cell (k := w.heap.size) (by omega) 1 (.int .i64 0))
            go_wp2_with (refine wpList_store_batch rfl _ _ rfl (w.heap.size + 1) a6 p6 ⟨b.id, 0, b.born, b.kind, b.phase, b.car, b.zone, b.serv, m⟩ _ (by rfl) rfl rfl D7.out.res ?_)
            (try simp only [Exit.inBlock, Exit.then])
            apply bodyPost_ret
            case hd => rfl
            case hr => exact results_cell_one rfl _ _ (w.heap.size + 1) _ rfl (load9 (b := ⟨b.id, 0, b.born, b.kind, b.phase, b.car, b.zone, b.serv, m⟩) (setRow_heap _ _ _ _ _ _ D7.out.res))
            case hR => exact ⟨a6, p6, by rw [HE.out.1, HE.out.2, HD.out]; rfl, by rw [HE.out.2, HD.out]; exact .inr ((O7.out.grown fun k h1 h2 => setRow_other _ _ k _ (by omega)).base (by omega)), Below.row D7.out.low (by omega) _⟩
          · rw [if_neg hc] at HD
            have hw2 : IntKind.i64.wrap (b.wt - x) = b.wt - x := by rw [IntKind.wrap_i64]; omega
            have D7 := Lib.hid ((DR.out.set (Nat.le_refl _) (by omega) 8 (.slice a6 m.length p6)).set (Nat.le_refl _) (by omega) 1 (.int .i64 (b.wt - x)))
            have O7 := Lib.hid ((OR.out.cell (k := w.heap.size) (by omega) 8 (.slice a6 m.length p6)).cell (k := w.heap.size) (by omega) 1 (.int .i64 (b.wt - x)))
            go_wp2_with (refine wpList_store_batch rfl _ _ rfl (w.heap.size + 1) a6 p6 ⟨b.id, b.wt - x, b.born, b.kind, b.phase, b.car, b.zone, b.serv, m⟩ _ (by rfl) rfl rfl D7.out.res ?_)
            (try simp only [Exit.inBlock, Exit.then])
            apply bodyPost_ret
            case hd => rfl
            case hr => exact results_cell_one rfl _ _ (w.heap.size + 1) _ rfl (load9 (b := ⟨b.id, b.wt - x, b.born, b.kind, b.phase, b.car, b.zone, b.serv, m⟩) (setRow_heap _ _ _ _ _ _ D7.out.res))
            case hR => exact ⟨a6, p6, by rw [HE.out.1, HE.out.2, HD.out]; rfl, by rw [HE.out.2, HD.out]; exact .inr ((O7.out.grown fun k h1 h2 => setRow_other _ _ k _ (by omega)).base (by omega)), Below.row D7.out.low (by omega) _⟩

end Go.Proofs.Ytieoihmndpkdoaa
