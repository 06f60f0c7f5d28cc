/- What Join of package batch answers, at every batch. -/
import Derived.Test.YtieoihmndpkdoaaBtOwn
namespace Go.Proofs.Ytieoihmndpkdoaa
set_option maxRecDepth 100000
open Go.RowKit Go.ChangeShapes Go.WideShapes Go.ChangeAt

/-- A batch and an error's number are answered; all that was there stays. -/
def BtAns (b : Bt) (n : Int) (w : World) (e : Ending) (w' : World) : Prop := ∃ a cap, e = .returned (.tuple #[btV a cap b, .int .i64 n]) ∧ OwnT w' w.heap.size (.slice a b.mem.length cap) b.mem ∧ Below w.heap.size w w'

theorem joinE_closed {b : Bt} {c : Cp} {id : ByteArray} {x : Int} (h : (b.phase != 1) = true) : joinE b c id x = 113 ∧ joinV b c id x = b := by
  have e : joinE b c id x = 113 := by unfold joinE; rw [if_pos (by simpa using h)]
  exact ⟨e, by unfold joinV; rw [e]; rfl⟩
theorem joinE_member {b : Bt} {c : Cp} {id : ByteArray} {x : Int} (h : (b.phase != 1) = false) (h2 : (!rightT id || hasT b.mem id) = true) : joinE b c id x = 112 ∧ joinV b c id x = b := by
  have e : joinE b c id x = 112 := by unfold joinE; rw [if_neg (by simpa using h), if_pos h2]
  exact ⟨e, by unfold joinV; rw [e]; rfl⟩
theorem joinE_full {b : Bt} {c : Cp} {id : ByteArray} {x : Int} (h : (b.phase != 1) = false) (h2 : (!rightT id || hasT b.mem id) = false) (h3 : ((addE b.wt x != 0) || !roomB b c (addV b.wt x)) = true) : joinE b c id x = 111 ∧ joinV b c id x = b := by
  have e : joinE b c id x = 111 := by unfold joinE; rw [if_neg (by simpa using h), if_neg (by rw [h2]; simp), if_pos (by rw [← h3]; congr 1; rw [Bool.eq_iff_iff]; simp)]
  exact ⟨e, by unfold joinV; rw [e]; rfl⟩
theorem joinE_fine {b : Bt} {c : Cp} {id : ByteArray} {x : Int} (h : (b.phase != 1) = false) (h2 : (!rightT id || hasT b.mem id) = false) (h3 : ((addE b.wt x != 0) || !roomB b c (addV b.wt x)) = false) : joinE b c id x = 0 ∧ joinV b c id x = joinD b id x := by
  have e : joinE b c id x = 0 := by unfold joinE; rw [if_neg (by simpa using h), if_neg (by rw [h2]; simp), if_neg (by rw [show (decide (addE b.wt x ≠ 0) || !roomB b c (addV b.wt x)) = false by rw [← h3]; congr 1; rw [Bool.eq_iff_iff]; simp]; simp)]
  exact ⟨e, by unfold joinV; rw [e]; rfl⟩

set_option maxHeartbeats 8000000 in
theorem btJoin_any (a : Option Addr) (cap : Nat) (b : Bt) (c : Cp) (id : ByteArray) (x : Int) (w : World) (h : StrsP w a cap b.mem) (hl : b.mem.length ≤ 10000) (hid : id.size ≤ maxLen) :
    Calls Try.prog 10 #[btV a cap b, cpV c, .string id, .int .i64 x] w (BtAns (joinV b c id x) (joinE b c id x) w) := by
  have CO := Lib.hid (fun W hW => btOwn_any a cap b W hW (by omega))
  have CR := Lib.hid (fun w => show Calls Try.prog 32 #[.string id] w (Tell (rightT id) w) from right_any id w hid)
  have CC := Lib.hid (fun W hW => contains_any a cap b.mem id W hW)
  have CA := Lib.hid (fun w => add_any b.wt x w)
  have CH := Lib.hid (fun s w => room_any a cap b c s w)
  have H := Lib.hid h
  have D0 : Row (w.alloc (.cells (btC a cap b) 28)) w.heap.size 28 (btC a cap b) := heap_alloc_new _ _
  have B1 := (Below.refl (w.alloc (.cells (btC a cap b) 28)).heap.size (w.alloc (.cells (btC a cap b) 28))).alloc (Nat.le_refl _) (.cells #[.int .i64 c.count, .int .i64 c.wt] 23)
  have B2 := (Below.refl ((w.alloc (.cells (btC a cap b) 28)).alloc (.cells #[.int .i64 c.count, .int .i64 c.wt] 23)).heap.size ((w.alloc (.cells (btC a cap b) 28)).alloc (.cells #[.int .i64 c.count, .int .i64 c.wt] 23))).alloc (Nat.le_refl _) (.cells zB 28)
  have R0 : Row (((w.alloc (.cells (btC a cap b) 28)).alloc (.cells #[.int .i64 c.count, .int .i64 c.wt] 23)).alloc (.cells zB 28)) (w.heap.size + 2) 28 zB := by
    have := heap_alloc_new ((w.alloc (.cells (btC a cap b) 28)).alloc (.cells #[.int .i64 c.count, .int .i64 c.wt] 23)) (.cells zB 28)
    rwa [show ((w.alloc (.cells (btC a cap b) 28)).alloc (.cells #[.int .i64 c.count, .int .i64 c.wt] 23)).heap.size = w.heap.size + 2 by simp] at this
  have BB : Below w.heap.size w (((w.alloc (.cells (btC a cap b) 28)).alloc (.cells #[.int .i64 c.count, .int .i64 c.wt] 23)).alloc (.cells zB 28)) := (((Below.refl w.heap.size w).alloc (Nat.le_refl _) _).alloc (by simp) _).alloc (by simp; omega) _
  have DI : Hid (BtI w w.heap.size (w.heap.size + 2) (btC a cap b) zB _) := Lib.hid ⟨(D0.below B1).below B2, R0, BB⟩
  have K0 : Row ((w.alloc (.cells (btC a cap b) 28)).alloc (.cells #[.int .i64 c.count, .int .i64 c.wt] 23)) (w.heap.size + 1) 23 #[.int .i64 c.count, .int .i64 c.wt] := heap_alloc2_new _ _ _
  have K := Lib.hid (K0.below B2)
  clear h D0 B1 B2 R0 BB K0
  unfold btV cpV at *
  unfold btC zB at *
  go_enter Try.func10, Try.ntmps10
  obtain ⟨⟨⟨c0, c1, c2, c3, c4⟩, c5, c6, c7, c8⟩, f⟩ := cellsR9 DI.out.var
  have k0 := K.out.cell 0
  have k1 := K.out.cell 1
  cases h1 : (b.phase != 1) with
  | true =>
    have HE := Lib.hid (joinE_closed (c := c) (id := id) (x := x) h1)
    go_wp2_with fail
    refine (CO.out _ (H.out.below DI.out.low)).mono ?_
    rintro e w9 ⟨a1, p1, rfl, o1, b9⟩
    have D9 := Lib.hid (DI.out.below b9)
    have O9 := Lib.hid (o1.base (base' := w.heap.size + 3) DI.out.res.lt)
    clear c0 c1 c2 c3 c4 c5 c6 c7 c8 f
    clear o1 b9
    go_wp2_with (refine wpList_store_batch rfl _ _ rfl (w.heap.size + 2) a1 p1 b _ (by rfl) rfl rfl D9.out.res ?_)
    (try simp only [Exit.inBlock, Exit.then])
    apply bodyPost_ret
    case hd => rfl
    case hr => exact results_cell_one rfl _ _ (w.heap.size + 2) _ rfl (load9 (b := b) (setRow_heap _ _ _ _ _ _ D9.out.res))
    case hR => exact ⟨a1, p1, by rw [HE.out.1, HE.out.2]; rfl, by rw [HE.out.2]; exact (O9.out.grown fun k h1 h2 => setRow_other _ _ k _ (by omega)).base (by omega), Below.row D9.out.low (by omega) _⟩
  | false =>
    go_wp2_with fail
    refine (CR.out _).mono ?_
    rintro e w1 ⟨rfl, b1⟩
    have D1 := Lib.hid (DI.out.below b1)
    have K1 := Lib.hid (K.out.below b1)
    clear c0 c1 c2 c3 c4 c5 c6 c7 c8 f k0 k1
    clear b1 DI K
    obtain ⟨⟨⟨c0, c1, c2, c3, c4⟩, c5, c6, c7, c8⟩, f⟩ := cellsR9 D1.out.var
    have k0 := K1.out.cell 0
    have k1 := K1.out.cell 1
    cases h2 : rightT id with
    | false =>
      have HE := Lib.hid (joinE_member (c := c) (x := x) h1 (show (!rightT id || hasT b.mem id) = true by rw [h2]; rfl))
      go_wp2_with fail
      refine (CO.out _ (H.out.below D1.out.low)).mono ?_
      rintro e w9 ⟨a1, p1, rfl, o1, b9⟩
      have D9 := Lib.hid (D1.out.below b9)
      have O9 := Lib.hid (o1.base (base' := w.heap.size + 3) D1.out.res.lt)
      clear c0 c1 c2 c3 c4 c5 c6 c7 c8 f
      clear o1 b9
      go_wp2_with (refine wpList_store_batch rfl _ _ rfl (w.heap.size + 2) a1 p1 b _ (by rfl) rfl rfl D9.out.res ?_)
      (try simp only [Exit.inBlock, Exit.then])
      apply bodyPost_ret
      case hd => rfl
      case hr => exact results_cell_one rfl _ _ (w.heap.size + 2) _ rfl (load9 (b := b) (setRow_heap _ _ _ _ _ _ D9.out.res))
      case hR => exact ⟨a1, p1, by rw [HE.out.1, HE.out.2]; rfl, by rw [HE.out.2]; exact (O9.out.grown fun k h1 h2 => setRow_other _ _ k _ (by omega)).base (by omega), Below.row D9.out.low (by omega) _⟩
    | true =>
      go_wp2_with fail
      refine (CC.out _ (H.out.below D1.out.low)).mono ?_
      rintro e w2 ⟨rfl, rfl⟩
      cases h3 : hasT b.mem id with
      | true =>
        have HE := Lib.hid (joinE_member (c := c) (x := x) h1 (show (!rightT id || hasT b.mem id) = true by rw [h2, h3]; rfl))
        go_wp2_with fail
        refine (CO.out _ (H.out.below D1.out.low)).mono ?_
        rintro e w9 ⟨a1, p1, rfl, o1, b9⟩
        have D9 := Lib.hid (D1.out.below b9)
        have O9 := Lib.hid (o1.base (base' := w.heap.size + 3) D1.out.res.lt)
        clear c0 c1 c2 c3 c4 c5 c6 c7 c8 f
        clear o1 b9
        go_wp2_with (refine wpList_store_batch rfl _ _ rfl (w.heap.size + 2) a1 p1 b _ (by rfl) rfl rfl D9.out.res ?_)
        (try simp only [Exit.inBlock, Exit.then])
        apply bodyPost_ret
        case hd => rfl
        case hr => exact results_cell_one rfl _ _ (w.heap.size + 2) _ rfl (load9 (b := b) (setRow_heap _ _ _ _ _ _ D9.out.res))
        case hR => exact ⟨a1, p1, by rw [HE.out.1, HE.out.2]; rfl, by rw [HE.out.2]; exact (O9.out.grown fun k h1 h2 => setRow_other _ _ k _ (by omega)).base (by omega), Below.row D9.out.low (by omega) _⟩
      | false =>
        have h23 := Lib.hid (show (!rightT id || hasT b.mem id) = false by rw [h2, h3]; rfl)
        go_wp2_with fail
        refine (CA.out _).mono ?_
        rintro e w2 ⟨rfl, b2⟩
        have D2 := Lib.hid (D1.out.below b2)
        have K2 := Lib.hid (K1.out.below b2)
        clear c0 c1 c2 c3 c4 c5 c6 c7 c8 f k0 k1
        clear b2 D1 K1 CR CC CA
        obtain ⟨⟨⟨c0, c1, c2, c3, c4⟩, c5, c6, c7, c8⟩, f⟩ := cellsR9 D2.out.var
        have k0 := K2.out.cell 0
        have k1 := K2.out.cell 1
        have HF := Lib.hid (joinE_full (c := c) (x := x) h1 h23.out)
        have HG := Lib.hid (joinE_fine (c := c) (x := x) h1 h23.out)
        have HD := Lib.hid (show joinD b id x = ⟨b.id, addV b.wt x, b.born, b.kind, b.phase, b.car, b.zone, b.serv, b.mem ++ [id]⟩ from rfl)
        generalize addV b.wt x = s at *
        generalize addE b.wt x = er at *
        cases h4 : (er != 0) with
        | true =>
          have HE := Lib.hid (HF.out (show ((er != 0) || !roomB b c s) = true by rw [h4]; rfl))
          go_wp2_with fail
          refine (CO.out _ (H.out.below D2.out.low)).mono ?_
          rintro e w9 ⟨a1, p1, rfl, o1, b9⟩
          have D9 := Lib.hid (D2.out.below b9)
          have O9 := Lib.hid (o1.base (base' := w.heap.size + 3) D2.out.res.lt)
          clear c0 c1 c2 c3 c4 c5 c6 c7 c8 f
          clear o1 b9
          go_wp2_with (refine wpList_store_batch rfl _ _ rfl (w.heap.size + 2) a1 p1 b _ (by rfl) rfl rfl D9.out.res ?_)
          (try simp only [Exit.inBlock, Exit.then])
          apply bodyPost_ret
          case hd => rfl
          case hr => exact results_cell_one rfl _ _ (w.heap.size + 2) _ rfl (load9 (b := b) (setRow_heap _ _ _ _ _ _ D9.out.res))
          case hR => exact ⟨a1, p1, by rw [HE.out.1, HE.out.2]; rfl, by rw [HE.out.2]; exact (O9.out.grown fun k h1 h2 => setRow_other _ _ k _ (by omega)).base (by omega), Below.row D9.out.low (by omega) _⟩
        | false =>
          go_wp2_with fail
          refine (CH.out _ _).mono ?_
          rintro e w3 ⟨rfl, b3⟩
          have D3 := Lib.hid (D2.out.below b3)
          have K3 := Lib.hid (K2.out.below b3)
          clear c0 c1 c2 c3 c4 c5 c6 c7 c8 f k0 k1
          clear b3 D2 K2 CH
          obtain ⟨⟨⟨c0, c1, c2, c3, c4⟩, c5, c6, c7, c8⟩, f⟩ := cellsR9 D3.out.var
          cases h5 : roomB b c s with
          | false =>
            have HE := Lib.hid (HF.out (show ((er != 0) || !roomB b c s) = true by rw [h4, h5]; rfl))
            go_wp2_with fail
            refine (CO.out _ (H.out.below D3.out.low)).mono ?_
            rintro e w9 ⟨a1, p1, rfl, o1, b9⟩
            have D9 := Lib.hid (D3.out.below b9)
            have O9 := Lib.hid (o1.base (base' := w.heap.size + 3) D3.out.res.lt)
            clear c0 c1 c2 c3 c4 c5 c6 c7 c8 f
            clear o1 b9
            go_wp2_with (refine wpList_store_batch rfl _ _ rfl (w.heap.size + 2) a1 p1 b _ (by rfl) rfl rfl D9.out.res ?_)
            (try simp only [Exit.inBlock, Exit.then])
            apply bodyPost_ret
            case hd => rfl
            case hr => exact results_cell_one rfl _ _ (w.heap.size + 2) _ rfl (load9 (b := b) (setRow_heap _ _ _ _ _ _ D9.out.res))
            case hR => exact ⟨a1, p1, by rw [HE.out.1, HE.out.2]; rfl, by rw [HE.out.2]; exact (O9.out.grown fun k h1 h2 => setRow_other _ _ k _ (by omega)).base (by omega), Below.row D9.out.low (by omega) _⟩
          | true =>
            have HE := Lib.hid (HG.out (show ((er != 0) || !roomB b c s) = false by rw [h4, h5]; rfl))
            clear HF HG K3
            obtain ⟨a2, s2, k2⟩ := slice_fullT (a := a) (l := b.mem) H.out.cap (b.mem.length : Int) rfl
            have D4 := Lib.hid (D3.out.set (Nat.le_refl _) (by omega) 1 (.int .i64 s))
            have D5 := Lib.hid (D4.out.below ((Below.refl _ _).alloc (Nat.le_refl _) (.cells #[.string id] 9)))
            have HK := Lib.hid (k2 _ (H.out.below D5.out.low))
            have T5 := Lib.hid (show StrsP ((w3.setCell ⟨w.heap.size, 1, none⟩ (.int .i64 s)).alloc (.cells #[.string id] 9)) (some ⟨w3.heap.size, 0, none⟩) 1 [id] by
              have := strs_block1 (w3.setCell ⟨w.heap.size, 1, none⟩ (.int .i64 s)) id
              rwa [show (w3.setCell ⟨w.heap.size, 1, none⟩ (.int .i64 s)).heap.size = w3.heap.size by simp] at this)
            have hz := D3.out.res.lt
            clear k2
            go_wp2_with (at_builtin; go_must (refine wpList_append_full rfl _ _ rfl b.mem [id] a2 b.mem.length rfl rfl HK.out.1 HK.out.2 _ 1 rfl T5.out (by simp) (by simp; omega) ?_))
            rintro v6 w6 o6 g6
            generalize b.mem ++ [id] = m at *
            obtain ⟨a6, p6, e6⟩ := o6.shape
            subst e6
            obtain ⟨q, hq, bq⟩ := But.grown (B := w.heap.size + 3) g6 (by rintro k hk; cases hk)
            have D6 : Hid (BtI w w.heap.size (w.heap.size + 2) _ _ w6) := Lib.hid ⟨D5.out.var.but bq (by omega), D5.out.res.but bq (by omega), D5.out.low.trans (bq.below (by omega) D5.out.low.size)⟩
            have O6 := Lib.hid (o6.base (base' := w.heap.size + 3) (by omega))
            clear c0 c1 c2 c3 c4 c5 c6 c7 c8 f
            clear o6 g6 bq D3 D4 D5 HK T5
            obtain ⟨⟨⟨c0, c1, c2, c3, c4⟩, c5, c6, c7, c8⟩, f⟩ := cellsR9 D6.out.var
            have D7 := Lib.hid (D6.out.set (Nat.le_refl _) (by omega) 8 (.slice a6 m.length p6))
            have O7 := Lib.hid (O6.out.cell (k := w.heap.size) (by omega) 8 (.slice a6 m.length p6))
            go_wp2_with (refine wpList_store_batch rfl _ _ rfl (w.heap.size + 2) a6 p6 ⟨b.id, s, b.born, b.kind, b.phase, b.car, b.zone, b.serv, m⟩ _ (by rfl) rfl rfl D7.out.res ?_)
            (try simp only [Exit.inBlock, Exit.then])
            apply bodyPost_ret
            case hd => rfl
            case hr => exact results_cell_one rfl _ _ (w.heap.size + 2) _ rfl (load9 (b := ⟨b.id, s, b.born, b.kind, b.phase, b.car, b.zone, b.serv, m⟩) (setRow_heap _ _ _ _ _ _ D7.out.res))
            case hR => exact ⟨a6, p6, by rw [HE.out.1, HE.out.2, HD.out]; rfl, by rw [HE.out.2, HD.out]; exact (O7.out.grown fun k h1 h2 => setRow_other _ _ k _ (by omega)).base (by omega), Below.row D7.out.low (by omega) _⟩

end Go.Proofs.Ytieoihmndpkdoaa
