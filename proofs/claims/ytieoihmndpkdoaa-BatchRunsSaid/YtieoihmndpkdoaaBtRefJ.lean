/- What the document's Has, Join and Evict of batches answer. -/
import Derived.Test.YtieoihmndpkdoaaBtEvict
import Derived.Deep.CutBlock
namespace Go.Proofs.Ytieoihmndpkdoaa
set_option maxRecDepth 100000
open Go.RowKit Go.ChangeShapes Go.WideShapes Go.ChangeAt

/-- A batch is answered, its members where they were or in memory of the call's own; all that was there stays. -/
def BtRAns (a0 : Option Addr) (b0 b : Bt) (n : Int) (w : World) (e : Ending) (w' : World) : Prop := ∃ a cap, e = .returned (.tuple #[btV a cap b, .int .i64 n]) ∧ ((a = a0 ∧ b = b0 ∧ StrsP w' a cap b.mem) ∨ OwnT w' w.heap.size (.slice a b.mem.length cap) b.mem) ∧ Below w.heap.size w w'

theorem hasT_step (l : List ByteArray) (x : ByteArray) {k : Nat} (h : k < l.length) : hasT (l.drop k) x = ((l[k].toList == x.toList) || hasT (l.drop (k + 1)) x) := by
  rw [List.drop_eq_getElem_cons h]; rfl

set_option maxHeartbeats 4000000 in
theorem refHas_any (a : Option Addr) (cap : Nat) (b : Bt) (id : ByteArray) (w : World) (h : StrsP w a cap b.mem) : Calls Try.prog 49 #[btV a cap b, .string id] w (Tell (hasT b.mem id) w) := by
  have B := Lib.hid ((Below.refl w.heap.size w).alloc (Nat.le_refl _) (Obj.cells (btC a cap b) 28))
  have H := Lib.hid (h.below B.out)
  have hl := h.len
  clear h
  unfold btV
  unfold btC at *
  go_enter Try.func49, Try.ntmps49
  go_wp2_with fail
  generalize w.alloc (Obj.cells #[Value.int IntKind.i64 b.id, Value.int IntKind.i64 b.wt, Value.int IntKind.i64 b.born, Value.int IntKind.i64 b.kind, Value.int IntKind.i64 b.phase, Value.string b.car, Value.string b.zone, Value.string b.serv, Value.slice a b.mem.length cap] 28) = W at *
  go_loop [10] (fun i => ∃ k : Nat, k ≤ b.mem.length ∧ i = .int .i64 k ∧ Hid (hasT b.mem id = hasT (b.mem.drop k) id)) (fun i => b.mem.length - (intOf i).toNat)
  case atStart => exact ⟨0, Nat.zero_le _, rfl, Lib.hid rfl⟩
  case round =>
    obtain ⟨k, hk, rfl, HK⟩ := hrel
    by_cases hlt : k < b.mem.length
    · obtain ⟨bb, oo, rfl, q1, g1⟩ := H.out.at k hlt
      have p1 := H.out.cap
      have HS := Lib.hid (hasT_step b.mem id hlt)
      generalize b.mem[k] = y at *
      cases hy : (y.toList == id.toList) with
      | true =>
        have HE := Lib.hid (show hasT b.mem id = true by rw [HK.out, HS.out, hy]; rfl)
        go_wp2_with fail
        go_ret
        exact ⟨by rw [HE.out]; rfl, B.out⟩
      | false =>
        have HE := Lib.hid (show hasT b.mem id = hasT (b.mem.drop (k + 1)) id by rw [HK.out, HS.out, hy]; rfl)
        go_wp2_with fail
        go_round
        case rel => exact ⟨k + 1, by omega, by go_num, HE⟩
        case measure => simp [intOf]; omega
    · have HE := Lib.hid (show hasT b.mem id = false by rw [HK.out, List.drop_eq_nil_of_le (by omega)]; rfl)
      go_wp2_with fail
      go_ret
      exact ⟨by rw [HE.out]; rfl, B.out⟩

/-- The document's test for room, in its own words. -/
def fewB (m : Nat) (c : Cp) (s : Int) : Bool := decide (0 < m) && ((((m : Int) == c.count) || decide (c.count < (m : Int))) || decide (c.wt < s))
theorem few_room (b : Bt) (c : Cp) (s : Int) : (!roomB b c s) = fewB b.mem.length c s := by
  unfold roomB fewB
  rw [Bool.eq_iff_iff]
  simp only [Bool.not_eq_true', Bool.or_eq_false_iff, Bool.and_eq_false_iff, decide_eq_false_iff_not, Bool.and_eq_true, Bool.or_eq_true, decide_eq_true_eq, beq_iff_eq]
  omega
theorem addE_ref {p q : Int} (hp : tallyB p = true) (hq : tallyB q = true) : (addE p q != 0) = decide (1000000000000 < p + q) ∧ (¬ 1000000000000 < p + q → addV p q = p + q) := by
  unfold addE addV
  rw [hp, hq]
  simp only [Bool.and_self, Bool.true_and, decide_eq_true_eq]
  by_cases h : p + q ≤ 1000000000000
  · rw [if_pos h, if_pos h]; exact ⟨by rw [decide_eq_false (by omega)]; rfl, fun _ => rfl⟩
  · rw [if_neg h, if_neg h]; exact ⟨by rw [decide_eq_true (by omega)]; rfl, fun h2 => absurd (by omega) h2⟩

set_option maxHeartbeats 8000000 in
theorem refBtJoin_any (a : Option Addr) (cap : Nat) (b : Bt) (c : Cp) (id : ByteArray) (x : Int) (w : World) (h : StrsP w a cap b.mem) (hl : b.mem.length ≤ 10000) (hid : id.size ≤ maxLen) (hb : tallyB b.wt = true) (hx : tallyB x = true) :
    Calls Try.prog 22 #[btV a cap b, cpV c, .string id, .int .i64 x] w (BtRAns a b (joinV b c id x) (joinE b c id x) w) := by
  have CR := Lib.hid (fun w => show Calls Try.prog 46 #[.string id] w (Tell (rightT id) w) from refRight_any id w hid)
  have CC := Lib.hid (fun W hW => refHas_any a cap b id W hW)
  have H := Lib.hid h
  have D0 : Row (w.alloc (.cells (btC a cap b) 28)) w.heap.size 28 (btC a cap b) := heap_alloc_new _ _
  have B1 := (Below.refl (w.alloc (.cells (btC a cap b) 28)).heap.size (w.alloc (.cells (btC a cap b) 28))).alloc (Nat.le_refl _) (.cells #[.int .i64 c.count, .int .i64 c.wt] 23)
  have B2 := (Below.refl ((w.alloc (.cells (btC a cap b) 28)).alloc (.cells #[.int .i64 c.count, .int .i64 c.wt] 23)).heap.size ((w.alloc (.cells (btC a cap b) 28)).alloc (.cells #[.int .i64 c.count, .int .i64 c.wt] 23))).alloc (Nat.le_refl _) (.cells zB 28)
  have R0 : Row (((w.alloc (.cells (btC a cap b) 28)).alloc (.cells #[.int .i64 c.count, .int .i64 c.wt] 23)).alloc (.cells zB 28)) (w.heap.size + 2) 28 zB := by
    have := heap_alloc_new ((w.alloc (.cells (btC a cap b) 28)).alloc (.cells #[.int .i64 c.count, .int .i64 c.wt] 23)) (.cells zB 28)
    rwa [show ((w.alloc (.cells (btC a cap b) 28)).alloc (.cells #[.int .i64 c.count, .int .i64 c.wt] 23)).heap.size = w.heap.size + 2 by simp] at this
  have BB : Below w.heap.size w (((w.alloc (.cells (btC a cap b) 28)).alloc (.cells #[.int .i64 c.count, .int .i64 c.wt] 23)).alloc (.cells zB 28)) := (((Below.refl w.heap.size w).alloc (Nat.le_refl _) _).alloc (by simp) _).alloc (by simp; omega) _
  have DI : Hid (BtI w w.heap.size (w.heap.size + 2) (btC a cap b) zB _) := Lib.hid ⟨(D0.below B1).below B2, R0, BB⟩
  have K0 : Row ((w.alloc (.cells (btC a cap b) 28)).alloc (.cells #[.int .i64 c.count, .int .i64 c.wt] 23)) (w.heap.size + 1) 23 #[.int .i64 c.count, .int .i64 c.wt] := heap_alloc2_new _ _ _
  have K := Lib.hid (K0.below B2)
  obtain ⟨ha1, ha2⟩ := addE_ref hb hx
  have HA1 := Lib.hid ha1
  have HA2 := Lib.hid ha2
  obtain ⟨b0, b1⟩ := (tallyB_iff _).1 hb
  obtain ⟨x0, x1⟩ := (tallyB_iff _).1 hx
  have hw1 : IntKind.i64.wrap (b.wt + x) = b.wt + x := by rw [IntKind.wrap_i64]; omega
  clear h D0 B1 B2 R0 BB K0 ha1 ha2 hb hx
  unfold btV cpV at *
  unfold btC zB at *
  go_enter Try.func22, Try.ntmps22
  obtain ⟨⟨⟨c0, c1, c2, c3, c4⟩, c5, c6, c7, c8⟩, f⟩ := cellsR9 DI.out.var
  have k0 := K.out.cell 0
  have k1 := K.out.cell 1
  cases h1 : (b.phase != 1) with
  | true =>
    have HE := Lib.hid (joinE_closed (c := c) (id := id) (x := x) h1)
    go_wp2_with (refine wpList_store_batch rfl _ _ rfl (w.heap.size + 2) a cap b _ (by rfl) rfl rfl DI.out.res ?_)
    (try simp only [Exit.inBlock, Exit.then])
    apply bodyPost_ret
    case hd => rfl
    case hr => exact results_cell_one rfl _ _ (w.heap.size + 2) _ rfl (load9 (b := b) (setRow_heap _ _ _ _ _ _ DI.out.res))
    case hR => exact ⟨a, cap, by rw [HE.out.1, HE.out.2]; rfl, by rw [HE.out.2]; exact .inl ⟨rfl, rfl, H.out.below (Below.row DI.out.low (by omega) _)⟩, Below.row DI.out.low (by omega) _⟩
  | false =>
    go_wp2_with fail
    refine (CR.out _).mono ?_
    rintro e w1 ⟨rfl, b1⟩
    have D1 := Lib.hid (DI.out.below b1)
    have K1 := Lib.hid (K.out.below b1)
    clear c0 c1 c2 c3 c4 c5 c6 c7 c8 f k0 k1
    clear b1 DI K
    obtain ⟨⟨⟨c0, c1, c2, c3, c4⟩, c5, c6, c7, c8⟩, f⟩ := cellsR9 D1.out.var
    have k0 := K1.out.cell 0
    have k1 := K1.out.cell 1
    cases h2 : rightT id with
    | false =>
      have HE := Lib.hid (joinE_member (c := c) (x := x) h1 (show (!rightT id || hasT b.mem id) = true by rw [h2]; rfl))
      go_wp2_with (refine wpList_store_batch rfl _ _ rfl (w.heap.size + 2) a cap b _ (by rfl) rfl rfl D1.out.res ?_)
      (try simp only [Exit.inBlock, Exit.then])
      apply bodyPost_ret
      case hd => rfl
      case hr => exact results_cell_one rfl _ _ (w.heap.size + 2) _ rfl (load9 (b := b) (setRow_heap _ _ _ _ _ _ D1.out.res))
      case hR => exact ⟨a, cap, by rw [HE.out.1, HE.out.2]; rfl, by rw [HE.out.2]; exact .inl ⟨rfl, rfl, H.out.below (Below.row D1.out.low (by omega) _)⟩, Below.row D1.out.low (by omega) _⟩
    | true =>
      go_wp2_with fail
      refine (CC.out _ (H.out.below D1.out.low)).mono ?_
      rintro e w2 ⟨rfl, b2⟩
      have D2 := Lib.hid (D1.out.below b2)
      have K2 := Lib.hid (K1.out.below b2)
      clear c0 c1 c2 c3 c4 c5 c6 c7 c8 f k0 k1
      clear b2 D1 K1 CR CC
      obtain ⟨⟨⟨c0, c1, c2, c3, c4⟩, c5, c6, c7, c8⟩, f⟩ := cellsR9 D2.out.var
      have k0 := K2.out.cell 0
      have k1 := K2.out.cell 1
      cases h3 : hasT b.mem id with
      | true =>
        have HE := Lib.hid (joinE_member (c := c) (x := x) h1 (show (!rightT id || hasT b.mem id) = true by rw [h2, h3]; rfl))
        go_wp2_with (refine wpList_store_batch rfl _ _ rfl (w.heap.size + 2) a cap b _ (by rfl) rfl rfl D2.out.res ?_)
        (try simp only [Exit.inBlock, Exit.then])
        apply bodyPost_ret
        case hd => rfl
        case hr => exact results_cell_one rfl _ _ (w.heap.size + 2) _ rfl (load9 (b := b) (setRow_heap _ _ _ _ _ _ D2.out.res))
        case hR => exact ⟨a, cap, by rw [HE.out.1, HE.out.2]; rfl, by rw [HE.out.2]; exact .inl ⟨rfl, rfl, H.out.below (Below.row D2.out.low (by omega) _)⟩, Below.row D2.out.low (by omega) _⟩
      | false =>
        have h23 := Lib.hid (show (!rightT id || hasT b.mem id) = false by rw [h2, h3]; rfl)
        have HF := Lib.hid (joinE_full (c := c) (x := x) h1 h23.out)
        have HG := Lib.hid (joinE_fine (c := c) (x := x) h1 h23.out)
        cases h4 : decide (1000000000000 < b.wt + x) with
        | true =>
          have HE := Lib.hid (HF.out (show ((addE b.wt x != 0) || !roomB b c (addV b.wt x)) = true by rw [HA1.out, h4]; rfl))
          go_wp2_with (refine wpList_store_batch rfl _ _ rfl (w.heap.size + 2) a cap b _ (by rfl) rfl rfl D2.out.res ?_)
          (try simp only [Exit.inBlock, Exit.then])
          apply bodyPost_ret
          case hd => rfl
          case hr => exact results_cell_one rfl _ _ (w.heap.size + 2) _ rfl (load9 (b := b) (setRow_heap _ _ _ _ _ _ D2.out.res))
          case hR => exact ⟨a, cap, by rw [HE.out.1, HE.out.2]; rfl, by rw [HE.out.2]; exact .inl ⟨rfl, rfl, H.out.below (Below.row D2.out.low (by omega) _)⟩, Below.row D2.out.low (by omega) _⟩
        | false =>
          have hs := HA2.out (by simpa using h4)
          have HR := Lib.hid (show ((addE b.wt x != 0) || !roomB b c (addV b.wt x)) = (decide (0 < b.mem.length) && ((((b.mem.length : Int) == c.count) || decide (c.count < (b.mem.length : Int))) || decide (c.wt < b.wt + x))) by rw [HA1.out, h4, hs, few_room]; rfl)
          have HS := Lib.hid hs
          clear hs
          by_cases q0 : 0 < b.mem.length
          rotate_left
          · have q0d := decide_eq_false q0
            go_upto_if 57 with fail
            have HE := Lib.hid (HG.out (by simp only [HR.out, q0d, Bool.false_and]))
            clear HF HG HR
            have HD := Lib.hid (show joinD b id x = ⟨b.id, b.wt + x, b.born, b.kind, b.phase, b.car, b.zone, b.serv, b.mem ++ [id]⟩ by unfold joinD; rw [HS.out])
            have hz := D2.out.res.lt
            have D3 := Lib.hid (D2.out.below ((Below.refl _ _).alloc (Nat.le_refl _) (.cells #[] 9)))
            have O3 := Lib.hid (OwnT.fresh w2 (w.heap.size + 3) (by omega))
            have hz3 := D3.out.res.lt
            have hlt2 : w.heap.size < w2.heap.size := by omega
            have d8 := D3.out.var.cell 8
            have HK := Lib.hid (H.out.below D3.out.low)
            go_wp2_with (at_builtin; go_must (refine wpList_append_texts rfl _ _ rfl (w.heap.size + 3) (.slice (some ⟨w2.heap.size, 0, none⟩) 0 0) [] b.mem rfl O3.out a cap rfl HK.out (by simp; omega) hz3 ?_))
            rintro v4 w4 o4 g4
            obtain ⟨q, hq, bq⟩ := But.grown g4 O3.out.row
            have D4 : Hid (BtI w w.heap.size (w.heap.size + 2) _ _ w4) := Lib.hid ⟨D3.out.var.but bq (by omega), D3.out.res.but bq (by omega), D3.out.low.trans (bq.below (by omega) D3.out.low.size)⟩
            have D5 := Lib.hid (D4.out.below ((Below.refl _ _).alloc (Nat.le_refl _) (.cells #[.string id] 9)))
            have O5 := Lib.hid (o4.below ((Below.refl _ _).alloc (Nat.le_refl _) (.cells #[.string id] 9)))
            have T5 := Lib.hid (strs_block1 w4 id)
            have hz5 := D5.out.res.lt
            clear c0 c1 c2 c3 c4 c5 c6 c7 c8 f
            clear o4 g4 bq D2 D3 O3 HK k0 k1 K2
            obtain ⟨⟨⟨c0, c1, c2, c3, c4⟩, c5, c6, c7, c8⟩, f⟩ := cellsR9 D4.out.var
            clear D4
            go_wp2_with (at_builtin; go_must (refine wpList_append_texts rfl _ _ rfl (w.heap.size + 3) v4 b.mem [id] rfl O5.out _ 1 rfl T5.out (by simp; omega) hz5 ?_))
            rintro v6 w6 o6 g6
            generalize b.mem ++ [id] = m at *
            obtain ⟨a6, p6, e6⟩ := o6.shape
            subst e6
            obtain ⟨q2, hq2, bq2⟩ := But.grown g6 O5.out.row
            have D6 : Hid (BtI w w.heap.size (w.heap.size + 2) _ _ w6) := Lib.hid ⟨D5.out.var.but bq2 (by omega), D5.out.res.but bq2 (by omega), D5.out.low.trans (bq2.below (by omega) D5.out.low.size)⟩
            have O6 := Lib.hid o6
            clear c0 c1 c2 c3 c4 c5 c6 c7 c8 f
            clear o6 g6 bq2 D5 O5 T5
            obtain ⟨⟨⟨c0, c1, c2, c3, c4⟩, c5, c6, c7, c8⟩, f⟩ := cellsR9 D6.out.var
            have D7 := Lib.hid ((D6.out.set (Nat.le_refl _) (by omega) 8 (.slice a6 m.length p6)).set (Nat.le_refl _) (by omega) 1 (.int .i64 (b.wt + x)))
            have O7 := Lib.hid ((O6.out.cell (k := w.heap.size) (by omega) 8 (.slice a6 m.length p6)).cell (k := w.heap.size) (by omega) 1 (.int .i64 (b.wt + x)))
            go_wp2_with (refine wpList_store_batch rfl _ _ rfl (w.heap.size + 2) a6 p6 ⟨b.id, b.wt + x, b.born, b.kind, b.phase, b.car, b.zone, b.serv, m⟩ _ (by rfl) rfl rfl D7.out.res ?_)
            (try simp only [Exit.inBlock, Exit.then])
            apply bodyPost_ret
            case hd => rfl
            case hr => exact results_cell_one rfl _ _ (w.heap.size + 2) _ rfl (load9 (b := ⟨b.id, b.wt + x, b.born, b.kind, b.phase, b.car, b.zone, b.serv, m⟩) (setRow_heap _ _ _ _ _ _ D7.out.res))
            case hR => exact ⟨a6, p6, by rw [HE.out.1, HE.out.2, HD.out]; rfl, by rw [HE.out.2, HD.out]; exact .inr ((O7.out.grown fun k h1 h2 => setRow_other _ _ k _ (by omega)).base (by omega)), Below.row D7.out.low (by omega) _⟩
          · have q0d := Lib.hid (decide_eq_true q0)
            cases q1 : ((b.mem.length : Int) == c.count) with
            | true =>
              go_upto_if 57 with fail
              have HE := Lib.hid (HF.out (by simp only [HR.out, q0d.out, q1, Bool.true_or, Bool.true_and]))
              go_wp2_with (refine wpList_store_batch rfl _ _ rfl (w.heap.size + 2) a cap b _ (by rfl) rfl rfl D2.out.res ?_)
              (try simp only [Exit.inBlock, Exit.then])
              apply bodyPost_ret
              case hd => rfl
              case hr => exact results_cell_one rfl _ _ (w.heap.size + 2) _ rfl (load9 (b := b) (setRow_heap _ _ _ _ _ _ D2.out.res))
              case hR => exact ⟨a, cap, by rw [HE.out.1, HE.out.2]; rfl, by rw [HE.out.2]; exact .inl ⟨rfl, rfl, H.out.below (Below.row D2.out.low (by omega) _)⟩, Below.row D2.out.low (by omega) _⟩
            | false =>
              cases q2 : decide (c.count < (b.mem.length : Int)) with
              | true =>
                go_upto_if 57 with fail
                have HE := Lib.hid (HF.out (by simp only [HR.out, q0d.out, q1, q2, Bool.true_or, Bool.or_true, Bool.true_and]))
                go_wp2_with (refine wpList_store_batch rfl _ _ rfl (w.heap.size + 2) a cap b _ (by rfl) rfl rfl D2.out.res ?_)
                (try simp only [Exit.inBlock, Exit.then])
                apply bodyPost_ret
                case hd => rfl
                case hr => exact results_cell_one rfl _ _ (w.heap.size + 2) _ rfl (load9 (b := b) (setRow_heap _ _ _ _ _ _ D2.out.res))
                case hR => exact ⟨a, cap, by rw [HE.out.1, HE.out.2]; rfl, by rw [HE.out.2]; exact .inl ⟨rfl, rfl, H.out.below (Below.row D2.out.low (by omega) _)⟩, Below.row D2.out.low (by omega) _⟩
              | false =>
                cases q3 : decide (c.wt < b.wt + x) with
                | true =>
                  go_upto_if 57 with fail
                  have HE := Lib.hid (HF.out (by simp only [HR.out, q0d.out, q1, q2, q3, Bool.or_true, Bool.true_and, Bool.false_or]))
                  go_wp2_with (refine wpList_store_batch rfl _ _ rfl (w.heap.size + 2) a cap b _ (by rfl) rfl rfl D2.out.res ?_)
                  (try simp only [Exit.inBlock, Exit.then])
                  apply bodyPost_ret
                  case hd => rfl
                  case hr => exact results_cell_one rfl _ _ (w.heap.size + 2) _ rfl (load9 (b := b) (setRow_heap _ _ _ _ _ _ D2.out.res))
                  case hR => exact ⟨a, cap, by rw [HE.out.1, HE.out.2]; rfl, by rw [HE.out.2]; exact .inl ⟨rfl, rfl, H.out.below (Below.row D2.out.low (by omega) _)⟩, Below.row D2.out.low (by omega) _⟩
                | false =>
                  go_upto_if 57 with fail
                  have HE := Lib.hid (HG.out (by simp only [HR.out, q0d.out, q1, q2, q3, Bool.true_and, Bool.or_false]))
                  clear HF HG HR
                  have HD := Lib.hid (show joinD b id x = ⟨b.id, b.wt + x, b.born, b.kind, b.phase, b.car, b.zone, b.serv, b.mem ++ [id]⟩ by unfold joinD; rw [HS.out])
                  have hz := D2.out.res.lt
                  have D3 := Lib.hid (D2.out.below ((Below.refl _ _).alloc (Nat.le_refl _) (.cells #[] 9)))
                  have O3 := Lib.hid (OwnT.fresh w2 (w.heap.size + 3) (by omega))
                  have hz3 := D3.out.res.lt
                  have hlt2 : w.heap.size < w2.heap.size := by omega
                  have d8 := D3.out.var.cell 8
                  have HK := Lib.hid (H.out.below D3.out.low)
                  go_wp2_with (at_builtin; go_must (refine wpList_append_texts rfl _ _ rfl (w.heap.size + 3) (.slice (some ⟨w2.heap.size, 0, none⟩) 0 0) [] b.mem rfl O3.out a cap rfl HK.out (by simp; omega) hz3 ?_))
                  rintro v4 w4 o4 g4
                  obtain ⟨q, hq, bq⟩ := But.grown g4 O3.out.row
                  have D4 : Hid (BtI w w.heap.size (w.heap.size + 2) _ _ w4) := Lib.hid ⟨D3.out.var.but bq (by omega), D3.out.res.but bq (by omega), D3.out.low.trans (bq.below (by omega) D3.out.low.size)⟩
                  have D5 := Lib.hid (D4.out.below ((Below.refl _ _).alloc (Nat.le_refl _) (.cells #[.string id] 9)))
                  have O5 := Lib.hid (o4.below ((Below.refl _ _).alloc (Nat.le_refl _) (.cells #[.string id] 9)))
                  have T5 := Lib.hid (strs_block1 w4 id)
                  have hz5 := D5.out.res.lt
                  clear c0 c1 c2 c3 c4 c5 c6 c7 c8 f
                  clear o4 g4 bq D2 D3 O3 HK k0 k1 K2
                  obtain ⟨⟨⟨c0, c1, c2, c3, c4⟩, c5, c6, c7, c8⟩, f⟩ := cellsR9 D4.out.var
                  clear D4
                  go_wp2_with (at_builtin; go_must (refine wpList_append_texts rfl _ _ rfl (w.heap.size + 3) v4 b.mem [id] rfl O5.out _ 1 rfl T5.out (by simp; omega) hz5 ?_))
                  rintro v6 w6 o6 g6
                  generalize b.mem ++ [id] = m at *
                  obtain ⟨a6, p6, e6⟩ := o6.shape
                  subst e6
                  obtain ⟨q2, hq2, bq2⟩ := But.grown g6 O5.out.row
                  have D6 : Hid (BtI w w.heap.size (w.heap.size + 2) _ _ w6) := Lib.hid ⟨D5.out.var.but bq2 (by omega), D5.out.res.but bq2 (by omega), D5.out.low.trans (bq2.below (by omega) D5.out.low.size)⟩
                  have O6 := Lib.hid o6
                  clear c0 c1 c2 c3 c4 c5 c6 c7 c8 f
                  clear o6 g6 bq2 D5 O5 T5
                  obtain ⟨⟨⟨c0, c1, c2, c3, c4⟩, c5, c6, c7, c8⟩, f⟩ := cellsR9 D6.out.var
                  have D7 := Lib.hid ((D6.out.set (Nat.le_refl _) (by omega) 8 (.slice a6 m.length p6)).set (Nat.le_refl _) (by omega) 1 (.int .i64 (b.wt + x)))
                  have O7 := Lib.hid ((O6.out.cell (k := w.heap.size) (by omega) 8 (.slice a6 m.length p6)).cell (k := w.heap.size) (by omega) 1 (.int .i64 (b.wt + x)))
                  go_wp2_with (refine wpList_store_batch rfl _ _ rfl (w.heap.size + 2) a6 p6 ⟨b.id, b.wt + x, b.born, b.kind, b.phase, b.car, b.zone, b.serv, m⟩ _ (by rfl) rfl rfl D7.out.res ?_)
                  (try simp only [Exit.inBlock, Exit.then])
                  apply bodyPost_ret
                  case hd => rfl
                  case hr => exact results_cell_one rfl _ _ (w.heap.size + 2) _ rfl (load9 (b := ⟨b.id, b.wt + x, b.born, b.kind, b.phase, b.car, b.zone, b.serv, m⟩) (setRow_heap _ _ _ _ _ _ D7.out.res))
                  case hR => exact ⟨a6, p6, by rw [HE.out.1, HE.out.2, HD.out]; rfl, by rw [HE.out.2, HD.out]; exact .inr ((O7.out.grown fun k h1 h2 => setRow_other _ _ k _ (by omega)).base (by omega)), Below.row D7.out.low (by omega) _⟩

end Go.Proofs.Ytieoihmndpkdoaa
