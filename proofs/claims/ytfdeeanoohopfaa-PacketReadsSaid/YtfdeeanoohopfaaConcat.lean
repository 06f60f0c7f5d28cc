/- What Grow (of nothing) and Concat of package slices answer at bytes. -/
import Derived.Test.YtfdeeanoohopfaaOwn
import Derived.Lib.AppendZeros
namespace Go.Proofs.Ytfdeeanoohopfaa
open Go.ChangeShapes Go.WideShapes Go.ChangeAt Go.RowKit

set_option maxHeartbeats 2000000 in
theorem grow_nil (n : Nat) (w : World) (h0 : 0 < n) (hn : n ≤ 10000000) : Calls Try.prog 32 #[.slice none 0 0, .int .i64 (n : Int)] w (OwnPost [] w) := by
  obtain ⟨i0, hi0, hz0, hzs, hzb⟩ := info_parts Try.info5
  have hr := fun ty => Lib.run_append_nil_zeros (P := Try.prog) w 22 3 ty 5 i0 _ .i64 .i64 Try.underlying22 Try.underlying3 hi0 hz0 n h0 (by omega) (by omega) (by rw [hzb]; omega)
  have hg1 := grownCap_ge w n 0 5
  have hg2 := grownCap_le_maxLen w n 0 5 (by unfold maxLen; omega)
  have hp : (n : Int) > 0 := by omega
  have hneg : ¬ ((n : Int) < 0) := by omega
  have O := Lib.hid (show OwnB (w.drew.alloc (.cells (Builtin.zeroCells (Value.int IntKind.u8 0).cells n ++ Builtin.zeroCells (Value.int IntKind.u8 0).cells (grownCap w n 0 5 - n)) 5)) w.heap.size (.slice (some ⟨w.heap.size, 0, none⟩) 0 (grownCap w n 0 5)) [] from
    World.ownsRow_made w.drew _ _ (Nat.le_refl _) hg2 (by
      rw [Array.size_append, size_zeroCells, size_zeroCells]
      have : (Value.int IntKind.u8 0).cells.size = 1 := rfl
      rw [this]
      omega))
  have B := Lib.hid (show Below w.heap.size w (w.drew.alloc (.cells (Builtin.zeroCells (Value.int IntKind.u8 0).cells n ++ Builtin.zeroCells (Value.int IntKind.u8 0).cells (grownCap w n 0 5 - n)) 5)) from (Below.refl w.heap.size w).drew.alloc (Nat.le_refl _) _)
  generalize w.drew.alloc (.cells (Builtin.zeroCells (Value.int IntKind.u8 0).cells n ++ Builtin.zeroCells (Value.int IntKind.u8 0).cells (grownCap w n 0 5 - n)) 5) = W at *
  generalize grownCap w n 0 5 = G at *
  unfold maxLen at hg2
  have HR := Lib.hid hr
  clear hi0 hz0 hzs hzb hr
  go_enter Try.func32, Try.ntmps32
  go_wp2_with (at_builtin; go_must (refine Lib.wpList_append_run _ rfl _ _ 22 3 rfl _ _ rfl rfl _ _ (HR.out _) ?_))
  go_wp2_with fail
  go_ret
  exact ⟨_, rfl, O.out, B.out⟩

theorem flat_len_drop {ls : List Part} {k : Nat} (h : k < ls.length) : (flat (ls.drop k)).length = ls[k].l.length + (flat (ls.drop (k + 1))).length := by rw [flat_drop h, List.length_append]

set_option maxHeartbeats 4000000 in
theorem concat_any (a : Option Addr) (cap : Nat) (ls : List Part) (w : World) (h : ListsP w a cap ls) (h0 : 0 < (flat ls).length) (hl : (flat ls).length ≤ 1000000) : Calls Try.prog 23 #[.slice a ls.length cap] w (OwnPost (flat ls) w) := by
  have H := Lib.hid h
  have hll := h.len
  clear h
  go_enter Try.func23, Try.ntmps23
  go_wp2_with fail
  go_loop [3, 11] (fun s i => ∃ (k t : Nat), k ≤ ls.length ∧ i = .int .i64 k ∧ s = .int .i64 t ∧ t ≤ (flat ls).length ∧ Hid (t + (flat (ls.drop k)).length = (flat ls).length)) (fun _ i => ls.length - (intOf i).toNat)
  case atStart => exact ⟨0, 0, Nat.zero_le _, rfl, rfl, Nat.zero_le _, Lib.hid (by simp)⟩
  case round =>
    obtain ⟨k, t, hk, rfl, rfl, htl, HT⟩ := hrel
    by_cases hlt : k < ls.length
    · obtain ⟨b1, o1, rfl, q1, r1⟩ := H.out.cell (by intro e; subst e; simp at hlt)
      have g1 := r1 k _ (List.getElem?_eq_getElem hlt)
      have p1 := H.out.cap
      have HN := Lib.hid (show t + ls[k].l.length + (flat (ls.drop (k + 1))).length = (flat ls).length by rw [← HT.out, flat_len_drop hlt]; omega)
      generalize ls[k] = P at *
      have htt : t + P.l.length ≤ (flat ls).length := by have := HN.out; omega
      have htn : ¬ ((t : Int) + (P.l.length : Int) < 0) := by omega
      clear r1
      go_wp2_with fail
      go_round
      case rel => exact ⟨k + 1, t + P.l.length, by omega, by go_num, by go_num, htt, HN⟩
      case measure => simp [intOf]; omega
    · have HE := Lib.hid (show t = (flat ls).length by rw [← HT.out, List.drop_eq_nil_of_le (by omega)]; rfl)
      have C := Lib.hid (grow_nil t w (by rw [HE.out]; exact h0) (by omega))
      go_wp2_with fail
      refine C.out.mono ?_
      rintro e w1 ⟨v1, rfl, o1, b1⟩
      have O1 := Lib.hid o1
      clear o1 C
      go_wp2_with fail
      go_loopw [6, 27] (fun s i wr => ∃ (k : Nat) (acc : List Nat), k ≤ ls.length ∧ i = .int .i64 k ∧ Hid (OwnB wr w.heap.size s acc) ∧ Hid (acc ++ flat (ls.drop k) = flat ls) ∧ acc.length ≤ (flat ls).length ∧ Below w.heap.size w wr) (fun _ i _ => ls.length - (intOf i).toNat)
      case atStart => exact ⟨0, [], Nat.zero_le _, rfl, O1, Lib.hid rfl, by simp, b1⟩
      case round =>
        clear O1 b1 HE HT
        obtain ⟨j, acc, hj, rfl, HO, HS, hac, hbw⟩ := hrel
        by_cases hjl : j < ls.length
        · obtain ⟨b2, o2, rfl, q2, r2⟩ := H.out.cell (by intro e; subst e; simp at hjl)
          have g2 := (hbw.cell (p := ⟨b2, o2 + j, none⟩) q2).trans (r2 j _ (List.getElem?_eq_getElem hjl))
          have p2 := H.out.cap
          have HP := Lib.hid ((H.out.each _ (List.getElem_mem hjl)).below hbw)
          have HN := Lib.hid (show (acc ++ ls[j].l) ++ flat (ls.drop (j + 1)) = flat ls by rw [← HS.out, flat_drop hjl, List.append_assoc])
          generalize ls[j] = P at *
          obtain ⟨pa, pc, l⟩ := P
          simp only at g2 HN
          have HL := Lib.hid (show (acc ++ l).length ≤ (flat ls).length by rw [← HN.out]; simp)
          have hal : acc.length + l.length ≤ 1000000 := by have := HL.out; rw [List.length_append] at this; omega
          have hpl := HP.out.len
          have HP : Hid (BytesP wr pa pc l) := HP
          have hbs := hbw.size
          clear r2
          go_wp2_with (at_builtin; go_must (refine wpList_append_bytes rfl _ _ rfl w.heap.size _ acc l rfl HO.out pa pc rfl HP.out (by omega) hbs ?_))
          rintro v2 w2 o2 g2
          have bw2 := hbw.grown g2 hbs HO.out.row
          have O2 := Lib.hid o2
          clear o2 g2
          go_wp2_with fail
          go_roundw
          case rel => exact ⟨j + 1, acc ++ l, by omega, by go_num, O2, HN, HL.out, bw2⟩
          case measure => simp [intOf]; omega
        · have HE := Lib.hid (show flat ls = acc by rw [← HS.out, List.drop_eq_nil_of_le (by omega)]; exact List.append_nil _)
          go_wp2_with fail
          go_ret
          exact ⟨_, rfl, by rw [HE.out]; exact HO.out, hbw⟩

end Go.Proofs.Ytfdeeanoohopfaa
