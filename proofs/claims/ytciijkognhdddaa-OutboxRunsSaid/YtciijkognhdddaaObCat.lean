/- What Grow (of nothing) and Concat of package slices answer at effects. -/
import Derived.Test.YtciijkognhdddaaSlCat
import Derived.Test.YtciijkognhdddaaObLay
import Derived.Lib.AppendZeros
import Derived.Lib.Hide
import Derived.WalkSpells
namespace Go.Proofs.Ytciijkognhdddaa
set_option maxRecDepth 100000
open Go.ChangeShapes Go.WideShapes Go.ChangeAt Go.RowKit

set_option maxHeartbeats 2000000 in
theorem growE_none (w : World) : Calls Try.prog 52 #[.slice none 0 0, .int .i64 0] w (OwnSs LE [] w) := by
  go_enter Try.func52, Try.ntmps52
  go_wp2_with fail
  go_ret
  exact ⟨_, rfl, OwnS.nil _ _, Below.refl _ _⟩

set_option maxHeartbeats 2000000 in
theorem growE_nil (n : Nat) (w : World) (h0 : 0 < n) (hn : n ≤ 10000000) : Calls Try.prog 52 #[.slice none 0 0, .int .i64 (n : Int)] w (OwnSs LE [] w) := by
  obtain ⟨i0, hi0, hz0, hzs, hzb⟩ := info_parts LE_ok.info
  have hr := fun ty => Lib.run_append_nil_zeros (P := Try.prog) w 22 3 ty 27 i0 _ .i64 .i64 Try.underlying22 Try.underlying3 hi0 hz0 n h0 (by rw [hzs]; decide) (by omega) (by rw [hzb]; show n * 56 ≤ _; omega)
  have hg1 := grownCap_ge w n 0 27
  have hg2 := grownCap_le_maxLen w n 0 27 (by unfold maxLen; omega)
  have hp : (n : Int) > 0 := by omega
  have hneg : ¬ ((n : Int) < 0) := by omega
  have hr : ∀ ty, (Builtin.append_ #[22, 3] ty #[.slice none 0 0, .int .i64 (n : Int)]).run Try.prog w = .ok (.slice (some ⟨w.heap.size, 0, none⟩) n (grownCap w n 0 27)) (w.drew.alloc (.cells (Builtin.zeroCells (efV noEf).cells n ++ Builtin.zeroCells (efV noEf).cells (grownCap w n 0 27 - n)) 27)) := hr
  have O := Lib.hid (show OwnS LE (w.drew.alloc (.cells (Builtin.zeroCells (efV noEf).cells n ++ Builtin.zeroCells (efV noEf).cells (grownCap w n 0 27 - n)) 27)) w.heap.size (.slice (some ⟨w.heap.size, 0, none⟩) 0 (grownCap w n 0 27)) [] from
    World.ownsRow_made w.drew _ _ (Nat.le_refl _) hg2 (by
      rw [Array.size_append, size_zeroCells, size_zeroCells]
      have : (efV noEf).cells.size = 6 := rfl
      rw [this]
      show _ = _ * 6
      omega))
  have B := Lib.hid (show Below w.heap.size w (w.drew.alloc (.cells (Builtin.zeroCells (efV noEf).cells n ++ Builtin.zeroCells (efV noEf).cells (grownCap w n 0 27 - n)) 27)) from (Below.refl w.heap.size w).drew.alloc (Nat.le_refl _) _)
  generalize w.drew.alloc (.cells (Builtin.zeroCells (efV noEf).cells n ++ Builtin.zeroCells (efV noEf).cells (grownCap w n 0 27 - n)) 27) = W at *
  generalize grownCap w n 0 27 = G at *
  unfold maxLen at hg2
  have HR := Lib.hid hr
  clear hi0 hz0 hzs hzb hr
  go_enter Try.func52, Try.ntmps52
  go_wp2_with (at_builtin; go_must (refine Lib.wpList_append_run _ rfl _ _ 22 3 rfl _ _ rfl rfl _ _ (HR.out _) ?_))
  go_wp2_with fail
  go_ret
  exact ⟨_, rfl, O.out, B.out⟩

theorem growE_any (n : Nat) (w : World) (hn : n ≤ 10000000) : Calls Try.prog 52 #[.slice none 0 0, .int .i64 (n : Int)] w (OwnSs LE [] w) := by
  rcases Nat.eq_zero_or_pos n with rfl | h
  · exact growE_none w
  · exact growE_nil n w h hn

set_option maxHeartbeats 4000000 in
theorem concatE_any (a : Option Addr) (cap : Nat) (ls : List (PartS Ef)) (w : World) (h : ListsS LE w a cap ls) (hl : (flatS ls).length ≤ 1000000) : Calls Try.prog 34 #[.slice a ls.length cap] w (OwnSs LE (flatS ls) w) := by
  have H := Lib.hid h
  have hll := h.len
  clear h
  go_enter Try.func34, Try.ntmps34
  go_wp2_with fail
  go_loop [3, 11] (fun s i => ∃ (k t : Nat), k ≤ ls.length ∧ i = .int .i64 k ∧ s = .int .i64 t ∧ t ≤ (flatS ls).length ∧ Hid (t + (flatS (ls.drop k)).length = (flatS ls).length)) (fun _ i => ls.length - (intOf i).toNat)
  case atStart => exact ⟨0, 0, Nat.zero_le _, rfl, rfl, Nat.zero_le _, Lib.hid (by simp)⟩
  case round =>
    obtain ⟨k, t, hk, rfl, rfl, htl, HT⟩ := hrel
    by_cases hlt : k < ls.length
    · obtain ⟨b1, o1, rfl, q1, r1⟩ := H.out.cell (by intro e; subst e; simp at hlt)
      have g1 := r1 k _ (List.getElem?_eq_getElem hlt)
      have p1 := H.out.cap
      have HN := Lib.hid (show t + ls[k].l.length + (flatS (ls.drop (k + 1))).length = (flatS ls).length by rw [← HT.out, flatS_len_drop hlt]; omega)
      generalize ls[k] = P at *
      have htt : t + P.l.length ≤ (flatS ls).length := by have := HN.out; omega
      have htn : ¬ ((t : Int) + (P.l.length : Int) < 0) := by omega
      clear r1
      go_wp2_with fail
      go_round
      case rel => exact ⟨k + 1, t + P.l.length, by omega, by go_num, by go_num, htt, HN⟩
      case measure => simp [intOf]; omega
    · have HE := Lib.hid (show t = (flatS ls).length by rw [← HT.out, List.drop_eq_nil_of_le (by omega)]; rfl)
      have C := Lib.hid (growE_any t w (by omega))
      go_wp2_with fail
      refine C.out.mono ?_
      rintro e w1 ⟨v1, rfl, o1, b1⟩
      have O1 := Lib.hid o1
      clear o1 C
      go_wp2_with fail
      go_loopw [6, 27] (fun s i wr => ∃ (k : Nat) (acc : List Ef), k ≤ ls.length ∧ i = .int .i64 k ∧ Hid (OwnS LE wr w.heap.size s acc) ∧ Hid (acc ++ flatS (ls.drop k) = flatS ls) ∧ acc.length ≤ (flatS ls).length ∧ Below w.heap.size w wr) (fun _ i _ => ls.length - (intOf i).toNat)
      case atStart => exact ⟨0, [], Nat.zero_le _, rfl, O1, Lib.hid rfl, by simp, b1⟩
      case round =>
        clear O1 b1 HE HT
        obtain ⟨j, acc, hj, rfl, HO, HS, hac, hbw⟩ := hrel
        by_cases hjl : j < ls.length
        · obtain ⟨b2, o2, rfl, q2, r2⟩ := H.out.cell (by intro e; subst e; simp at hjl)
          have g2 := (hbw.cell (p := ⟨b2, o2 + j, none⟩) q2).trans (r2 j _ (List.getElem?_eq_getElem hjl))
          have p2 := H.out.cap
          have HP := Lib.hid ((H.out.each _ (List.getElem_mem hjl)).below hbw)
          have HN := Lib.hid (show (acc ++ ls[j].l) ++ flatS (ls.drop (j + 1)) = flatS ls by rw [← HS.out, flatS_drop hjl, List.append_assoc])
          generalize ls[j] = P at *
          obtain ⟨pa, pc, l⟩ := P
          simp only at g2 HN
          have HL := Lib.hid (show (acc ++ l).length ≤ (flatS ls).length by rw [← HN.out]; simp)
          have hal : acc.length + l.length ≤ 10000000 := by have := HL.out; rw [List.length_append] at this; omega
          have hpl := HP.out.len
          have HP : Hid (SlP LE wr pa pc l) := HP
          have hbs := hbw.size
          clear r2
          go_wp2_with (at_builtin; go_must (refine wpList_append_sl LE_ok rfl _ _ rfl w.heap.size _ acc l rfl HO.out pa pc rfl HP.out (by omega) hbs ?_))
          rintro v2 w2 o2 g2
          have bw2 := hbw.grown g2 hbs HO.out.row
          have O2 := Lib.hid o2
          clear o2 g2
          go_wp2_with fail
          go_roundw
          case rel => exact ⟨j + 1, acc ++ l, by omega, by go_num, O2, HN, HL.out, bw2⟩
          case measure => simp [intOf]; omega
        · have HE := Lib.hid (show flatS ls = acc by rw [← HS.out, List.drop_eq_nil_of_le (by omega)]; exact List.append_nil _)
          go_wp2_with fail
          go_ret
          exact ⟨_, rfl, by rw [HE.out]; exact HO.out, hbw⟩

end Go.Proofs.Ytciijkognhdddaa
