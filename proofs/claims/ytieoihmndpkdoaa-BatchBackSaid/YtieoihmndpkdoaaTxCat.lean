/- What Grow (of nothing) and Concat of package slices answer at texts. -/
import Derived.Test.YtieoihmndpkdoaaTxMem
import Derived.Lib.AppendZeros
import Derived.Lib.Hide
import Derived.WalkSpells
namespace Go.Proofs.Ytieoihmndpkdoaa
set_option maxRecDepth 100000
open Go.ChangeShapes Go.WideShapes Go.ChangeAt Go.RowKit

/-- Texts in memory of the call's own are answered; all that was there stays. -/
def OwnTs (l : List ByteArray) (w : World) (e : Ending) (w' : World) : Prop := ∃ v, e = .returned v ∧ OwnT w' w.heap.size v l ∧ Below w.heap.size w w'

set_option maxHeartbeats 2000000 in
theorem growT_none (w : World) : Calls Try.prog 61 #[.slice none 0 0, .int .i64 0] w (OwnTs [] w) := by
  go_enter Try.func61, Try.ntmps61
  go_wp2_with fail
  go_ret
  exact ⟨_, rfl, OwnT.nil _ _, Below.refl _ _⟩

set_option maxHeartbeats 2000000 in
theorem growT_nil (n : Nat) (w : World) (h0 : 0 < n) (hn : n ≤ 1000000) : Calls Try.prog 61 #[.slice none 0 0, .int .i64 (n : Int)] w (OwnTs [] w) := by
  obtain ⟨i0, hi0, hz0, hzs, hzb⟩ := info_parts Try.infoT
  have hr := fun ty => Lib.run_append_nil_zeros (P := Try.prog) w 26 3 ty 9 i0 _ .i64 .i64 Try.underlying26 Try.underlying3 hi0 hz0 n h0 (by omega) (by omega) (by rw [hzb]; omega)
  have hg1 := grownCap_ge w n 0 9
  have hg2 := grownCap_le_maxLen w n 0 9 (by unfold maxLen; omega)
  have hp : (n : Int) > 0 := by omega
  have hneg : ¬ ((n : Int) < 0) := by omega
  have O := Lib.hid (show OwnT (w.drew.alloc (.cells (Builtin.zeroCells (Value.string ByteArray.empty).cells n ++ Builtin.zeroCells (Value.string ByteArray.empty).cells (grownCap w n 0 9 - n)) 9)) w.heap.size (.slice (some ⟨w.heap.size, 0, none⟩) 0 (grownCap w n 0 9)) [] from
    World.ownsRow_made w.drew _ _ (Nat.le_refl _) hg2 (by
      rw [Array.size_append, size_zeroCells, size_zeroCells]
      have : (Value.string ByteArray.empty).cells.size = 1 := rfl
      rw [this]
      omega))
  have B := Lib.hid (show Below w.heap.size w (w.drew.alloc (.cells (Builtin.zeroCells (Value.string ByteArray.empty).cells n ++ Builtin.zeroCells (Value.string ByteArray.empty).cells (grownCap w n 0 9 - n)) 9)) from (Below.refl w.heap.size w).drew.alloc (Nat.le_refl _) _)
  generalize w.drew.alloc (.cells (Builtin.zeroCells (Value.string ByteArray.empty).cells n ++ Builtin.zeroCells (Value.string ByteArray.empty).cells (grownCap w n 0 9 - n)) 9) = W at *
  generalize grownCap w n 0 9 = G at *
  unfold maxLen at hg2
  have HR := Lib.hid hr
  clear hi0 hz0 hzs hzb hr
  go_enter Try.func61, Try.ntmps61
  go_wp2_with (at_builtin; go_must (refine Lib.wpList_append_run _ rfl _ _ 26 3 rfl _ _ rfl rfl _ _ (HR.out _) ?_))
  go_wp2_with fail
  go_ret
  exact ⟨_, rfl, O.out, B.out⟩

theorem growT_any (n : Nat) (w : World) (hn : n ≤ 1000000) : Calls Try.prog 61 #[.slice none 0 0, .int .i64 (n : Int)] w (OwnTs [] w) := by
  rcases Nat.eq_zero_or_pos n with rfl | h
  · exact growT_none w
  · exact growT_nil n w h hn

/-- A slice of texts among slices. -/
structure PartT where
  a : Option Addr
  cap : Nat
  l : List ByteArray
def flatT (ls : List PartT) : List ByteArray := (ls.map PartT.l).flatten
theorem flatT_drop {ls : List PartT} {k : Nat} (h : k < ls.length) : flatT (ls.drop k) = ls[k].l ++ flatT (ls.drop (k + 1)) := by
  unfold flatT
  rw [List.drop_eq_getElem_cons h, List.map_cons, List.flatten_cons]
theorem flatT_len_drop {ls : List PartT} {k : Nat} (h : k < ls.length) : (flatT (ls.drop k)).length = ls[k].l.length + (flatT (ls.drop (k + 1))).length := by rw [flatT_drop h, List.length_append]

/-- A slice reads as these slices. -/
structure ListsT (w : World) (a : Option Addr) (cap : Nat) (ls : List PartT) : Prop where
  cap : ls.length ≤ cap
  len : ls.length ≤ 9223372036854775807
  each : ∀ p ∈ ls, StrsP w p.a p.cap p.l
  cell : ls ≠ [] → ∃ b o, a = some ⟨b, o, none⟩ ∧ b < w.heap.size ∧ ∀ (j : Nat) (p : PartT), ls[j]? = some p → w.cell? ⟨b, o + j, none⟩ = some (.slice p.a p.l.length p.cap)

theorem listsT_two {W : World} {a b : Option Addr} {ca cb : Nat} {l m : List ByteArray} (h : StrsP W a ca l) (k : StrsP W b cb m) (T : TypeId) : ListsT (W.alloc (.cells #[.slice a l.length ca, .slice b m.length cb] T)) (some ⟨W.heap.size, 0, none⟩) 2 [⟨a, ca, l⟩, ⟨b, cb, m⟩] := by
  have hb : Below W.heap.size W (W.alloc (.cells #[.slice a l.length ca, .slice b m.length cb] T)) := (Below.refl _ _).alloc (Nat.le_refl _) _
  refine ⟨by simp, by simp, fun p hp => ?_, fun _ => ⟨_, _, rfl, by simp, fun j p hj => ?_⟩⟩
  · simp only [List.mem_cons, List.not_mem_nil, or_false] at hp
    rcases hp with rfl | rfl
    · exact h.below hb
    · exact k.below hb
  · match j, hj with
    | 0, hj => simp at hj; subst hj; simp
    | 1, hj => simp at hj; subst hj; simp
    | _ + 2, hj => simp at hj

set_option maxHeartbeats 4000000 in
theorem concatT_any (a : Option Addr) (cap : Nat) (ls : List PartT) (w : World) (h : ListsT w a cap ls) (hl : (flatT ls).length ≤ 100000) : Calls Try.prog 38 #[.slice a ls.length cap] w (OwnTs (flatT ls) w) := by
  have H := Lib.hid h
  have hll := h.len
  clear h
  go_enter Try.func38, Try.ntmps38
  go_wp2_with fail
  go_loop [3, 11] (fun s i => ∃ (k t : Nat), k ≤ ls.length ∧ i = .int .i64 k ∧ s = .int .i64 t ∧ t ≤ (flatT ls).length ∧ Hid (t + (flatT (ls.drop k)).length = (flatT ls).length)) (fun _ i => ls.length - (intOf i).toNat)
  case atStart => exact ⟨0, 0, Nat.zero_le _, rfl, rfl, Nat.zero_le _, Lib.hid (by simp)⟩
  case round =>
    obtain ⟨k, t, hk, rfl, rfl, htl, HT⟩ := hrel
    by_cases hlt : k < ls.length
    · obtain ⟨b1, o1, rfl, q1, r1⟩ := H.out.cell (by intro e; subst e; simp at hlt)
      have g1 := r1 k _ (List.getElem?_eq_getElem hlt)
      have p1 := H.out.cap
      have HN := Lib.hid (show t + ls[k].l.length + (flatT (ls.drop (k + 1))).length = (flatT ls).length by rw [← HT.out, flatT_len_drop hlt]; omega)
      generalize ls[k] = P at *
      have htt : t + P.l.length ≤ (flatT ls).length := by have := HN.out; omega
      have htn : ¬ ((t : Int) + (P.l.length : Int) < 0) := by omega
      clear r1
      go_wp2_with fail
      go_round
      case rel => exact ⟨k + 1, t + P.l.length, by omega, by go_num, by go_num, htt, HN⟩
      case measure => simp [intOf]; omega
    · have HE := Lib.hid (show t = (flatT ls).length by rw [← HT.out, List.drop_eq_nil_of_le (by omega)]; rfl)
      have C := Lib.hid (growT_any t w (by omega))
      go_wp2_with fail
      refine C.out.mono ?_
      rintro e w1 ⟨v1, rfl, o1, b1⟩
      have O1 := Lib.hid o1
      clear o1 C
      go_wp2_with fail
      go_loopw [6, 27] (fun s i wr => ∃ (k : Nat) (acc : List ByteArray), k ≤ ls.length ∧ i = .int .i64 k ∧ Hid (OwnT wr w.heap.size s acc) ∧ Hid (acc ++ flatT (ls.drop k) = flatT ls) ∧ acc.length ≤ (flatT ls).length ∧ Below w.heap.size w wr) (fun _ i _ => ls.length - (intOf i).toNat)
      case atStart => exact ⟨0, [], Nat.zero_le _, rfl, O1, Lib.hid rfl, by simp, b1⟩
      case round =>
        clear O1 b1 HE HT
        obtain ⟨j, acc, hj, rfl, HO, HS, hac, hbw⟩ := hrel
        by_cases hjl : j < ls.length
        · obtain ⟨b2, o2, rfl, q2, r2⟩ := H.out.cell (by intro e; subst e; simp at hjl)
          have g2 := (hbw.cell (p := ⟨b2, o2 + j, none⟩) q2).trans (r2 j _ (List.getElem?_eq_getElem hjl))
          have p2 := H.out.cap
          have HP := Lib.hid ((H.out.each _ (List.getElem_mem hjl)).below hbw)
          have HN := Lib.hid (show (acc ++ ls[j].l) ++ flatT (ls.drop (j + 1)) = flatT ls by rw [← HS.out, flatT_drop hjl, List.append_assoc])
          generalize ls[j] = P at *
          obtain ⟨pa, pc, l⟩ := P
          simp only at g2 HN
          have HL := Lib.hid (show (acc ++ l).length ≤ (flatT ls).length by rw [← HN.out]; simp)
          have hal : acc.length + l.length ≤ 1000000 := by have := HL.out; rw [List.length_append] at this; omega
          have hpl := HP.out.len
          have HP : Hid (StrsP wr pa pc l) := HP
          have hbs := hbw.size
          clear r2
          go_wp2_with (at_builtin; go_must (refine wpList_append_texts rfl _ _ rfl w.heap.size _ acc l rfl HO.out pa pc rfl HP.out (by omega) hbs ?_))
          rintro v2 w2 o2 g2
          have bw2 := hbw.grown g2 hbs HO.out.row
          have O2 := Lib.hid o2
          clear o2 g2
          go_wp2_with fail
          go_roundw
          case rel => exact ⟨j + 1, acc ++ l, by omega, by go_num, O2, HN, HL.out, bw2⟩
          case measure => simp [intOf]; omega
        · have HE := Lib.hid (show flatT ls = acc by rw [← HS.out, List.drop_eq_nil_of_le (by omega)]; exact List.append_nil _)
          go_wp2_with fail
          go_ret
          exact ⟨_, rfl, by rw [HE.out]; exact HO.out, hbw⟩

end Go.Proofs.Ytieoihmndpkdoaa
