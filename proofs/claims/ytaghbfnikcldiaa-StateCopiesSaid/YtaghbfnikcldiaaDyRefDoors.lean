/- What the document's Doors answers. -/
import Derived.Test.YtaghbfnikcldiaaDyDoors
namespace Go.Proofs.Ytaghbfnikcldiaa
set_option maxRecDepth 100000
open Go.RowKit

theorem below_new (w : World) (o : Obj) : Below w.heap.size w (w.alloc o) := (Below.refl _ _).alloc (Nat.le_refl _) o
theorem Try.info3 : (Try.prog.info? 3).map (fun i => (i.zero, i.size, i.bytes)) = some (some (.int .i64 0), 1, 8) := by kernel_rfl

theorem own_empty (w : World) : OwnI (w.alloc (.cells #[] 3)) w.heap.size (.slice (some ⟨w.heap.size, 0, none⟩) 0 0) [] := 
  ⟨rfl, .inr ⟨w.heap.size, 0, #[], rfl, Nat.le_refl _, heap_alloc_new w _, by simp, by unfold maxLen; omega, rfl, rfl⟩⟩

theorem OwnI.block {w : World} {base : Nat} {v : Value} {ls : List Int} (h : OwnI w base v ls) : ∀ k, v.ownBlock = some k → base ≤ k := by
  intro k hk
  rcases h.2 with ⟨rfl, _⟩ | ⟨g, cap, cur, rfl, h1, _⟩
  · simp [Value.ownBlock] at hk
  · simp [Value.ownBlock] at hk
    omega

theorem doors_none (l : List Int) (h : l.all doorB = false) : doorsV l = [] ∧ doorsE l = 31 := by
  have := doorsV_bad h
  exact ⟨this, by unfold doorsE; rw [this]; rfl⟩

theorem doors_some {l : List Int} (h : l.all doorB = true) (hne : 0 < l.length) : doorsV l = ticksOf l 96 ∧ doorsE l = 0 := by
  have h1 := doorsV_good h
  refine ⟨h1, ?_⟩
  unfold doorsE
  rw [h1]
  have hm : l[0] ∈ ticksOf l 96 := mem_ticksOf.2 ⟨List.getElem_mem hne, by have := all_door.1 h _ (List.getElem_mem hne); exact ⟨this.1, by simpa using this.2⟩⟩
  have : ticksOf l 96 ≠ [] := fun e => by rw [e] at hm; simp at hm
  rw [if_neg (by simpa using this)]

set_option maxHeartbeats 4000000 in
theorem refDoors_any (a : Option Addr) (cap : Nat) (l : List Int) (w : World) (h : IntsP w a cap l) (hm : l.length ≤ maxLen) :
    Calls Try.prog 21 #[.slice a l.length cap] w (Doored l w) := by
  obtain ⟨i0, hi, hz0, hz1, hz2⟩ := info_parts Try.info3
  have H := Lib.hid h
  clear h
  unfold maxLen at hm
  go_enter Try.func21, Try.ntmps21
  go_wp2_with fail
  go_loopw [4, 5] (fun s i wr => ∃ (n : Nat), n ≤ 96 ∧ i = .int .i64 n ∧ Hid (OwnI wr w.heap.size s (ticksOf l n)) ∧ Below w.heap.size w wr) (fun _ i _ => 96 - (intOf i).toNat)
  case atStart => exact ⟨0, by omega, rfl, Lib.hid (own_empty w), below_new w _⟩
  case round =>
    obtain ⟨n, hn, rfl, HO, hbw⟩ := hrel
    obtain ⟨a2, c2, e2, -⟩ := HO.out.ints
    subst e2
    have hlen := ticksOf_len l n
    by_cases hlt : n < 96
    · have HT := Lib.hid (ticksOf_succ l n)
      go_wp2_with fail
      go_loopw [4, 17] (fun s i wi => ∃ (k : Nat), k ≤ l.length ∧ i = .int .i64 k ∧ s = .slice a2 (ticksOf l n).length c2 ∧ Hid (l.contains (n : Int) = (l.drop k).contains (n : Int)) ∧ Below wr.heap.size wr wi) (fun _ i _ => l.length - (intOf i).toNat)
      case atStart => exact ⟨0, Nat.zero_le _, rfl, rfl, Lib.hid rfl, Below.refl _ _⟩
      case round =>
        obtain ⟨k, hk, rfl, rfl, HS, hbi⟩ := hrel
        by_cases hkl : k < l.length
        · have hne : l ≠ [] := by intro e; subst e; simp at hkl
          have hb2 := hbw.trans (hbi.mono hbw.size)
          obtain ⟨b1, o1, rfl, q1, r1⟩ := (H.out.below hb2).cell hne
          have g1 := r1 k _ (List.getElem?_eq_getElem hkl)
          have p1 := H.out.cap
          have HD := Lib.hid (List.drop_eq_getElem_cons hkl)
          generalize l[k] = x at *
          clear r1 hne
          cases hx : (x == (n : Int)) with
          | true =>
            have HN := Lib.hid (show ticksOf l (n + 1) = ticksOf l n ++ [(n : Int)] by
              rw [HT.out, HS.out, HD.out, List.contains_cons]
              simp at hx
              simp [hx])
            have HO2 := Lib.hid (HO.out.below hbi)
            go_wp2_with (at_builtin; go_must (refine wpList_append_own _ rfl _ _ 24 rfl w.heap.size 3 i0 (.int .i64 0) 1 8 Try.underlying24 hi hz0 hz1 hz2 rfl (by decide) _ _ _ rfl (HO2.out.below (below_new _ _)) ⟨wr.heap.size, 0, none⟩ 1 1 [.int .i64 n] rfl rfl (cell_one_new _ _ _) (fun x hx => by simp at hx; subst hx; rfl) (by unfold maxLen; omega) (by omega) (by have := hb2.size; simp; omega) ?_; intro v' w3 hown' hgrow3 hnil3))
            have b3 := Below.grown (hb2.alloc hb2.size _) hgrow3 (by have := hb2.size; simp; omega) HO2.out.block
            have HO3 := Lib.hid (show OwnI w3 w.heap.size v' (ticksOf l (n + 1)) by
              unfold OwnI
              rw [HN.out]
              simpa using hown')
            clear hown' hgrow3 hnil3
            go_wp2_with fail
            go_roundw
            case rel => exact ⟨n + 1, by omega, by go_num, HO3, b3⟩
            case measure => simp [intOf]; omega
          | false =>
            have HN := Lib.hid (show l.contains (n : Int) = (l.drop (k + 1)).contains (n : Int) by
              rw [HS.out, HD.out, List.contains_cons]
              have hx2 : ((n : Int) == x) = false := by simp at hx ⊢; omega
              rw [hx2]; rfl)
            go_wp2_with fail
            go_roundw
            case rel => exact ⟨k + 1, by omega, by go_num, rfl, HN, by first | exact hbi | exact hbi.drew⟩
            case measure => simp [intOf]; omega
        · have HN := Lib.hid (show ticksOf l (n + 1) = ticksOf l n by
            rw [HT.out, HS.out, List.drop_eq_nil_of_le (by omega)]
            simp)
          go_wp2_with fail
          go_roundw
          case rel => exact ⟨n + 1, by omega, by go_num, Lib.hid (by rw [HN.out]; exact HO.out.below hbi), hbw.trans (hbi.mono hbw.size)⟩
          case measure => simp [intOf]; omega
    · have hn96 : n = 96 := by omega
      subst hn96
      go_wp2_with fail
      go_loopw [31] (fun i wi => ∃ (k : Nat), k ≤ l.length ∧ i = .int .i64 k ∧ Hid (l.all doorB = (l.drop k).all doorB) ∧ Below wr.heap.size wr wi) (fun i _ => l.length - (intOf i).toNat)
      case atStart => exact ⟨0, Nat.zero_le _, rfl, Lib.hid rfl, Below.refl _ _⟩
      case round =>
        obtain ⟨k, hk, rfl, HS, hbi⟩ := hrel
        have hb2 := hbw.trans (hbi.mono hbw.size)
        by_cases hkl : k < l.length
        · have hne : l ≠ [] := by intro e; subst e; simp at hkl
          obtain ⟨b1, o1, rfl, q1, r1⟩ := (H.out.below hb2).cell hne
          have g1 := r1 k _ (List.getElem?_eq_getElem hkl)
          have p1 := H.out.cap
          have HD := Lib.hid (List.drop_eq_getElem_cons hkl)
          generalize l[k] = x at *
          clear r1 hne
          cases hx : decide (x < 0) with
          | true =>
            have E := Lib.hid (doors_none l (by
              rw [HS.out, HD.out, List.all_cons]
              have : doorB x = false := by rw [← Bool.not_eq_true, doorB_true]; simp at hx; omega
              rw [this]; rfl))
            go_wp2_with fail
            go_ret2
            exact ⟨none, 0, by rw [E.out.1, E.out.2]; rfl, by rw [E.out.1]; exact OwnI.nil _ _, hb2⟩
          | false =>
            cases hy : decide (95 < x) with
            | true =>
              have E := Lib.hid (doors_none l (by
                rw [HS.out, HD.out, List.all_cons]
                have : doorB x = false := by rw [← Bool.not_eq_true, doorB_true]; simp at hy; omega
                rw [this]; rfl))
              go_wp2_with fail
              go_ret2
              exact ⟨none, 0, by rw [E.out.1, E.out.2]; rfl, by rw [E.out.1]; exact OwnI.nil _ _, hb2⟩
            | false =>
              have HN := Lib.hid (show l.all doorB = (l.drop (k + 1)).all doorB by
                rw [HS.out, HD.out, List.all_cons]
                have : doorB x = true := by rw [doorB_true]; simp at hx hy; omega
                rw [this]; rfl)
              go_wp2_with fail
              go_roundw
              case rel => exact ⟨k + 1, by omega, by go_num, HN, by first | exact hbi | exact hbi.drew⟩
              case measure => simp [intOf]; omega
        · have HA := Lib.hid (show l.all doorB = true by rw [HS.out, List.drop_eq_nil_of_le (by omega)]; rfl)
          have HO2 := Lib.hid (HO.out.below hbi)
          cases he : decide (l.length = 0) with
          | true =>
            have he' : l = [] := List.eq_nil_of_length_eq_zero (by simpa using he)
            subst he'
            have E := Lib.hid (show doorsV [] = [] ∧ doorsE [] = 31 by decide)
            go_wp2_with fail
            go_ret2
            exact ⟨none, 0, by rw [E.out.1, E.out.2]; rfl, by rw [E.out.1]; exact OwnI.nil _ _, hb2⟩
          | false =>
            have hpos : 0 < l.length := by simp at he; exact List.length_pos_iff.2 he
            have hz : ¬ ((l.length : Int) = 0) := by omega
            have E := Lib.hid (doors_some HA.out hpos)
            obtain ⟨a3, c3, e3, i3⟩ := HO2.out.ints
            injection e3 with e3 _ e4
            subst e3 e4
            clear i3 he
            go_wp2_with fail
            go_ret2
            exact ⟨a2, c2, by rw [E.out.1, E.out.2]; rfl, by rw [E.out.1]; exact HO2.out, hb2⟩

end Go.Proofs.Ytaghbfnikcldiaa
