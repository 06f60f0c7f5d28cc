/- The chapter's example: three names, the second one bad, five tries. -/
import Derived.Test.YtbhknaggbenfnaaHvMine
import Derived.Test.YtbhknaggbenfnaaTxSame
namespace Go.Proofs.Ytbhknaggbenfnaa
set_option maxRecDepth 100000
open Go.RowKit

theorem sameT_self (l : List ByteArray) : sameT l l = true := (sameT_iff l l).2 rfl
def tA : ByteArray := { data := #[97] }
def tB : ByteArray := { data := #[98] }
def tC : ByteArray := { data := #[99] }
theorem e98 : tB.toList = [98] := by rw [ByteArray.toList_eq]; rfl
def al : Nat → Hv ByteArray
  | 0 => newH [tA, tB, tC]
  | 1 => ⟨[[tA, tB], [tC]], [], [], 1⟩
  | 2 => ⟨[[tA], [tB], [tC]], [], [], 2⟩
  | 3 => ⟨[[tB], [tC]], [tA], [], 3⟩
  | 4 => ⟨[[tC]], [tA], [tB], 4⟩
  | _ => ⟨[], [tA, tC], [tB], 5⟩
def wantA : Nat → List ByteArray
  | 0 => [tA, tB, tC]
  | 1 => [tA, tB]
  | 2 => [tA]
  | 3 => [tB]
  | _ => [tC]
def toldA : Nat → Bool
  | 0 => false
  | 1 => false
  | 2 => true
  | 3 => false
  | _ => true
theorem al_step (k : Nat) (h : k < 5) : tellH (al k) (toldA k) = al (k + 1) ∧ nextH (al k) = wantA k ∧ tellN (al k) = 0 ∧ (wantA k).length ≤ 3 := by
  rcases (by omega : k = 0 ∨ k = 1 ∨ k = 2 ∨ k = 3 ∨ k = 4) with rfl | rfl | rfl | rfl | rfl <;> exact ⟨rfl, rfl, rfl, by decide⟩
theorem al_told (k : Nat) (h : k < 5) : (wantA k).length ≠ 1 ∧ toldA k = false ∨ ∃ x, wantA k = [x] ∧ toldA k = !(x.toList == tB.toList) := by
  have e1 : (tA.toList == tB.toList) = false := str_ne (by decide)
  have e2 : (tB.toList == tB.toList) = true := str_eq rfl
  have e3 : (tC.toList == tB.toList) = false := str_ne (by decide)
  rcases (by omega : k = 0 ∨ k = 1 ∨ k = 2 ∨ k = 3 ∨ k = 4) with rfl | rfl | rfl | rfl | rfl
  · exact .inl ⟨by decide, rfl⟩
  · exact .inl ⟨by decide, rfl⟩
  · exact .inr ⟨tA, rfl, by rw [e1]; rfl⟩
  · exact .inr ⟨tB, rfl, by rw [e2]; rfl⟩
  · exact .inr ⟨tC, rfl, by rw [e3]; rfl⟩
theorem al_ok : ∀ k, k ≤ 5 → OkH 3 (al k)
  | 0, _ => OkH.new [tA, tB, tC]
  | k + 1, h => by
    rw [← (al_step k (by omega)).1]
    exact (al_ok k (by omega)).tell _
theorem al_twice : twiceT [tA, tB, tC] = false := (twiceT_no _).2 (by decide)

/-- The lists that are wanted, from block B on. -/
structure WantA (w : World) (B : Nat) : Prop where
  size : B + 6 ≤ w.heap.size
  row : ∀ k, k < 5 → w.cell? ⟨B + 5, k, none⟩ = some (.slice (some ⟨B + k, 0, none⟩) (wantA k).length (wantA k).length)
  list : ∀ k, k < 5 → StrsP w (some ⟨B + k, 0, none⟩) (wantA k).length (wantA k)
def blkA (B k : Nat) : Prop := B ≤ k ∧ k < B + 6
theorem WantA.same {w w' : World} {B : Nat} (h : WantA w B) (hs : w.heap.size ≤ w'.heap.size) (hb : ∀ k, blkA B k → w'.heap[k]? = w.heap[k]?) : WantA w' B := by
  refine ⟨Nat.le_trans h.size hs, fun k hk => ?_, fun k hk => ?_⟩
  · rw [← h.row k hk]
    simp only [World.cell?]
    rw [hb _ ⟨by omega, by omega⟩]
  · exact (h.list k hk).same hs (fun _ x hx => by cases hx; exact hb _ ⟨by show B ≤ B + k; omega, by show B + k < B + 6; omega⟩)
theorem WantA.below {w w' : World} {B : Nat} (h : WantA w B) (hb : Below w.heap.size w w') : WantA w' B :=
  h.same hb.size (fun k hk => hb.block k (by have := h.size; have := hk.2; omega))

/-- The world with these lists laid. -/
def laidA (w : World) : World :=
  (((((w.alloc (.cells #[.string tA, .string tB, .string tC] 9)).alloc (.cells #[.string tA, .string tB] 9)).alloc (.cells #[.string tA] 9)).alloc (.cells #[.string tB] 9)).alloc (.cells #[.string tC] 9)).alloc
    (.cells #[.slice (some ⟨w.heap.size, 0, none⟩) 3 3, .slice (some ⟨w.heap.size + 1, 0, none⟩) 2 2, .slice (some ⟨w.heap.size + 1 + 1, 0, none⟩) 1 1, .slice (some ⟨w.heap.size + 1 + 1 + 1, 0, none⟩) 1 1, .slice (some ⟨w.heap.size + 1 + 1 + 1 + 1, 0, none⟩) 1 1] 27)
theorem laidA_size (w : World) : (laidA w).heap.size = w.heap.size + 6 := by simp [laidA]
theorem laidA_want (w : World) : Below w.heap.size w (laidA w) ∧ WantA (laidA w) w.heap.size := by
  have hz := laidA_size w
  unfold laidA at hz ⊢
  generalize h1 : w.alloc (.cells #[.string tA, .string tB, .string tC] 9) = w1 at *
  have z1 : w1.heap.size = w.heap.size + 1 := by rw [← h1]; simp
  have b1 : Below w1.heap.size w1 w1 := Below.refl _ _
  have s0 : StrsP w1 (some ⟨w.heap.size, 0, none⟩) 3 [tA, tB, tC] := h1 ▸ (OwnT.block w 0 [tA, tB, tC] (Nat.zero_le _) (by simp)).reads.2
  have q1 : Below w.heap.size w w1 := h1 ▸ (Below.refl _ _).alloc (Nat.le_refl _) _
  generalize h2 : w1.alloc (.cells #[.string tA, .string tB] 9) = w2 at *
  have z2 : w2.heap.size = w1.heap.size + 1 := by rw [← h2]; simp
  have s1 : StrsP w2 (some ⟨w1.heap.size, 0, none⟩) 2 [tA, tB] := h2 ▸ (OwnT.block w1 0 [tA, tB] (Nat.zero_le _) (by simp)).reads.2
  have q2 : Below w1.heap.size w1 w2 := h2 ▸ (Below.refl _ _).alloc (Nat.le_refl _) _
  generalize h3 : w2.alloc (.cells #[.string tA] 9) = w3 at *
  have z3 : w3.heap.size = w2.heap.size + 1 := by rw [← h3]; simp
  have s2 : StrsP w3 (some ⟨w2.heap.size, 0, none⟩) 1 [tA] := h3 ▸ strs_block1 w2 tA
  have q3 : Below w2.heap.size w2 w3 := h3 ▸ (Below.refl _ _).alloc (Nat.le_refl _) _
  generalize h4 : w3.alloc (.cells #[.string tB] 9) = w4 at *
  have z4 : w4.heap.size = w3.heap.size + 1 := by rw [← h4]; simp
  have s3 : StrsP w4 (some ⟨w3.heap.size, 0, none⟩) 1 [tB] := h4 ▸ strs_block1 w3 tB
  have q4 : Below w3.heap.size w3 w4 := h4 ▸ (Below.refl _ _).alloc (Nat.le_refl _) _
  generalize h5 : w4.alloc (.cells #[.string tC] 9) = w5 at *
  have z5 : w5.heap.size = w4.heap.size + 1 := by rw [← h5]; simp
  have s4 : StrsP w5 (some ⟨w4.heap.size, 0, none⟩) 1 [tC] := h5 ▸ strs_block1 w4 tC
  have q5 : Below w4.heap.size w4 w5 := h5 ▸ (Below.refl _ _).alloc (Nat.le_refl _) _
  have q6 := (Below.refl w5.heap.size w5).alloc (Nat.le_refl _) (.cells #[.slice (some ⟨w.heap.size, 0, none⟩) 3 3, .slice (some ⟨w.heap.size + 1, 0, none⟩) 2 2, .slice (some ⟨w.heap.size + 1 + 1, 0, none⟩) 1 1, .slice (some ⟨w.heap.size + 1 + 1 + 1, 0, none⟩) 1 1, .slice (some ⟨w.heap.size + 1 + 1 + 1 + 1, 0, none⟩) 1 1] 27)
  have hr := heap_alloc_new w5 (.cells #[.slice (some ⟨w.heap.size, 0, none⟩) 3 3, .slice (some ⟨w.heap.size + 1, 0, none⟩) 2 2, .slice (some ⟨w.heap.size + 1 + 1, 0, none⟩) 1 1, .slice (some ⟨w.heap.size + 1 + 1 + 1, 0, none⟩) 1 1, .slice (some ⟨w.heap.size + 1 + 1 + 1 + 1, 0, none⟩) 1 1] 27)
  generalize w5.alloc (.cells #[.slice (some ⟨w.heap.size, 0, none⟩) 3 3, .slice (some ⟨w.heap.size + 1, 0, none⟩) 2 2, .slice (some ⟨w.heap.size + 1 + 1, 0, none⟩) 1 1, .slice (some ⟨w.heap.size + 1 + 1 + 1, 0, none⟩) 1 1, .slice (some ⟨w.heap.size + 1 + 1 + 1 + 1, 0, none⟩) 1 1] 27) = w6 at *
  clear h1 h2 h3 h4 h5
  have e5 : w5.heap.size = w.heap.size + 5 := by omega
  have e4 : w4.heap.size = w.heap.size + 4 := by omega
  have e3 : w3.heap.size = w.heap.size + 3 := by omega
  have e2 : w2.heap.size = w.heap.size + 2 := by omega
  rw [e5] at hr
  refine ⟨(((((q1.trans (q2.mono (by omega))).trans (q3.mono (by omega))).trans (q4.mono (by omega))).trans (q5.mono (by omega))).trans (q6.mono (by omega))), ⟨by omega, fun k hk => ?_, fun k hk => ?_⟩⟩
  · rcases (by omega : k = 0 ∨ k = 1 ∨ k = 2 ∨ k = 3 ∨ k = 4) with rfl | rfl | rfl | rfl | rfl <;> simp [World.cell?, hr, wantA, Nat.add_assoc]
  · rcases (by omega : k = 0 ∨ k = 1 ∨ k = 2 ∨ k = 3 ∨ k = 4) with rfl | rfl | rfl | rfl | rfl
    · exact ((((s0.below q2).below q3).below q4).below q5).below q6
    · exact z1 ▸ (((s1.below q3).below q4).below q5).below q6
    · exact e2 ▸ ((s2.below q4).below q5).below q6
    · exact e3 ▸ (s3.below q5).below q6
    · exact e4 ▸ s4.below q6

set_option maxHeartbeats 8000000 in
theorem alive_any (w : World) : Calls Try.prog 10 #[] w (Tell true w) := by
  have B0 := (Below.refl w.heap.size w).alloc (Nat.le_refl _) (.cells #[.string tA, .string tB, .string tC] 9)
  have CN := Lib.hid (new_any (some ⟨w.heap.size, 0, none⟩) 3 [tA, tB, tC] _ (OwnT.block w 0 [tA, tB, tC] (Nat.zero_le _) (by simp)).reads.2 (by simp) (by
    intro s hs
    simp only [List.mem_cons, List.not_mem_nil, or_false] at hs
    rcases hs with rfl | rfl | rfl <;> decide))
  go_enter Try.func10, Try.ntmps10
  go_wp2_with fail
  refine CN.out.mono ?_
  intro e w1 hn
  obtain ⟨g, rfl, hm⟩ : ∃ g, e = .returned (.tuple #[.pointer (some ⟨g, 0, none⟩), .int .i64 0]) ∧ MineH (w.alloc (.cells #[.string tA, .string tB, .string tC] 9)) w1 g (al 0) := by
    rcases hn with ⟨h1, _⟩ | ⟨_, h2⟩
    · rw [al_twice] at h1; cases h1
    · exact h2
  have M0 := Lib.hid hm.toL
  clear hn hm CN
  obtain ⟨hl1, hl2⟩ := laidA_want w1
  have hz := laidA_size w1
  unfold laidA at hl1 hl2 hz
  have ML := Lib.hid (M0.out.below (M := blkA w1.heap.size) hl1 (fun k hk => .inr ⟨hk.1, by have := hk.2; omega⟩))
  have HW := Lib.hid hl2
  clear hl1 hl2 hz M0
  go_wp2_with fail
  go_loopw [24] (fun i wr => ∃ k : Nat, k ≤ 5 ∧ i = .int .i64 k ∧ Hid (MineL (w.alloc (.cells #[.string tA, .string tB, .string tC] 9)) wr g (al k) (blkA w1.heap.size)) ∧ Hid (WantA wr w1.heap.size)) (fun i _ => 5 - (intOf i).toNat)
  case atStart => exact ⟨0, by omega, rfl, ML, HW⟩
  case round =>
    clear ML HW
    obtain ⟨k, hk, rfl, HM, HW⟩ := hrel
    have OK := Lib.hid (al_ok k hk)
    by_cases hlt : k < 5
    · have c : wr.cell? ⟨w1.heap.size + 1 + 1 + 1 + 1 + 1, k, none⟩ = _ := HW.out.row k hlt
      obtain ⟨f1, f2, f3, f4⟩ := al_step k hlt
      have N := HM.out.next OK.out (by omega)
      have ST := Lib.hid (HW.out.list k hlt)
      have T := Lib.hid (al_told k hlt)
      rw [f2] at N
      have N' := Lib.hid N
      have F1 := Lib.hid f1
      have F3 := Lib.hid f3
      clear f1 f2 f3 N
      generalize wantA k = l at *
      go_wp2_with fail
      refine N'.out.mono ?_
      rintro e w2 ⟨v, rfl, o2, b2⟩
      obtain ⟨a2, c2, rfl, s2⟩ := o2.strs
      have CS := Lib.hid (refSameT_any a2 _ c2 _ l l w2 s2 (ST.out.below b2))
      have M2 := Lib.hid (HM.out.more b2)
      have W2 := Lib.hid (HW.out.below b2)
      have S2 := Lib.hid s2
      clear o2 b2 s2 c HM HW ST N'
      rw [sameT_self] at CS
      go_wp2_with fail
      refine CS.out.mono ?_
      rintro e w3 ⟨rfl, b3⟩
      have M3 := Lib.hid (M2.out.more b3)
      have W3 := Lib.hid (W2.out.below b3)
      have S3 := Lib.hid (S2.out.below b3)
      have CT := Lib.hid (fun b => M3.out.tell OK.out (by omega) b)
      clear b3 CS M2 W2 S2
      rcases T.out with ⟨t1, t2⟩ | ⟨x, rfl, t2⟩
      · have hx : ((l.length : Int) == 1) = false := by rw [beq_eq_false_iff_ne]; omega
        have t2' := Lib.hid t2
        clear t1 t2 T
        go_wp2_with fail
        refine (CT.out false).mono ?_
        rintro e w4 ⟨rfl, m4, z4, k4⟩
        rw [F3.out]
        have M4 := Lib.hid (F1.out ▸ t2'.out ▸ m4)
        have W4 := Lib.hid (W3.out.same z4 k4)
        clear m4 z4 k4
        go_wp2_with fail
        go_roundw
        case rel => exact ⟨k + 1, by omega, by go_num, M4, W4⟩
        case measure => simp [intOf]; omega
      · obtain ⟨b, o, rfl, q3, d3⟩ := S3.out.at 0 (by simp)
        simp only [List.getElem_cons_zero, Nat.add_zero] at d3
        have q4 := S3.out.cap
        simp only [List.length_singleton] at q4
        simp only [List.length_singleton]
        cases hb : (x.toList == tB.toList) with
        | true =>
          have t2' := Lib.hid (show toldA k = false by rw [t2, hb]; rfl)
          have hb' : (x.toList == [98]) = true := e98 ▸ hb
          clear t2 T hb
          go_wp2_with fail
          refine (CT.out false).mono ?_
          rintro e w4 ⟨rfl, m4, z4, k4⟩
          rw [F3.out]
          have M4 := Lib.hid (F1.out ▸ t2'.out ▸ m4)
          have W4 := Lib.hid (W3.out.same z4 k4)
          clear m4 z4 k4
          go_wp2_with fail
          go_roundw
          case rel => exact ⟨k + 1, by omega, by go_num, M4, W4⟩
          case measure => simp [intOf]; omega
        | false =>
          have t2' := Lib.hid (show toldA k = true by rw [t2, hb]; rfl)
          have hb' : (x.toList == [98]) = false := e98 ▸ hb
          clear t2 T hb
          go_wp2_with fail
          refine (CT.out true).mono ?_
          rintro e w4 ⟨rfl, m4, z4, k4⟩
          rw [F3.out]
          have M4 := Lib.hid (F1.out ▸ t2'.out ▸ m4)
          have W4 := Lib.hid (W3.out.same z4 k4)
          clear m4 z4 k4
          go_wp2_with fail
          go_roundw
          case rel => exact ⟨k + 1, by omega, by go_num, M4, W4⟩
          case measure => simp [intOf]; omega
    · obtain rfl : k = 5 := by omega
      have CT := Lib.hid (show Calls Try.prog 19 #[.pointer (some ⟨g, 0, none⟩)] wr (NumB 5 wr) from HM.out.tries)
      have CB := Lib.hid (fun W hb => show Calls Try.prog 21 #[.pointer (some ⟨g, 0, none⟩)] W (OwnTs [tB] W) from (HM.out.more (w' := W) hb).bads OK.out (by omega))
      have CG := Lib.hid (fun W hb => show Calls Try.prog 20 #[.pointer (some ⟨g, 0, none⟩)] W (OwnTs [tA, tC] W) from (HM.out.more (w' := W) hb).goods OK.out (by omega))
      have B0 := Lib.hid (((Below.refl w.heap.size w).alloc (Nat.le_refl _) _).trans (HM.out.low.mono (by simp)))
      have e98 := e98
      clear HM HW OK
      go_wp2_with fail
      refine CT.out.mono ?_
      rintro e w2 ⟨rfl, b2⟩
      go_wp2_with fail
      refine (CB.out w2 b2).mono ?_
      rintro e w3 ⟨v, rfl, o3, b3⟩
      have b3' := b2.trans (b3.mono b2.size)
      obtain ⟨a3, c3, rfl⟩ := o3.shape
      simp only [List.length_singleton]
      clear o3 b3
      go_wp2_with fail
      refine (CB.out w3 b3').mono ?_
      rintro e w4 ⟨v, rfl, o4, b4⟩
      have b4' := b3'.trans (b4.mono b3'.size)
      obtain ⟨a4, c4, rfl, s4⟩ := o4.strs
      obtain ⟨b, o, rfl, q4, d4⟩ := s4.at 0 (by simp)
      have p4 := s4.cap
      simp only [List.length_singleton] at p4
      simp only [List.getElem_cons_zero, Nat.add_zero] at d4
      simp only [List.length_singleton]
      clear o4 b4 s4
      go_wp2_with fail
      refine (CG.out w4 b4').mono ?_
      rintro e w5 ⟨v, rfl, o5, b5⟩
      have b5' := b4'.trans (b5.mono b4'.size)
      obtain ⟨a5, c5, rfl, s5⟩ := o5.strs
      have b6 := b5'.alloc b5'.size (.cells #[.string tA, .string tC] 9)
      have CS := Lib.hid (refSameT_any a5 (some ⟨w5.heap.size, 0, none⟩) c5 2 [tA, tC] [tA, tC] _ (s5.below ((Below.refl _ _).alloc (Nat.le_refl _) _)) (OwnT.block w5 0 [tA, tC] (Nat.zero_le _) (by simp)).reads.2)
      have B6 := Lib.hid b6
      rw [sameT_self] at CS
      clear o5 b5 s5 b6
      go_wp2_with fail
      refine CS.out.mono ?_
      rintro e w6 ⟨rfl, b7⟩
      have B7 := Lib.hid (B0.out.trans ((B6.out.trans (b7.mono B6.out.size)).mono B0.out.size))
      go_wp2_with fail
      go_ret
      exact ⟨rfl, B7.out⟩

end Go.Proofs.Ytbhknaggbenfnaa
