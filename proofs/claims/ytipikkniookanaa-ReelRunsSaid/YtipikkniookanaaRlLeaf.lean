/- What Cells, fits, noughts and frameAt of package reel answer. -/
import Derived.Test.YtipikkniookanaaRlPlain
import Derived.Test.YtipikkniookanaaPkFrame
import Derived.Test.YtipikkniookanaaMkMine
namespace Go.Proofs.Ytipikkniookanaa
set_option maxRecDepth 100000
open Go.RowKit

/-- A number is answered; all that was there stays. -/
def IntB (n : Int) (w : World) (e : Ending) (w' : World) : Prop := e = .returned (.int .i64 n) ∧ Below w.heap.size w w'

theorem number_one (n : Nat) (hn : n ≤ 65536) (W : World) (N : Nat) (hN : W.heap.size = N) :
    Calls Try.prog 40 #[.slice none 0 0, .slice (some ⟨N, 0, none⟩) 1 1] (W.alloc (.cells #[.int .u64 (n : Int)] 50))
      (fun e w' => ∃ a c, e = .returned (.slice a (numL n).length c) ∧ Below W.heap.size W w') := by
  subst hN
  have h2 := nums_one n (by omega) W
  refine (pkNumber_any none _ 0 _ [] _ _ (BytesP.nil _ _ _) h2 (by simp) (by simp)).mono ?_
  rintro e w' ⟨v, rfl, ho, hb⟩
  have hf : [] ++ numsL [n] = numL n := by simp [numsL]
  rw [hf] at ho
  obtain ⟨a', c', rfl, hB⟩ := ho.bytes (numL_bytes n)
  exact ⟨a', c', rfl, ((Below.refl W.heap.size W).alloc (Nat.le_refl _) _).trans (hb.mono (by simp))⟩

set_option maxHeartbeats 4000000 in
theorem cells_any (n : Int) (w : World) : Calls Try.prog 15 #[.int .i64 n] w (IntB (cellsI n : Int) w) := by
  by_cases h0 : n < 0
  · have E := Lib.hid (show cellsI n = 0 by unfold cellsI; rw [if_neg (by omega)])
    have t0 : decide (n < 0) = true := by simpa using h0
    go_enter Try.func15, Try.ntmps15
    go_wp2_with fail
    go_ret
    exact ⟨by rw [E.out]; rfl, Below.refl _ _⟩
  · have t0 : decide (n < 0) = false := by simpa using h0
    by_cases h1 : 65536 < n
    · have E := Lib.hid (show cellsI n = 0 by unfold cellsI cellsN; rw [if_pos (by omega), if_neg (by omega)])
      have t1 : decide (65536 < n) = true := by simpa using h1
      go_enter Try.func15, Try.ntmps15
      go_wp2_with fail
      go_ret
      exact ⟨by rw [E.out]; rfl, Below.refl _ _⟩
    · obtain ⟨m, rfl⟩ : ∃ m : Nat, n = (m : Int) := ⟨n.toNat, by omega⟩
      have hm : m ≤ 65536 := by omega
      have t1 : decide (65536 < (m : Int)) = false := by simp; omega
      have hw : IntKind.u64.wrap (m : Int) = (m : Int) := by rw [IntKind.wrap_u64]; omega
      have CN := Lib.hid (fun N hN => number_one m hm w N hN)
      have hl3 := numL_three hm
      have E := Lib.hid (show (cellsI (m : Int) : Int) = ((7 + (numL m).length + m + 47) / 48 : Nat) by unfold cellsI cellsN; rw [if_pos (by omega), if_pos (by simpa using hm)]; simp)
      generalize (numL m).length = k at *
      clear h0 h1
      go_enter Try.func15, Try.ntmps15
      go_wp2_with fail
      refine (CN.out _ (by simp)).mono ?_
      rintro e w4 ⟨a4, c4, rfl, b4⟩
      go_wp2_with fail
      go_ret
      refine ⟨?_, b4⟩
      rw [E.out]
      show Ending.returned (.int .i64 ((7 + (k : Int) + m + 48 - 1) / 48)) = _
      congr 2
      omega

set_option maxHeartbeats 4000000 in
theorem fits_any (a : Option Addr) (cap l n : Nat) (w : World) (_hl : l ≤ 9223372036854775807) : Calls Try.prog 33 #[.slice a l cap, .int .i64 (n : Int)] w (BoolB (fitsB l n) w) := by
  have CC := Lib.hid (cells_any (l : Int) w)
  have E := Lib.hid (show cellsI (l : Int) = cellsN l by simp [cellsI])
  rw [E.out] at CC
  obtain ⟨c, hc⟩ : ∃ c, cellsN l = c := ⟨_, rfl⟩
  rw [hc] at CC
  have F := Lib.hid (show fitsB l n = (decide (0 < c) && decide (c ≤ n)) by unfold fitsB; rw [hc])
  clear E hc
  by_cases h0 : 0 < c
  · have t0 : decide (0 < (c : Int)) = true := by simpa using h0
    by_cases h1 : c ≤ n
    · go_enter Try.func33, Try.ntmps33
      go_wp2_with fail
      refine CC.out.mono ?_
      rintro e w1 ⟨rfl, b1⟩
      go_wp2_with fail
      go_ret
      exact ⟨by rw [F.out]; simp [h0, h1], b1⟩
    · go_enter Try.func33, Try.ntmps33
      go_wp2_with fail
      refine CC.out.mono ?_
      rintro e w1 ⟨rfl, b1⟩
      go_wp2_with fail
      go_ret
      exact ⟨by rw [F.out]; simp [h0, h1], b1⟩
  · have t0 : decide (0 < (c : Int)) = false := by simp; omega
    go_enter Try.func33, Try.ntmps33
    go_wp2_with fail
    refine CC.out.mono ?_
    rintro e w1 ⟨rfl, b1⟩
    go_wp2_with fail
    go_ret
    exact ⟨by rw [F.out]; simp [h0], b1⟩

set_option maxHeartbeats 4000000 in
theorem noughts_any (a : Option Addr) (cap : Nat) (l : List Nat) (w : World) (h : BytesP w a cap l) : Calls Try.prog 77 #[.slice a l.length cap] w (fun e w' => e = .returned (.bool (zerosB l)) ∧ w = w') := by
  have H := Lib.hid h
  have hl := h.len
  have hc := h.cap
  clear h
  go_enter Try.func77, Try.ntmps77
  go_wp2_with fail
  go_loop [7] (fun i => ∃ (k : Nat), k ≤ l.length ∧ i = .int .i64 k ∧ Hid (zerosB l = zerosB (l.drop k))) (fun i => l.length - (intOf i).toNat)
  case atStart => exact ⟨0, Nat.zero_le _, rfl, Lib.hid rfl⟩
  case round =>
    obtain ⟨k, hk, rfl, HS⟩ := hrel
    by_cases hlt : k < l.length
    · have hne : l ≠ [] := by intro e; subst e; simp at hlt
      obtain ⟨b1, o1, rfl, q1, r1⟩ := H.out.cell hne
      have g1 := r1 k _ (List.getElem?_eq_getElem hlt)
      have HJ := Lib.hid (show zerosB l = (l[k] == 0 && zerosB (l.drop (k + 1))) by rw [HS.out, List.drop_eq_getElem_cons hlt]; rfl)
      generalize l[k] = x at *
      clear r1 hne
      by_cases hx : x = 0
      · subst hx
        go_wp2_with fail
        go_round
        case rel => exact ⟨k + 1, by omega, by go_num, Lib.hid (by rw [HJ.out]; simp)⟩
        case measure => simp [intOf]; omega
      · have tx : ((x : Int) == 0) = false := by simp; omega
        have HE := Lib.hid (show zerosB l = false by rw [HJ.out]; simp [hx])
        go_wp2_with fail
        go_ret
        exact ⟨by rw [HE.out]; rfl, rfl⟩
    · have HE := Lib.hid (show zerosB l = true by rw [HS.out, List.drop_eq_nil_of_le (by omega)]; rfl)
      go_wp2_with fail
      go_ret
      exact ⟨by rw [HE.out]; rfl, rfl⟩

/-- A frame's body and its cells; all that was there stays. -/
def FrameAtPost (r : List Nat × Nat) (w : World) (e : Ending) (w' : World) : Prop := ∃ a c, e = .returned (.tuple #[.slice a r.1.length c, .int .i64 (r.2 : Int)]) ∧ BytesP w' a c r.1 ∧ Below w.heap.size w w' ∧ ∀ b o, a = some ⟨b, o, none⟩ → w.heap.size ≤ b

theorem frame_block (w : World) (k : Int) (a : Option Addr) (n c : Nat) : (w.alloc (.cells #[.int .u8 k, .slice a n c] 76)).heap[w.heap.size]? = some (.cells #[.int .u8 k, .slice a n c] 76 (0, 0)) := heap_alloc_new w _

set_option maxHeartbeats 4000000 in
theorem frameAt_any (a : Option Addr) (cap : Nat) (l : List Nat) (k : Nat) (w : World) (h : BytesP w a cap l) (hl : l.length ≤ 1000000) {n : Nat} (hn : l.length = n * 48) : Calls Try.prog 51 #[.slice a l.length cap, .int .u8 (k : Int)] w (FrameAtPost (frameAtL l k) w) := by
  have H := Lib.hid h
  have CO := Lib.hid (open_any a cap l w h hl)
  have HE := Lib.hid (show frameAtL l k = if (openL l).2.2.2 = 0 ∧ (openL l).1 = k ∧ zerosB ((l.drop (openL l).2.2.1).take (cellsN (openL l).2.1.length * 48 - (openL l).2.2.1)) = true then ((openL l).2.1, cellsN (openL l).2.1.length) else ([], 0) from rfl)
  have HR := Lib.hid (fun h0 => open_room h.byte h0 hn)
  have HL := Lib.hid (fun h0 => (open_ok h.byte h0).2.1)
  have hcap := h.cap
  obtain ⟨k', body, size, er, ho⟩ : ∃ k' body size er, openL l = (k', body, size, er) := ⟨_, _, _, _, rfl⟩
  rw [ho] at CO HE HR HL
  dsimp only at HE HR HL
  clear h ho hn
  by_cases h0 : er = 0
  · have t0 : ((er : Int) == 0) = true := by simp [h0]
    by_cases h1 : k' = k
    · subst h1
      have hb16 := HL.out h0
      obtain ⟨r1, r2, r3⟩ := HR.out h0
      have CC := Lib.hid (fun W => cells_any (body.length : Int) W)
      have e2 : cellsI (body.length : Int) = cellsN body.length := by simp [cellsI]
      rw [e2] at CC
      subst h0
      generalize cellsN body.length = c at *
      obtain ⟨q, hq, HQ⟩ : ∃ q : Nat, (c : Int) * 48 = (q : Int) ∧ Hid (q = c * 48) := ⟨c * 48, by omega, rfl⟩
      have hq2 : size ≤ q := by rw [HQ.out]; exact r2
      obtain ⟨a3, c3, s3, p3⟩ := slice_part (a := a) hcap size q size q rfl rfl hq2 (by rw [HQ.out]; exact r1)
      rw [← HQ.out] at HE
      generalize (l.drop size).take (q - size) = d at *
      have HP := Lib.hid p3
      clear p3 e2
      go_enter Try.func51, Try.ntmps51
      go_wp2_with fail
      refine CO.out.mono ?_
      rintro e w1 ⟨a1, c1, rfl, hB1, b1, n1⟩
      have HG := Lib.hid (frame_block w1 0 none 0 0)
      have hs : ((w1.alloc (.cells #[.int .u8 0, .slice none 0 0] 76)).setRow w1.heap.size #[.int .u8 (k' : Int), .slice a1 body.length c1]).heap[w1.heap.size]? = some (.cells #[.int .u8 (k' : Int), .slice a1 body.length c1] 76 (0, 0)) := setRow_heap _ _ _ _ _ _ HG.out
      obtain ⟨f1, f2, _, _⟩ := row_cell hs
      have B2 := Lib.hid (below_setRow (b1.alloc b1.size (.cells #[.int .u8 0, .slice none 0 0] 76)) b1.size #[.int .u8 (k' : Int), .slice a1 body.length c1])
      have HB2 := Lib.hid (hB1.below (below_setRow ((Below.refl w1.heap.size w1).alloc (Nat.le_refl _) (.cells #[.int .u8 0, .slice none 0 0] 76)) (Nat.le_refl _) #[.int .u8 (k' : Int), .slice a1 body.length c1]))
      clear hs hB1 b1
      go_wp2_with (refine wpList_store_frame rfl _ _ rfl w1.heap.size _ _ _ _ rfl rfl _ _ HG.out ?_)
      refine (CC.out _).mono ?_
      rintro e w3 ⟨rfl, b3⟩
      have f3 := (b3.cell (p := ⟨w1.heap.size, 1, none⟩) (by simp)).trans f2
      have HB3 := Lib.hid (HB2.out.below b3)
      have B3 := Lib.hid (B2.out.trans (b3.mono B2.out.size))
      have CN := Lib.hid (noughts_any a3 c3 d w3 (HP.out _ (H.out.below B3.out)))
      clear b3
      cases tz : zerosB d with
      | true =>
        have E := Lib.hid (show frameAtL l k' = (body, c) by rw [HE.out]; simp [tz])
        rw [tz] at CN
        go_wp2_with fail
        refine CN.out.mono ?_
        rintro e w4 ⟨rfl, rfl⟩
        go_wp2_with fail
        go_ret2
        rw [E.out]
        exact ⟨a1, c1, rfl, HB3.out, B3.out, n1⟩
      | false =>
        have E := Lib.hid (show frameAtL l k' = ([], 0) by rw [HE.out, if_neg (by rw [tz]; simp)])
        rw [tz] at CN
        go_wp2_with fail
        refine CN.out.mono ?_
        rintro e w4 ⟨rfl, rfl⟩
        go_wp2_with fail
        go_ret2
        rw [E.out]
        exact ⟨none, 0, rfl, BytesP.nil _ _ _, B3.out, fun _ _ e => by cases e⟩
    · have E := Lib.hid (show frameAtL l k = ([], 0) by rw [HE.out, if_neg (fun h => h1 h.2.1)])
      subst h0
      have t1 : ((k' : Int) == (k : Int)) = false := by simp; omega
      go_enter Try.func51, Try.ntmps51
      go_wp2_with fail
      refine CO.out.mono ?_
      rintro e w1 ⟨a1, c1, rfl, hB1, b1, n1⟩
      have HG := Lib.hid (frame_block w1 0 none 0 0)
      have hs : ((w1.alloc (.cells #[.int .u8 0, .slice none 0 0] 76)).setRow w1.heap.size #[.int .u8 (k' : Int), .slice a1 body.length c1]).heap[w1.heap.size]? = some (.cells #[.int .u8 (k' : Int), .slice a1 body.length c1] 76 (0, 0)) := setRow_heap _ _ _ _ _ _ HG.out
      obtain ⟨f1, f2, _, _⟩ := row_cell hs
      have B2 := Lib.hid (below_setRow (b1.alloc b1.size (.cells #[.int .u8 0, .slice none 0 0] 76)) b1.size #[.int .u8 (k' : Int), .slice a1 body.length c1])
      have HB2 := Lib.hid (hB1.below (below_setRow ((Below.refl w1.heap.size w1).alloc (Nat.le_refl _) (.cells #[.int .u8 0, .slice none 0 0] 76)) (Nat.le_refl _) #[.int .u8 (k' : Int), .slice a1 body.length c1]))
      clear hs hB1 b1
      go_wp2_with (refine wpList_store_frame rfl _ _ rfl w1.heap.size _ _ _ _ rfl rfl _ _ HG.out ?_)
      go_ret2
      rw [E.out]
      exact ⟨none, 0, rfl, BytesP.nil _ _ _, B2.out, fun _ _ e => by cases e⟩
  · have E := Lib.hid (show frameAtL l k = ([], 0) by rw [HE.out, if_neg (fun h => h0 h.1)])
    have t0 : ((er : Int) == 0) = false := by simp; omega
    go_enter Try.func51, Try.ntmps51
    go_wp2_with fail
    refine CO.out.mono ?_
    rintro e w1 ⟨a1, c1, rfl, hB1, b1, n1⟩
    have HG := Lib.hid (frame_block w1 0 none 0 0)
    have hs : ((w1.alloc (.cells #[.int .u8 0, .slice none 0 0] 76)).setRow w1.heap.size #[.int .u8 (k' : Int), .slice a1 body.length c1]).heap[w1.heap.size]? = some (.cells #[.int .u8 (k' : Int), .slice a1 body.length c1] 76 (0, 0)) := setRow_heap _ _ _ _ _ _ HG.out
    obtain ⟨f1, f2, _, _⟩ := row_cell hs
    have B2 := Lib.hid (below_setRow (b1.alloc b1.size (.cells #[.int .u8 0, .slice none 0 0] 76)) b1.size #[.int .u8 (k' : Int), .slice a1 body.length c1])
    have HB2 := Lib.hid (hB1.below (below_setRow ((Below.refl w1.heap.size w1).alloc (Nat.le_refl _) (.cells #[.int .u8 0, .slice none 0 0] 76)) (Nat.le_refl _) #[.int .u8 (k' : Int), .slice a1 body.length c1]))
    clear hs hB1 b1
    go_wp2_with (refine wpList_store_frame rfl _ _ rfl w1.heap.size _ _ _ _ rfl rfl _ _ HG.out ?_)
    go_ret2
    rw [E.out]
    exact ⟨none, 0, rfl, BytesP.nil _ _ _, B2.out, fun _ _ e => by cases e⟩

end Go.Proofs.Ytipikkniookanaa
