/- What the document's Open of layer 6 answers. -/
import Derived.Test.YtipikkniookanaaPkFrame
import Derived.Test.YtipikkniookanaaPkRef
import Derived.Test.YtipikkniookanaaRlLeaf
namespace Go.Proofs.Ytipikkniookanaa
set_option maxRecDepth 100000
open Go.RowKit

theorem agree_app (x a b : List Nat) : agreeL (x ++ a) (x ++ b) = agreeL a b := by
  unfold agreeL
  have h1 : min (x ++ a).length (x ++ b).length = x.length + min a.length b.length := by simp only [List.length_append]; omega
  rw [h1, List.take_append, List.take_append, Nat.add_sub_cancel_left, List.take_of_length_le (by omega)]
  cases h : (List.take (min a.length b.length) a == List.take (min a.length b.length) b) with
  | true =>
    rw [beq_iff_eq] at h
    rw [h]
    simp
  | false =>
    rw [beq_eq_false_iff_ne] at h ⊢
    exact fun e => h (List.append_cancel_left e)
theorem agree_frame (k : Nat) (body t : List Nat) : agreeL (headL k body ++ (body ++ t)) (frameL k body) = agreeL t (four (crc (headL k body ++ body))) := by
  unfold frameL
  rw [agree_app, agree_app]

/-- What Open answers, by the whole frame that may stand there. -/
theorem open_whole (k : Nat) (body t : List Nat) (hl : body.length ≤ 65536) :
    openL (headL k body ++ (body ++ t)) = if agreeL (headL k body ++ (body ++ t)) (frameL k body) = false then (0, [], 0, 62) else if (headL k body ++ (body ++ t)).length < (frameL k body).length then (0, [], 0, 61) else (k, body, (frameL k body).length, 0) := by
  rw [open_begun k body t hl, agree_frame]
  have : (headL k body ++ (body ++ t)).length < (frameL k body).length ↔ t.length < 4 := by
    rw [frameL_len, List.length_append, List.length_append, headL_len]
    omega
  simp only [this]

theorem open_parts {l : List Nat} {x y z : Nat} {d : List Nat} (hl : l = x :: y :: z :: d) (hb : Bytes l) (hx : x = 167) (hy : y = 1) {v s : Nat} (hn : numAt 65536 0 0 d = (v, s, 0)) (hs : 3 + s + v ≤ l.length) :
    l = headL z ((l.drop (3 + s)).take v) ++ ((l.drop (3 + s)).take v ++ l.drop (3 + s + v)) ∧ ((l.drop (3 + s)).take v).length = v ∧ v ≤ 65536 ∧ 1 ≤ s := by
  subst hl hx hy
  obtain ⟨m, r, h1, h2, h3, h4, _⟩ := numAt_alone 65536 d 0 0 v s (fun b hb' => hb b (by simp [hb'])) (Nat.zero_le _) hn
  simp at h2 h3
  subst h2
  have hlen : (((167 :: 1 :: z :: d).drop (3 + s)).take v).length = v := by
    rw [List.length_take, List.length_drop]
    omega
  have hsp : 0 < s := by rw [h3]; exact numL_pos v
  refine ⟨?_, hlen, h4, hsp⟩
  have e : (167 :: 1 :: z :: d) = (167 :: 1 :: z :: numL v) ++ r := by rw [h1]; rfl
  have hd : (167 :: 1 :: z :: d).drop (3 + s) = r := by
    rw [e, show 3 + s = (167 :: 1 :: z :: numL v).length by simp; omega, List.drop_left]
  unfold headL
  rw [hlen, show (167 :: 1 :: z :: d).drop (3 + s + v) = r.drop v by rw [← hd, List.drop_drop], hd, List.take_append_drop]
  exact e

/-- A frame, how many bytes it has, and whether there is none. -/
def ROpenPost (r : Nat × List Nat × Nat × Nat) (w : World) (e : Ending) (w' : World) : Prop :=
  ∃ (k : Nat) (a : Option Addr) (c : Nat) (body : List Nat) (n : Nat) (err : Int), e = .returned (.tuple #[.agg #[.int .u8 (k : Int), .slice a body.length c], .int .i64 (n : Int), .int .i64 err]) ∧ ((err = 0 ∧ r = (k, body, n, 0)) ∨ (err ≠ 0 ∧ r.2.2.2 ≠ 0)) ∧ BytesP w' a c body ∧ Below w.heap.size w w'

set_option maxHeartbeats 8000000 in
theorem refPkOpen_any (a : Option Addr) (cap : Nat) (l : List Nat) (w : World) (h : BytesP w a cap l) (hl : l.length ≤ 1000000) : Calls Try.prog 62 #[.slice a l.length cap] w (ROpenPost (openL l) w) := by
  have HG1 := Lib.hid (heap_alloc_new w (.cells #[.int .u8 0, .slice none 0 0] 76))
  have b1 := (Below.refl w.heap.size w).alloc (Nat.le_refl _) (.cells #[.int .u8 0, .slice none 0 0] 76)
  have B1 := Lib.hid b1
  have H1 := Lib.hid (h.below b1)
  have hcp := h.cap
  generalize hw1 : w.alloc (.cells #[.int .u8 0, .slice none 0 0] 76) = w1 at *
  cases l with
  | nil =>
    clear h b1
    go_enter Try.func62, Try.ntmps62
    go_wp2_with (refine wpList_store_frame rfl _ _ rfl w.heap.size 0 none 0 0 rfl rfl _ _ HG1.out ?_)
    (try simp only [Exit.inBlock, Exit.then])
    refine bodyPost_ret (results_cell_tmp2 rfl _ _ w.heap.size _ rfl (load27 (setRow_heap _ _ _ _ _ _ HG1.out))) rfl ?_
    exact ⟨0, none, 0, [], 0, 61, rfl, .inr ⟨by decide, by decide⟩, BytesP.nil _ _ _, below_setRow B1.out (Nat.le_refl _) _⟩
  | cons x l1 =>
  obtain ⟨ba, oa, rfl, hba, hca⟩ := H1.out.cell (by simp)
  have g0 := hca 0 x rfl
  simp only [Nat.add_zero] at g0
  have hx : x < 256 := H1.out.byte x (by simp)
  cases tx : ((x : Int) == 167) with
  | false =>
    have hx1 : x ≠ 167 := by simp at tx; omega
    have HE := Lib.hid (show (openL (x :: l1)).2.2.2 ≠ 0 by
      unfold openL
      rw [if_pos (by
        cases l1 with
        | nil => simp [agreeL, hx1]
        | cons y r => simp [agreeL, hx1])]
      decide)
    clear h b1 hca
    go_enter Try.func62, Try.ntmps62
    go_wp2_with (refine wpList_store_frame rfl _ _ rfl w.heap.size 0 none 0 0 rfl rfl _ _ HG1.out ?_)
    (try simp only [Exit.inBlock, Exit.then])
    refine bodyPost_ret (results_cell_tmp2 rfl _ _ w.heap.size _ rfl (load27 (setRow_heap _ _ _ _ _ _ HG1.out))) rfl ?_
    exact ⟨0, none, 0, [], 0, 62, rfl, .inr ⟨by decide, HE.out⟩, BytesP.nil _ _ _, below_setRow B1.out (Nat.le_refl _) _⟩
  | true =>
  have hx1 : x = 167 := by simp at tx; omega
  cases l1 with
  | nil =>
    have HE := Lib.hid (show (openL [x]).2.2.2 ≠ 0 by rw [hx1]; decide)
    clear h b1 hca
    go_enter Try.func62, Try.ntmps62
    go_wp2_with (refine wpList_store_frame rfl _ _ rfl w.heap.size 0 none 0 0 rfl rfl _ _ HG1.out ?_)
    (try simp only [Exit.inBlock, Exit.then])
    refine bodyPost_ret (results_cell_tmp2 rfl _ _ w.heap.size _ rfl (load27 (setRow_heap _ _ _ _ _ _ HG1.out))) rfl ?_
    exact ⟨0, none, 0, [], 0, 61, rfl, .inr ⟨by decide, HE.out⟩, BytesP.nil _ _ _, below_setRow B1.out (Nat.le_refl _) _⟩
  | cons y l2 =>
  have g1 := hca 1 y rfl
  have hy : y < 256 := H1.out.byte y (by simp)
  cases ty : ((y : Int) == 1) with
  | false =>
    have hy1 : y ≠ 1 := by simp at ty; omega
    have HE := Lib.hid (show (openL (x :: y :: l2)).2.2.2 ≠ 0 by
      unfold openL
      rw [if_pos (by simp [agreeL, hy1])]
      decide)
    clear h b1 hca
    go_enter Try.func62, Try.ntmps62
    go_wp2_with (refine wpList_store_frame rfl _ _ rfl w.heap.size 0 none 0 0 rfl rfl _ _ HG1.out ?_)
    (try simp only [Exit.inBlock, Exit.then])
    refine bodyPost_ret (results_cell_tmp2 rfl _ _ w.heap.size _ rfl (load27 (setRow_heap _ _ _ _ _ _ HG1.out))) rfl ?_
    exact ⟨0, none, 0, [], 0, 62, rfl, .inr ⟨by decide, HE.out⟩, BytesP.nil _ _ _, below_setRow B1.out (Nat.le_refl _) _⟩
  | true =>
  have hy1 : y = 1 := by simp at ty; omega
  cases l2 with
  | nil =>
    have HE := Lib.hid (show (openL [x, y]).2.2.2 ≠ 0 by rw [hx1, hy1]; decide)
    clear h b1 hca
    go_enter Try.func62, Try.ntmps62
    go_wp2_with (refine wpList_store_frame rfl _ _ rfl w.heap.size 0 none 0 0 rfl rfl _ _ HG1.out ?_)
    (try simp only [Exit.inBlock, Exit.then])
    refine bodyPost_ret (results_cell_tmp2 rfl _ _ w.heap.size _ rfl (load27 (setRow_heap _ _ _ _ _ _ HG1.out))) rfl ?_
    exact ⟨0, none, 0, [], 0, 61, rfl, .inr ⟨by decide, HE.out⟩, BytesP.nil _ _ _, below_setRow B1.out (Nat.le_refl _) _⟩
  | cons z d =>
  have g2 := hca 2 z rfl
  have hz : z < 256 := H1.out.byte z (by simp)
  have HD := Lib.hid (fun (v s : Nat) (hn : numAt 65536 0 0 d = (v, s, 0)) (hs : 3 + s + v ≤ (x :: y :: z :: d).length) => open_parts (l := x :: y :: z :: d) rfl H1.out.byte hx1 hy1 (v := v) (s := s) hn hs)
  have HAG := Lib.hid (show agreeL (x :: y :: z :: d) [167, 1] = true by rw [hx1, hy1]; exact agree_head z d)
  have hL3 : 3 ≤ (x :: y :: z :: d).length := by simp
  have hdL : (x :: y :: z :: d).drop 3 = d := rfl
  have hLz : (x :: y :: z :: d)[2]? = some z := rfl
  have hdl : d.length + 3 = (x :: y :: z :: d).length := by simp
  generalize x :: y :: z :: d = L at *
  have HA := Lib.hid (fun (v s e : Nat) (hn : numAt 65536 0 0 d = (v, s, e)) => openL_agreed HAG.out (show ¬ L.length < 3 by omega) (v := v) (s := s) (e := e) (by rw [hdL]; exact hn))
  obtain ⟨a1, c1, s1, k1⟩ := slice_from (a := some ⟨ba, oa, none⟩) hcp 3 3 rfl hL3
  rw [hdL] at s1 k1
  have C2 := Lib.hid (refTake_any a1 c1 d 65536 w1 (k1 _ H1.out) (by decide))
  have t0 : decide (0 < (L.length : Int)) = true := by simp; omega
  have t1 : decide (1 < (L.length : Int)) = true := by simp; omega
  have t3 : decide ((L.length : Int) < 3) = false := by simp; omega
  clear h b1 hca k1
  go_enter Try.func62, Try.ntmps62
  rcases numAt_errs 65536 d 0 0 with hN | hN | ⟨v, s, hN, hs0, hsl⟩
  · have HE := Lib.hid (show (openL L).2.2.2 ≠ 0 by rw [HA.out _ _ _ hN]; simp)
    rw [hN] at C2
    go_wp2_with fail
    refine C2.out.mono ?_
    rintro e w4 ⟨rfl, rfl⟩
    rw [show usedOf (0, 0, 61) = 0 from rfl]
    go_wp2_with (refine wpList_store_frame rfl _ _ rfl w.heap.size 0 none 0 0 rfl rfl _ _ HG1.out ?_)
    (try simp only [Exit.inBlock, Exit.then])
    refine bodyPost_ret (results_cell_tmp2 rfl _ _ w.heap.size _ rfl (load27 (setRow_heap _ _ _ _ _ _ HG1.out))) rfl ?_
    exact ⟨0, none, 0, [], 0, 61, rfl, .inr ⟨by decide, HE.out⟩, BytesP.nil _ _ _, below_setRow B1.out (Nat.le_refl _) _⟩
  · have HE := Lib.hid (show (openL L).2.2.2 ≠ 0 by rw [HA.out _ _ _ hN]; simp)
    rw [hN] at C2
    go_wp2_with fail
    refine C2.out.mono ?_
    rintro e w4 ⟨rfl, rfl⟩
    rw [show usedOf (0, 0, 62) = -1 from rfl]
    go_wp2_with (refine wpList_store_frame rfl _ _ rfl w.heap.size 0 none 0 0 rfl rfl _ _ HG1.out ?_)
    (try simp only [Exit.inBlock, Exit.then])
    refine bodyPost_ret (results_cell_tmp2 rfl _ _ w.heap.size _ rfl (load27 (setRow_heap _ _ _ _ _ _ HG1.out))) rfl ?_
    exact ⟨0, none, 0, [], 0, 62, rfl, .inr ⟨by decide, HE.out⟩, BytesP.nil _ _ _, below_setRow B1.out (Nat.le_refl _) _⟩
  · rw [hN] at C2
    have hv : v ≤ 65536 := by
      obtain ⟨_, _, _, _, _, h, _⟩ := numAt_alone 65536 d 0 0 v s (fun b hb => H1.out.byte b (by rw [← hdL] at hb; exact List.mem_of_mem_drop hb)) (by decide) hN
      exact h
    have hO := HA.out _ _ _ hN
    have hPT := HD.out _ _ hN
    have tu : decide ((s : Int) < 0) = false := by simp
    have tz : ((s : Int) == 0) = false := by simp; omega
    have hwv : IntKind.i64.wrap (v : Int) = (v : Int) := by rw [IntKind.wrap_i64]; omega
    clear hN HA HD
    obtain ⟨f, hf, HF⟩ : ∃ f : Nat, 3 + (s : Int) = (f : Int) ∧ Hid (3 + s = f) := ⟨3 + s, by omega, rfl⟩
    obtain ⟨t, ht, HT⟩ : ∃ t : Nat, (f : Int) + (v : Int) = (t : Int) ∧ Hid (3 + s + v = t) := ⟨f + v, by omega, by rw [HF.out]; rfl⟩
    rw [HT.out] at hO hPT
    rw [HF.out] at hO hPT
    have hft : f ≤ t := by have := HF.out; have := HT.out; omega
    have htm : t ≤ 2000000 := by have := HF.out; have := HT.out; omega
    have HTV := Lib.hid (show t - f = v by have := HF.out; have := HT.out; omega)
    have hus := Lib.hid (show usedOf (v, s, 0) = (s : Int) from rfl)
    by_cases tD : L.length < t
    · have HE := Lib.hid (show (openL L).2.2.2 ≠ 0 by rw [hO, if_neg (by simp), if_pos tD]; simp)
      clear hO hPT
      go_wp2_with fail
      refine C2.out.mono ?_
      rintro e w4 ⟨rfl, rfl⟩
      rw [hus.out]
      go_wp2_with (refine wpList_store_frame rfl _ _ rfl w.heap.size 0 none 0 0 rfl rfl _ _ HG1.out ?_)
      (try simp only [Exit.inBlock, Exit.then])
      refine bodyPost_ret (results_cell_tmp2 rfl _ _ w.heap.size _ rfl (load27 (setRow_heap _ _ _ _ _ _ HG1.out))) rfl ?_
      exact ⟨0, none, 0, [], 0, 61, rfl, .inr ⟨by decide, HE.out⟩, BytesP.nil _ _ _, below_setRow B1.out (Nat.le_refl _) _⟩
    · obtain ⟨hp1, hp2, _, _⟩ := hPT (by omega)
      obtain ⟨a9, c9, s9, k9⟩ := slice_part (a := some ⟨ba, oa, none⟩) hcp f t (f : Int) (t : Int) rfl rfl hft (by omega)
      have hB9 := k9 _ H1.out
      rw [HTV.out] at s9 hB9
      have hbl : ((L.drop f).take v).length ≤ 65536 := by rw [hp2]; exact hv
      have hW := open_whole z ((L.drop f).take v) (L.drop t) hbl
      rw [← hp1] at hW
      have CF := Lib.hid (refFrame_any z a9 c9 _ w1 hB9 hz hbl)
      have HB9 := Lib.hid hB9
      have HBL := Lib.hid hbl
      generalize (L.drop f).take v = body at *
      have HWB := Lib.hid (frameL_bytes hz HB9.out.byte)
      have HWL := Lib.hid (show (frameL z body).length ≤ 100000 by rw [frameL_len]; have := numL_three HBL.out; have := HBL.out; omega)
      have hwl := HWL.out
      have HW := Lib.hid hW
      generalize frameL z body = whole at *
      clear hO hPT hp1 hp2 k9 hB9 hbl hW
      go_wp2_with fail
      refine C2.out.mono ?_
      rintro e w4 ⟨rfl, rfl⟩
      rw [hus.out]
      go_wp2_with fail
      refine CF.out.mono ?_
      rintro e w2 ⟨vw, rfl, ow, b12⟩
      obtain ⟨aw, cw, rfl, hBw⟩ := ow.bytes HWB.out
      have hcw := hBw.cap
      have B2 := Lib.hid (B1.out.trans (b12.mono B1.out.size))
      have HG2 := Lib.hid ((b12.block _ (Array.getElem?_eq_some_iff.1 HG1.out).1).trans HG1.out)
      have H2 := Lib.hid (H1.out.below b12)
      have HB2 := Lib.hid (HB9.out.below b12)
      have HWH := Lib.hid hBw
      clear ow b12 hBw CF C2 g0 g1 g2
      go_wp2_with fail
      go_loopw [10] (fun s wr => ∃ (i : Nat), s = .int .i64 (i : Int) ∧ i ≤ whole.length ∧ i ≤ L.length ∧ Hid (L.take i = whole.take i) ∧ Hid (Below w2.heap.size w2 wr)) (fun s _ => whole.length - (intOf s).toNat)
      case atStart => exact ⟨0, rfl, Nat.zero_le _, Nat.zero_le _, Lib.hid rfl, Lib.hid (Below.refl _ _)⟩
      case round =>
        obtain ⟨i, rfl, hi1, hi2, HI, HBR⟩ := hrel
        have HBW := Lib.hid (B2.out.trans (HBR.out.mono B2.out.size))
        have HGR := Lib.hid ((HBR.out.block _ (Array.getElem?_eq_some_iff.1 HG2.out).1).trans HG2.out)
        by_cases hin : i < whole.length ∧ i < L.length
        · obtain ⟨h1, h2⟩ := hin
          have hne : whole ≠ [] := by intro e; rw [e] at h1; simp at h1
          have hne2 : L ≠ [] := by intro e; rw [e] at h2; simp at h2
          obtain ⟨bw, ow, e1, q1, r1⟩ := (HWH.out.below HBR.out).cell hne
          obtain ⟨bl, ol, e2, q2, r2⟩ := (H2.out.below HBR.out).cell hne2
          subst e1
          injection e2 with e2
          injection e2 with e3 e4
          subst e3 e4
          have y1 := r1 i _ (List.getElem?_eq_getElem h1)
          have y2 := r2 i _ (List.getElem?_eq_getElem h2)
          have PN := Lib.hid (fun n => show Below w2.heap.size w2 (wr.drewN n) from ⟨HBR.out.os, HBR.out.tape, HBR.out.output, HBR.out.size, HBR.out.block⟩)
          have PW := Lib.hid (fun n => show Below w.heap.size w (wr.drewN n) from ⟨HBW.out.os, HBW.out.tape, HBW.out.output, HBW.out.size, HBW.out.block⟩)
          have PG := Lib.hid (fun n => show (wr.drewN n).heap[w.heap.size]? = _ from HGR.out)
          have e1 := List.take_add_one (l := L) (i := i)
          have e2 := List.take_add_one (l := whole) (i := i)
          rw [List.getElem?_eq_getElem h2] at e1
          rw [List.getElem?_eq_getElem h1] at e2
          cases tt : ((whole[i] : Int) == (L[i] : Int)) with
          | false =>
            have HE := Lib.hid (show (openL L).2.2.2 ≠ 0 by
              rw [HW.out, if_pos (by
                unfold agreeL
                rw [beq_eq_false_iff_ne]
                intro e
                have h := congrArg (fun x => x[i]?) e
                simp only [List.getElem?_take, if_pos (show i < min L.length whole.length by omega), List.getElem?_eq_getElem h1, List.getElem?_eq_getElem h2, Option.some.injEq] at h
                simp at tt
                omega)]
              decide)
            clear r1 r2 hne hne2 HBR HBW HGR e1 e2
            generalize whole[i] = p1 at *
            generalize L[i] = p2 at *
            go_wp2_with fail
            go_quiet (fail)
            go_wp2_with (refine wpList_store_frame rfl _ _ rfl w.heap.size 0 none 0 0 rfl rfl _ _ (PG.out _) ?_)
            (try simp only [Exit.inBlock, Exit.then])
            refine bodyPost_ret (results_cell_tmp2 rfl _ _ w.heap.size _ rfl (load27 (setRow_heap _ _ _ _ _ _ (PG.out _)))) rfl ?_
            exact ⟨0, none, 0, [], 0, 62, rfl, .inr ⟨by decide, HE.out⟩, BytesP.nil _ _ _, below_setRow (PW.out _) (Nat.le_refl _) _⟩
          | true =>
            have HI2 := Lib.hid (show L.take (i + 1) = whole.take (i + 1) by
              simp at tt
              have : whole[i] = L[i] := by omega
              rw [e1, e2, HI.out, this])
            clear r1 r2 hne hne2 HBR HBW HGR e1 e2
            generalize whole[i] = p1 at *
            generalize L[i] = p2 at *
            go_wp2_with fail
            go_quiet (fail)
            go_wp2_with fail
            go_roundw
            case rel => exact ⟨i + 1, by go_num, by omega, by omega, HI2, Lib.hid (PN.out _)⟩
            case measure => simp [intOf]; omega
        · have HAG2 := Lib.hid (show ¬ agreeL L whole = false by
            rw [Bool.not_eq_false]
            unfold agreeL
            rw [show min L.length whole.length = i by omega, HI.out]
            simp)
          by_cases tF : L.length < whole.length
          · have HE := Lib.hid (show (openL L).2.2.2 ≠ 0 by rw [HW.out, if_neg HAG2.out, if_pos tF]; simp)
            have hx1 : i < whole.length := by omega
            have hx2 : ¬ i < L.length := by omega
            go_wp2_with (refine wpList_store_frame rfl _ _ rfl w.heap.size 0 none 0 0 rfl rfl _ _ HGR.out ?_)
            (try simp only [Exit.inBlock, Exit.then])
            refine bodyPost_ret (results_cell_tmp2 rfl _ _ w.heap.size _ rfl (load27 (setRow_heap _ _ _ _ _ _ HGR.out))) rfl ?_
            exact ⟨0, none, 0, [], 0, 61, rfl, .inr ⟨by decide, HE.out⟩, BytesP.nil _ _ _, below_setRow HBW.out (Nat.le_refl _) _⟩
          · have HE := Lib.hid (show openL L = (z, body, whole.length, 0) by rw [HW.out, if_neg HAG2.out, if_neg tF])
            have hx1 : ¬ i < whole.length := by omega
            obtain ⟨bl, ol, e2, q2, r2⟩ := (H2.out.below HBR.out).cell (by intro e; rw [e] at hL3; simp at hL3)
            injection e2 with e2
            injection e2 with e3 e4
            subst e3 e4
            have g2 := r2 2 z hLz
            have bE := (Below.refl wr.heap.size wr).alloc (Nat.le_refl _) (.cells #[] 5)
            have m1 : wr.drew.cell? ⟨ba, oa + 2, none⟩ = some (.int .u8 (z : Int)) := g2
            have m2 : (wr.alloc (.cells #[] 5)).drew.cell? ⟨ba, oa + 2, none⟩ = some (.int .u8 (z : Int)) := (bE.cell (p := ⟨ba, oa + 2, none⟩) q2).trans g2
            have M3 := Lib.hid (fun W (b : Below wr.heap.size wr W) => show W.cell? ⟨ba, oa + 2, none⟩ = some (.int .u8 (z : Int)) from (b.cell (p := ⟨ba, oa + 2, none⟩) q2).trans g2)
            have OE := Lib.hid (show OwnB (wr.alloc (.cells #[] 5)).drew wr.heap.size (.slice (some ⟨wr.heap.size, 0, none⟩) 0 0) [] from (own_fresh wr wr.heap.size (Nat.le_refl _)).below (Below.refl _ _).drew)
            have HBE := Lib.hid ((HB2.out.below HBR.out).below bE.drew)
            have BE := Lib.hid bE.drew
            have hi2 : (2 : Int) < (L.length : Int) := by omega
            have hbl := HBL.out
            have HGlt := Lib.hid (Array.getElem?_eq_some_iff.1 HGR.out).1
            clear r2 g2 bE HW HI
            go_wp2_with fail
            go_region_law (first
              | (refine step_append_bytes rfl (.tmp 107) (.tmp 108) rfl wr.heap.size (.slice (some ⟨wr.heap.size, 0, none⟩) 0 0) [] body (by simp [Act.eval]) OE.out a9 c9 (by simp [Act.eval]) HBE.out (by simp; omega) BE.out.size ?_
                 intro v5 w5 o5 g5
                 rw [List.nil_append] at o5
                 obtain ⟨a5, c5, e5, hB5⟩ := o5.bytes HB9.out.byte
                 subst e5
                 have O5 := Lib.hid o5
                 have B5 := Lib.hid (BE.out.grown g5 BE.out.size OE.out.row)
                 have m5 := M3.out _ B5.out
                 have HG5 := Lib.hid ((B5.out.block _ HGlt.out).trans HGR.out)
                 obtain ⟨z1, z2, z3, z4⟩ := row_cell HG5.out
                 clear o5 g5 hB5))
            all_goals
              go_wp2_with fail
              (try simp only [Exit.inBlock, Exit.then])
              refine bodyPost_ret (results_cell_tmp2 rfl _ _ w.heap.size _ rfl (load27 (row_set HG5.out (.int .u8 (z : Int)) (.slice a5 body.length c5)))) rfl ?_
              have bw5 := HBW.out.trans (B5.out.mono HBW.out.size)
              refine ⟨z, a5, c5, body, whole.length, 0, by simp [Act.put], .inl ⟨rfl, HE.out⟩, ?_, (bw5.setCell (p := ⟨w.heap.size, 0, none⟩) (Nat.le_refl _) _).setCell (p := ⟨w.heap.size, 1, none⟩) (Nat.le_refl _) _⟩
              have o9 : OwnB _ wr.heap.size (.slice a5 body.length c5) body := ownsRow_setCell_below (ownsRow_setCell_below O5.out (a := ⟨w.heap.size, 0, none⟩) HGlt.out (.int .u8 (z : Int))) (a := ⟨w.heap.size, 1, none⟩) HGlt.out (.slice a5 body.length c5)
              obtain ⟨a', c', e', hB'⟩ := o9.bytes HB9.out.byte
              injection e' with e1 _ e3
              subst e1 e3
              exact hB'

end Go.Proofs.Ytipikkniookanaa
