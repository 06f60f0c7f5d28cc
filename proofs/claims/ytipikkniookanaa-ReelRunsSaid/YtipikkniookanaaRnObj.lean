/- The document's reel in memory; what its put and Cells answer. -/
import Derived.Test.YtipikkniookanaaRnOn
namespace Go.Proofs.Ytipikkniookanaa
set_option maxRecDepth 100000
open Go.RowKit

attribute [local go_sem ↓] ld26 ld66 st26 st66 bx26 al26 al66 bd26 bd66 bs61 bs48 mk48 eq26 ap61 ap48 ap49 cp46 cp48
attribute [local go_sem] bx_agg al_cell al_wr bd_zero bd_one bd_two bd_nine

/-- The blocks of a document's plate. -/
def Rfm (g : Nat) (sv lv av wv : Value) (k : Nat) : Prop := k = g ∨ sv.ownBlock = some k ∨ lv.ownBlock = some k ∨ av.ownBlock = some k ∨ wv.ownBlock = some k

section
variable {w w' : World} {R : Nat → Prop} {g : Nat} {sv lv av wv : Value} {r : Rf}
theorem RfM.within (h : RfM w R g sv lv av wv r) : ∀ k, Rfm g sv lv av wv k → R k := by
  rintro k (rfl | e | e | e | e)
  · exact h.rg
  · exact (h.bs k e).1
  · exact (h.bl k e).1
  · exact (h.ba k e).1
  · exact (h.bw k e).1
theorem RfM.shrink (h : RfM w R g sv lv av wv r) : RfM w (Rfm g sv lv av wv) g sv lv av wv r :=
  ⟨h.good, fun k hk => h.dom k (h.within k hk), h.head, h.os, h.ol, h.oa, h.ow, .inl rfl, fun b hb => ⟨.inr (.inl hb), (h.bs b hb).2⟩, fun b hb => ⟨.inr (.inr (.inl hb)), (h.bl b hb).2⟩, fun b hb => ⟨.inr (.inr (.inr (.inl hb))), (h.ba b hb).2⟩, fun b hb => ⟨.inr (.inr (.inr (.inr hb))), (h.bw b hb).2⟩, h.sl, h.sa, h.sw, h.la, h.lw, h.aw⟩
end

/-- Pieces are put, as the document puts them. -/
def Rf.putC (r : Rf) (side : Int) (round : Nat) (at_ : Nat) : List (List Nat) → Int × Rf
  | [] => (0, r)
  | c :: t => if (r.mput side round (at_ : Int) c).1 == 0 then Rf.putC (r.mput side round (at_ : Int) c).2 side round (at_ + 1) t else r.mput side round (at_ : Int) c

/-- The document's reel: its plate, its variables. -/
structure Rd where
  F : Rf
  side : Nat
  at_ : Nat
  rd : Nat
  ready : Bool

def RdV (w : World) (b g : Nat) (side at_ rd : Nat) (ready : Bool) : Prop := w.heap[b]? = some (.cells #[ptr g, .int .i64 (side : Int), .int .i64 (at_ : Int), .int .u64 (rd : Int), .bool ready] 52 (0, 0))
section
variable {w w' : World} {b g side at_ rd : Nat} {ready : Bool}
theorem RdV.lt (h : RdV w b g side at_ rd ready) : b < w.heap.size := (Array.getElem?_eq_some_iff.1 h).1
theorem RdV.same (h : RdV w b g side at_ rd ready) (hb : w'.heap[b]? = w.heap[b]?) : RdV w' b g side at_ rd ready := hb.trans h
theorem RdV.cells (h : RdV w b g side at_ rd ready) : w.cell? ⟨b, 0, none⟩ = some (ptr g) ∧ w.cell? ⟨b, 1, none⟩ = some (.int .i64 (side : Int)) ∧ w.cell? ⟨b, 2, none⟩ = some (.int .i64 (at_ : Int)) ∧ w.cell? ⟨b, 3, none⟩ = some (.int .u64 (rd : Int)) ∧ w.cell? ⟨b, 4, none⟩ = some (.bool ready) := by
  unfold RdV at h
  simp [World.cell?, h]
theorem RdV.frozen (h : RdV w b g side at_ rd ready) : w.frozen? ⟨b, 1, none⟩ = false ∧ w.frozen? ⟨b, 2, none⟩ = false ∧ w.frozen? ⟨b, 3, none⟩ = false ∧ w.frozen? ⟨b, 4, none⟩ = false := by
  unfold RdV at h
  simp [World.frozen?, h]
theorem RdV.set1 (h : RdV w b g side at_ rd ready) (s : Nat) : RdV (w.setCell ⟨b, 1, none⟩ (.int .i64 (s : Int))) b g s at_ rd ready := by
  unfold RdV at *
  rw [heap_setCell_same w b 1 _ _ _ h]
  rfl
theorem RdV.set2 (h : RdV w b g side at_ rd ready) (s : Nat) : RdV (w.setCell ⟨b, 2, none⟩ (.int .i64 (s : Int))) b g side s rd ready := by
  unfold RdV at *
  rw [heap_setCell_same w b 2 _ _ _ h]
  rfl
theorem RdV.set3 (h : RdV w b g side at_ rd ready) (s : Nat) : RdV (w.setCell ⟨b, 3, none⟩ (.int .u64 (s : Int))) b g side at_ s ready := by
  unfold RdV at *
  rw [heap_setCell_same w b 3 _ _ _ h]
  rfl
theorem RdV.set4 (h : RdV w b g side at_ rd ready) (s : Bool) : RdV (w.setCell ⟨b, 4, none⟩ (.bool s)) b g side at_ rd s := by
  unfold RdV at *
  rw [heap_setCell_same w b 4 _ _ _ h]
  rfl
end

/-- A document's reel at block b on a plate at block g, of blocks R. -/
def atRd (b g : Nat) (d : Rd) (w : World) (R : Nat → Prop) : Prop := ∃ sv lv av wv, RfM w R g sv lv av wv d.F ∧ R b ∧ ¬ Rfm g sv lv av wv b ∧ RdV w b g d.side d.at_ d.rd d.ready

theorem stays_rd (b g : Nat) (d : Rd) : Stays (atRd b g d) :=
  ⟨fun w R h k hk => by obtain ⟨sv, lv, av, wv, h, _⟩ := h; exact h.dom k hk, fun w w' R h hs hb => by
    obtain ⟨sv, lv, av, wv, h1, h2, h3, h4⟩ := h
    exact ⟨sv, lv, av, wv, h1.same hs hb, h2, h3, h4.same (hb b h2)⟩⟩

/-- A document's reel in what was its own or new, since w; all else is as it was. -/
def ReD (b g : Nat) (d : Rd) (R : Nat → Prop) (w W : World) : Prop :=
  ∃ sv lv av wv, RfM W (Rfm g sv lv av wv) g sv lv av wv d.F ∧ (∀ k, Rfm g sv lv av wv k → (R k ∨ w.heap.size ≤ k) ∧ k ≠ b) ∧ (R b ∧ ∀ k, R k → k < w.heap.size) ∧ Keep R w W ∧ RdV W b g d.side d.at_ d.rd d.ready

section
variable {b g : Nat} {d : Rd} {w W W' : World} {R : Nat → Prop}
theorem atRd.start (h : atRd b g d w R) : ReD b g d R w w := by
  obtain ⟨sv, lv, av, wv, h1, h2, h3, h4⟩ := h
  exact ⟨sv, lv, av, wv, h1.shrink, fun k hk => ⟨.inl (h1.within k hk), fun e => h3 (e ▸ hk)⟩, ⟨h2, h1.dom⟩, Keep.refl _ _, h4⟩
theorem ReD.fin (h : ReD b g d R w W) : atRd b g d W (ext R w W) ∧ Keep R w W := by
  obtain ⟨sv, lv, av, wv, h1, h2, h3, h4, h5⟩ := h
  refine ⟨⟨sv, lv, av, wv, h1.mono (fun k e => ?_) (fun k e => ?_), .inl h3.1, fun e => (h2 b e).2 rfl, h5⟩, h4⟩
  · rcases e with h | h
    · exact Nat.lt_of_lt_of_le (h3.2 k h) h4.size
    · exact h.2
  · rcases (h2 k e).1 with h | h
    · exact .inl h
    · exact .inr ⟨h, h1.dom k e⟩
theorem ReD.below (h : ReD b g d R w W) (hb : Below W.heap.size W W') : ReD b g d R w W' := by
  obtain ⟨sv, lv, av, wv, h1, h2, h3, h4, h5⟩ := h
  exact ⟨sv, lv, av, wv, h1.below hb, h2, h3, h4.of_below hb, h5.same (hb.block _ h5.lt)⟩
theorem ReD.plate (h : ReD b g d R w W) : ∃ sv lv av wv, RfM W (Rfm g sv lv av wv) g sv lv av wv d.F ∧ ¬ Rfm g sv lv av wv b ∧ ∀ (F' : Rf) (W' : World), RefP W' (ext (Rfm g sv lv av wv) W W') g F' → Keep (Rfm g sv lv av wv) W W' → ReD b g { d with F := F' } R w W' := by
  obtain ⟨sv, lv, av, wv, h1, h2, h3, h4, h5⟩ := h
  refine ⟨sv, lv, av, wv, h1, fun e => (h2 b e).2 rfl, fun F' W' hp hk => ?_⟩
  obtain ⟨sv2, lv2, av2, wv2, hp⟩ := hp
  refine ⟨sv2, lv2, av2, wv2, hp.shrink, fun k hr => ?_, h3, h4.trans hk (fun i hi hr => ?_), h5.same (hk.block _ h5.lt (fun e => (h2 b e).2 rfl))⟩
  · rcases hp.within k hr with h | h
    · exact h2 k h
    · have := h5.lt
      have := h4.size
      exact ⟨.inr (by omega), by omega⟩
  · rcases (h2 i hr).1 with h | h
    · exact h
    · omega
theorem ReD.vars (h : ReD b g d R w W) : RdV W b g d.side d.at_ d.rd d.ready := by
  obtain ⟨sv, lv, av, wv, h1, h2, h3, h4, h5⟩ := h
  exact h5
theorem ReD.good (h : ReD b g d R w W) : d.F.Good := by
  obtain ⟨sv, lv, av, wv, h1, h2, h3, h4, h5⟩ := h
  exact h1.good
theorem ReD.set (h : ReD b g d R w W) (o : Nat) (v : Value) {d' : Rd} (hF : d'.F = d.F) (hv : RdV (W.setCell ⟨b, o, none⟩ v) b g d'.side d'.at_ d'.rd d'.ready) : ReD b g d' R w (W.setCell ⟨b, o, none⟩ v) := by
  obtain ⟨sv, lv, av, wv, h1, h2, h3, h4, h5⟩ := h
  exact ⟨sv, lv, av, wv, by rw [hF]; exact h1.same (by simp [World.setCell]) (fun k hk => heap_setCell_other _ _ _ _ (h2 k hk).2), h2, h3, h4.setCell (fun _ => h3.1) _, hv⟩
end

theorem rcells_any (n : Nat) (hn : n ≤ 65536) (w : World) : Calls Try.prog 44 #[.int .i64 (n : Int)] w (fun e w' => e = .returned (.int .i64 (cellsN n : Int)) ∧ w = w') := by
  have h1 : decide ((n : Int) < 0) = false := by simp
  have h2 : decide (65536 < (n : Int)) = false := by simp; omega
  have HE := Lib.hid (show cellsN n = (7 + (numL n).length + n + 47) / 48 by unfold cellsN; rw [if_pos hn])
  have HL := Lib.hid (show (numL n).length = if n < 128 then 1 else if n < 16384 then 2 else 3 by
    split
    · rename_i h
      rw [numL_small h]
      rfl
    · rename_i h
      rw [numL_great (by omega)]
      split
      · rw [numL_small (by omega)]
        rfl
      · rw [numL_great (by omega), numL_small (by omega)]
        rfl)
  cases t1 : decide (128 ≤ (n : Int)) with
  | false =>
    have t2 : decide (16384 ≤ (n : Int)) = false := by simp at t1 ⊢; omega
    go_enter Try.func44, Try.ntmps44
    go_wp2_with fail
    go_ret
    refine ⟨?_, rfl⟩
    rw [HE.out, HL.out, if_pos (by simp at t1; omega)]
    show Ending.returned (Value.int .i64 (((n : Int) + 4 + 4 + 47) / 48)) = _
    rw [show ((n : Int) + 4 + 4 + 47) / 48 = (((7 + 1 + n + 47) / 48 : Nat) : Int) by omega]
  | true =>
  cases t2 : decide (16384 ≤ (n : Int)) with
  | false =>
    go_enter Try.func44, Try.ntmps44
    go_wp2_with fail
    go_ret
    refine ⟨?_, rfl⟩
    rw [HE.out, HL.out, if_neg (by simp at t1; omega), if_pos (by simp at t2; omega)]
    show Ending.returned (Value.int .i64 (((n : Int) + 4 + 4 + 1 + 47) / 48)) = _
    rw [show ((n : Int) + 4 + 4 + 1 + 47) / 48 = (((7 + 2 + n + 47) / 48 : Nat) : Int) by omega]
  | true =>
    go_enter Try.func44, Try.ntmps44
    go_wp2_with fail
    go_ret
    refine ⟨?_, rfl⟩
    rw [HE.out, HL.out, if_neg (by simp at t1; omega), if_neg (by simp at t2; omega)]
    show Ending.returned (Value.int .i64 (((n : Int) + 4 + 4 + 1 + 1 + 47) / 48)) = _
    rw [show ((n : Int) + 4 + 4 + 1 + 1 + 47) / 48 = (((7 + 3 + n + 47) / 48 : Nat) : Int) by omega]

theorem refMput_few (r : Rf) (side : Int) (rd : Nat) (at_ : Int) (l : List Nat) : (r.mput side rd at_ l).2.ats.length ≤ r.ats.length + 1 ∧ (r.mput side rd at_ l).2.what.length ≤ r.what.length + 1 := by
  unfold Rf.mput
  split
  · unfold Rf.put
    have hp := r.power_same
    cases r.power.1 <;> (repeat' split) <;> simp_all
  · simp

section
variable {W : World} {b g : Nat} {sv lv av wv : Value} {F : Rf}

set_option maxHeartbeats 4000000 in
theorem refRput_any (h : RfM W (Rfm g sv lv av wv) g sv lv av wv F) (hb : W.cell? ⟨b, 0, none⟩ = some (ptr g)) (hbn : ¬ Rfm g sv lv av wv b) (hbl : b < W.heap.size) (side : Int) (rd at_ : Nat) (hat : at_ ≤ 100000) (a : Option Addr) (cap : Nat) (l : List Nat) (hB : BytesP W a cap l) (hoff : l ≠ [] → ∀ k o, a = some ⟨k, o, none⟩ → ¬ Rfm g sv lv av wv k) (hl : l.length ≤ 70000) (hats : F.ats.length + 1500 ≤ 100000) (hwhat : F.what.length + 1500 ≤ 100000) :
    Calls Try.prog 46 #[ptr b, .int .i64 side, .int .u64 (rd : Int), .slice a l.length cap, .int .i64 (at_ : Int)] W (RefPost (F.putC side rd at_ (chunksL l)) (Rfm g sv lv av wv) g W) := by
  have HH := Lib.hid h
  have HBB := Lib.hid hB
  have hcap := hB.cap
  have HKB := Lib.hid (show ∀ W', Keep (Rfm g sv lv av wv) W W' → BytesP W' a cap l from fun W' hk => ⟨hB.cap, hB.len, hB.byte, fun hne => by
    obtain ⟨k, o, e, hlt, hc⟩ := hB.cell hne
    exact ⟨k, o, e, Nat.lt_of_lt_of_le hlt hk.size, fun j x hj => (World.cell?_of_block (a := ⟨k, o + j, none⟩) (hk.block k hlt (hoff hne k o e))).trans (hc j x hj)⟩⟩)
  have HKV := Lib.hid (show ∀ W', Keep (Rfm g sv lv av wv) W W' → W'.cell? ⟨b, 0, none⟩ = some (ptr g) from fun W' hk => (World.cell?_of_block (a := ⟨b, 0, none⟩) (hk.block b hbl hbn)).trans hb)
  have HDM := Lib.hid h.dom
  have HA := Lib.hid hats
  have HWH := Lib.hid hwhat
  clear h hB hb hbn hbl hoff hats hwhat
  go_enter Try.func46, Try.ntmps46
  go_wp2_with fail
  go_loopw [11] (fun s wr => ∃ (j i : Nat) (sv2 lv2 av2 wv2 : Value) (F2 : Rf), s = .int .i64 (i : Int) ∧ Hid (i = j * 48) ∧ Hid (j ≤ (l.length + 47) / 48) ∧ Hid (RfM wr (Rfm g sv2 lv2 av2 wv2) g sv2 lv2 av2 wv2 F2) ∧ Hid (∀ k, Rfm g sv2 lv2 av2 wv2 k → Rfm g sv lv av wv k ∨ W.heap.size ≤ k) ∧ Hid (Keep (Rfm g sv lv av wv) W wr) ∧ Hid (F.putC side rd at_ (chunksL l) = F2.putC side rd (at_ + j) ((chunksL l).drop j)) ∧ Hid (F2.ats.length ≤ F.ats.length + j) ∧ Hid (F2.what.length ≤ F.what.length + j) ∧ i ≤ l.length + 48) (fun s _ => l.length + 96 - (intOf s).toNat)
  case atStart => exact ⟨0, 0, sv, lv, av, wv, F, rfl, Lib.hid (by simp), Lib.hid (Nat.zero_le _), HH, Lib.hid (fun k hk => .inl hk), Lib.hid (Keep.refl _ _), Lib.hid (by simp), Lib.hid (Nat.le_refl _), Lib.hid (Nat.le_refl _), by omega⟩
  case round =>
    obtain ⟨j, i, sv2, lv2, av2, wv2, F2, rfl, HI, HJ, HM, HR, HK, HP, HA2, HW2, hi⟩ := hrel
    by_cases hlt : i < l.length
    · have hc0 := HKV.out _ HK.out
      have HBR := Lib.hid (HKB.out _ HK.out)
      obtain ⟨m, hm, hm1, HMM⟩ : ∃ m : Nat, (if (l.length : Int) < (i : Int) + 48 then (l.length : Int) else (i : Int) + 48) = (m : Int) ∧ m ≤ l.length ∧ Hid (m = min (i + 48) l.length) := ⟨min (i + 48) l.length, by split <;> omega, by omega, rfl⟩
      have him : i ≤ m := by have := HMM.out; omega
      obtain ⟨a2, c2, s2, k2⟩ := slice_part (a := a) hcap i m (i : Int) (m : Int) rfl rfl him hm1
      have HPC := Lib.hid (show (chunksL l)[j]? = some ((l.drop i).take (m - i)) by
        have h1 := HI.out
        have h2 := HMM.out
        unfold chunksL
        rw [chop_get _ _ _ (by omega), h2, h1, chunk_part])
      have HB2 := Lib.hid (k2 _ HBR.out)
      have hq : (i : Int) / 48 = (j : Int) := by have := HI.out; omega
      have hjs : j ≤ 1500 := by have := HI.out; omega
      have CP := Lib.hid (refMput_any HM.out.drew side rd ((at_ + j : Nat) : Int) a2 c2 _ (HB2.out.below (Below.refl _ _).drew) (by have := HA2.out; have := HA.out; omega) (by have := HW2.out; have := HWH.out; omega))
      rw [show ((at_ + j : Nat) : Int) = (at_ : Int) + (j : Int) by omega] at CP
      have HPX := Lib.hid (show F.putC side rd at_ (chunksL l) = if (F2.mput side rd ((at_ : Int) + (j : Int)) ((l.drop i).take (m - i))).1 == 0 then (F2.mput side rd ((at_ : Int) + (j : Int)) ((l.drop i).take (m - i))).2.putC side rd (at_ + (j + 1)) ((chunksL l).drop (j + 1)) else F2.mput side rd ((at_ : Int) + (j : Int)) ((l.drop i).take (m - i)) by
        rw [HP.out]
        have hjl := (List.getElem?_eq_some_iff.1 HPC.out).1
        have he : (chunksL l)[j] = (l.drop i).take (m - i) := Option.some.inj ((List.getElem?_eq_getElem hjl).symm.trans HPC.out)
        rw [List.drop_eq_getElem_cons hjl, he]
        simp only [Rf.putC]
        rfl)
      have HFW := Lib.hid (refMput_few F2 side rd ((at_ : Int) + (j : Int)) ((l.drop i).take (m - i)))
      have HJ2 := Lib.hid (show j + 1 ≤ (l.length + 47) / 48 by have := HI.out; omega)
      have HI2 := Lib.hid (show i + 48 = (j + 1) * 48 by have := HI.out; omega)
      have hi2 : i + 48 ≤ l.length + 48 := by omega
      clear k2 HPC HP
      generalize (l.drop i).take (m - i) = pc at *
      generalize F2.mput side rd ((at_ : Int) + (j : Int)) pc = res at *
      obtain ⟨er, F3⟩ := res
      dsimp only at HPX HFW
      have hwj : IntKind.i64.wrap (j : Int) = (j : Int) := IntWalk.i64_in _ (by omega)
      have hwa : IntKind.i64.wrap ((at_ : Int) + (j : Int)) = (at_ : Int) + (j : Int) := IntWalk.i64_in _ (by omega)
      have hw48 : IntKind.i64.wrap ((i : Int) + 48) = (i : Int) + 48 := IntWalk.i64_in _ (by omega)
      cases te : (er == 0) with
      | true =>
        have he0 : er = 0 := by simpa using te
        subst he0
        go_wp2_with fail
        go_region_law (go_simp; go_at_call 67; refine CP.out.mono ?_; rintro e w4 ⟨rfl, ⟨sv3, lv3, av3, wv3, h3⟩, k3'⟩)
        all_goals
          have k3 : Keep (Rfm g sv2 lv2 av2 wv2) wr w4 := ⟨k3'.os, k3'.tape, k3'.output, k3'.size, k3'.block⟩
          clear k3'
          replace h3 : RfM w4 (ext (Rfm g sv2 lv2 av2 wv2) wr w4) g sv3 lv3 av3 wv3 F3 := h3
          have HM3 := Lib.hid h3.shrink
          have HR3 := Lib.hid (show ∀ k, Rfm g sv3 lv3 av3 wv3 k → Rfm g sv lv av wv k ∨ W.heap.size ≤ k from fun k hk => by
            rcases h3.within k hk with h | h
            · exact HR.out k h
            · exact .inr (Nat.le_trans HK.out.size h.1))
          have HK3 := Lib.hid (show Keep (Rfm g sv lv av wv) W w4 from HK.out.trans k3 (fun i hi hr => by
            rcases HR.out i hr with h | h
            · exact h
            · omega))
          have HP3 := Lib.hid (show F.putC side rd at_ (chunksL l) = F3.putC side rd (at_ + (j + 1)) ((chunksL l).drop (j + 1)) by rw [HPX.out]; rfl)
          have HA3 := Lib.hid (show F3.ats.length ≤ F.ats.length + (j + 1) by have := HFW.out.1; have := HA2.out; omega)
          have HW3 := Lib.hid (show F3.what.length ≤ F.what.length + (j + 1) by have := HFW.out.2; have := HW2.out; omega)
          clear h3 k3
          go_wp2_with fail
          go_roundw
          case rel => exact ⟨j + 1, i + 48, sv3, lv3, av3, wv3, F3, by go_num, HI2, HJ2, HM3, HR3, HK3, HP3, HA3, HW3, hi2⟩
          case measure => simp [intOf]; omega
      | false =>
        go_wp2_with fail
        go_region_law (go_simp; go_at_call 67; refine CP.out.mono ?_; rintro e w4 ⟨rfl, ⟨sv3, lv3, av3, wv3, h3⟩, k3'⟩)
        all_goals
          have k3 : Keep (Rfm g sv2 lv2 av2 wv2) wr w4 := ⟨k3'.os, k3'.tape, k3'.output, k3'.size, k3'.block⟩
          clear k3'
          replace h3 : RfM w4 (ext (Rfm g sv2 lv2 av2 wv2) wr w4) g sv3 lv3 av3 wv3 F3 := h3
          have HE := Lib.hid (show F.putC side rd at_ (chunksL l) = (er, F3) by rw [HPX.out]; simp only [te]; rfl)
          have HK3 := Lib.hid (show Keep (Rfm g sv lv av wv) W w4 from HK.out.trans k3 (fun i hi hr => by
            rcases HR.out i hr with h | h
            · exact h
            · omega))
          have HM3 := Lib.hid (show RefP w4 (ext (Rfm g sv lv av wv) W w4) g F3 from ⟨sv3, lv3, av3, wv3, h3.mono (fun k hk => hk.elim (fun h => Nat.lt_of_lt_of_le (HDM.out k h) HK3.out.size) (fun h => h.2)) (fun k hk => by
            have hd := h3.dom k hk
            rcases hk with h | h
            · rcases HR.out k h with h | h
              · exact .inl h
              · exact .inr ⟨h, hd⟩
            · exact .inr ⟨Nat.le_trans HK.out.size h.1, h.2⟩)⟩)
          clear h3 k3
          go_wp2_with fail
          go_ret
          rw [HE.out]
          exact ⟨rfl, HM3.out, HK3.out⟩
    · have HE := Lib.hid (show F.putC side rd at_ (chunksL l) = (0, F2) by
        rw [HP.out, List.drop_eq_nil_of_le (by rw [chunksL_len]; have := HI.out; omega)]
        rfl)
      go_wp2_with fail
      go_ret
      rw [HE.out]
      exact ⟨rfl, ⟨sv2, lv2, av2, wv2, HM.out.mono (fun k hk => hk.elim (fun h => Nat.lt_of_lt_of_le (HDM.out k h) HK.out.size) (fun h => h.2)) (fun k hk => by
        rcases HR.out k hk with h | h
        · exact .inl h
        · exact .inr ⟨h, HM.out.dom k hk⟩)⟩, HK.out⟩
end

end Go.Proofs.Ytipikkniookanaa
