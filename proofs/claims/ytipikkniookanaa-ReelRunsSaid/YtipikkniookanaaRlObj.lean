/- A reel in memory; what whole, left, heed, Ready, Left, Flush, Add and Begin of package reel answer. -/
import Derived.Test.YtipikkniookanaaRlPut
import Derived.Test.YtipikkniookanaaFar
import Derived.Deep.RegionLaw
import Derived.Deep.DeepCutAuto
namespace Go.Proofs.Ytipikkniookanaa
set_option maxRecDepth 100000
open Go.RowKit

set_option maxHeartbeats 1000000 in
theorem whole_any (x y : Value) (a : Option Addr) (n c : Nat) (w : World) : Calls Try.prog 31 #[.agg #[x, y, .slice a n c]] w (BoolB (decide (0 < n)) w) := by
  have V := (RowV.new w x y (.slice a n c)).cells
  obtain ⟨_, _, f2, _⟩ := V
  have b := (Below.refl w.heap.size w).alloc (Nat.le_refl _) (.cells #[x, y, .slice a n c] 64)
  by_cases h0 : 0 < n
  · have t0 : decide (0 < (n : Int)) = true := by simpa using h0
    go_enter Try.func31, Try.ntmps31
    go_wp2_with fail
    go_ret
    exact ⟨by simp [h0], b⟩
  · have t0 : decide (0 < (n : Int)) = false := by simp; omega
    go_enter Try.func31, Try.ntmps31
    go_wp2_with fail
    go_ret
    exact ⟨by simp [h0], b⟩

set_option maxHeartbeats 1000000 in
theorem left_any {w : World} {R : Nat → Prop} {g bs bl : Nat} {lv : Value} {P : Pl} (h : PlM w R g bs bl lv P) (x v : Value) (q : Nat) (hq : q ≤ P.sure.length / 2) : Calls Try.prog 34 #[.agg #[x, .int .i64 (q : Int), v], ptr g] w (IntB ((P.sure.length / 2 - q : Nat) : Int) w) := by
  have V := (RowV.new w x (.int .i64 (q : Int)) v).cells
  obtain ⟨_, f1, _, _⟩ := V
  have b := (Below.refl w.heap.size w).alloc (Nat.le_refl _) (.cells #[x, .int .i64 (q : Int), v] 64)
  have CR := Lib.hid (fun W' (hb : Below (w.alloc (.cells #[x, .int .i64 (q : Int), v] 64)).heap.size (w.alloc (.cells #[x, .int .i64 (q : Int), v] 64)) W') => room_any ((h.alloc (.cells #[x, .int .i64 (q : Int), v] 64)).below hb))
  have LX := fun p => far_cell (w := w.alloc (.cells #[x, .int .i64 (q : Int), v] 64)) (a := ⟨w.heap.size, 1, none⟩) (by simp) f1 p
  have hm := h.good.most
  generalize hn : P.sure.length / 2 = n at *
  have hn2 : n ≤ 2048 := by omega
  clear h hn hm
  go_enter Try.func34, Try.ntmps34
  go_wp2_with fail
  refine wp_region_far (by kernel_rfl) (by kernel_rfl) ?_
  repeat (first | go_big_quiet_step ((go_at_call 39; exact calls_far_same (CR.out _ (far_below _ _)))) | quiet_step ((go_at_call 39; exact calls_far_same (CR.out _ (far_below _ _)))))
  refine wpQuiet_nil ?_
  intro _ hw'
  obtain ⟨p, hw''⟩ := hw'
  subst hw''
  go_wp2_with fail
  go_ret
  refine ⟨?_, b.trans ((far_below _ p).mono b.size)⟩
  show Ending.returned (.int .i64 ((n : Int) - (q : Int))) = _
  congr 2
  omega

/-- The variables of a reel. -/
def RlV (w : World) (b g side : Nat) (ready : Bool) : Prop := w.heap[b]? = some (.cells #[ptr g, .int .i64 (side : Int), .bool ready] 62 (0, 0))
theorem RlV.lt {w : World} {b g side : Nat} {ready : Bool} (h : RlV w b g side ready) : b < w.heap.size := (Array.getElem?_eq_some_iff.1 h).1
theorem RlV.cells {w : World} {b g side : Nat} {ready : Bool} (h : RlV w b g side ready) : w.cell? ⟨b, 0, none⟩ = some (ptr g) ∧ w.cell? ⟨b, 1, none⟩ = some (.int .i64 (side : Int)) ∧ w.cell? ⟨b, 2, none⟩ = some (.bool ready) ∧ w.frozen? ⟨b, 1, none⟩ = false ∧ w.frozen? ⟨b, 2, none⟩ = false := by
  unfold RlV at h
  simp [World.cell?, World.frozen?, h]
theorem RlV.same {w w' : World} {b g side : Nat} {ready : Bool} (h : RlV w b g side ready) (hb : w'.heap[b]? = w.heap[b]?) : RlV w' b g side ready := hb.trans h
theorem RlV.set1 {w : World} {b g side : Nat} {ready : Bool} (h : RlV w b g side ready) (s : Nat) : RlV (w.setCell ⟨b, 1, none⟩ (.int .i64 (s : Int))) b g s ready := by
  unfold RlV at *
  rw [heap_setCell_same w b 1 _ _ _ h]
  rfl
theorem RlV.set2 {w : World} {b g side : Nat} {ready : Bool} (h : RlV w b g side ready) (r : Bool) : RlV (w.setCell ⟨b, 2, none⟩ (.bool r)) b g side r := by
  unfold RlV at *
  rw [heap_setCell_same w b 2 _ _ _ h]
  rfl

/-- A reel at block b on a plate at block g, of blocks R. -/
def atRl (b g : Nat) (r : Rl) (w : World) (R : Nat → Prop) : Prop := ∃ bs bl lv, PlM w R g bs bl lv r.P ∧ R b ∧ ¬ Rmin g bs bl lv b ∧ RlV w b g r.side r.ready

theorem stays_rl (b g : Nat) (r : Rl) : Stays (atRl b g r) :=
  ⟨fun w R h k hk => by obtain ⟨bs, bl, lv, h, _⟩ := h; exact h.dom k hk, fun w w' R h hs hb => by
    obtain ⟨bs, bl, lv, h1, h2, h3, h4⟩ := h
    exact ⟨bs, bl, lv, h1.same hs hb, h2, h3, h4.same (hb b h2)⟩⟩

/-- A reel in what was its own or new, since w; all else is as it was. -/
def ReI (b g : Nat) (r : Rl) (R : Nat → Prop) (w W : World) : Prop :=
  ∃ bs bl lv, PlM W (Rmin g bs bl lv) g bs bl lv r.P ∧ (∀ k, Rmin g bs bl lv k → (R k ∨ w.heap.size ≤ k) ∧ k ≠ b) ∧ (R b ∧ ∀ k, R k → k < w.heap.size) ∧ Keep R w W ∧ RlV W b g r.side r.ready

theorem atRl.start {b g : Nat} {r : Rl} {w : World} {R : Nat → Prop} (h : atRl b g r w R) : ReI b g r R w w := by
  obtain ⟨bs, bl, lv, h1, h2, h3, h4⟩ := h
  exact ⟨bs, bl, lv, h1.shrink, fun k hk => ⟨.inl (h1.within k hk), fun e => h3 (e ▸ hk)⟩, ⟨h2, h1.dom⟩, Keep.refl _ _, h4⟩
theorem ReI.fin {b g : Nat} {r : Rl} {w W : World} {R : Nat → Prop} (h : ReI b g r R w W) : atRl b g r W (ext R w W) ∧ Keep R w W := by
  obtain ⟨bs, bl, lv, h1, h2, h3, h4, h5⟩ := h
  refine ⟨⟨bs, bl, lv, h1.mono (fun k e => ?_) (fun k e => ?_), .inl h3.1, fun e => (h2 b e).2 rfl, h5⟩, h4⟩
  · rcases e with h | h
    · exact Nat.lt_of_lt_of_le (h3.2 k h) h4.size
    · exact h.2
  · rcases (h2 k e).1 with h | h
    · exact .inl h
    · exact .inr ⟨h, h1.dom k e⟩
theorem ReI.below {b g : Nat} {r : Rl} {w W W' : World} {R : Nat → Prop} (h : ReI b g r R w W) (hb : Below W.heap.size W W') : ReI b g r R w W' := by
  obtain ⟨bs, bl, lv, h1, h2, h3, h4, h5⟩ := h
  exact ⟨bs, bl, lv, h1.below hb, h2, h3, h4.of_below hb, h5.same (hb.block _ h5.lt)⟩
theorem ReI.plate {b g : Nat} {r : Rl} {w W : World} {R : Nat → Prop} (h : ReI b g r R w W) : ∃ bs bl lv, PlM W (Rmin g bs bl lv) g bs bl lv r.P ∧ ∀ (P' : Pl) (W' : World), PlateP W' (ext (Rmin g bs bl lv) W W') g P' → Keep (Rmin g bs bl lv) W W' → ReI b g ⟨P', r.side, r.ready⟩ R w W' := by
  obtain ⟨bs, bl, lv, h1, h2, h3, h4, h5⟩ := h
  refine ⟨bs, bl, lv, h1, fun P' W' hp hk => ?_⟩
  obtain ⟨bs2, bl2, lv2, hp⟩ := hp
  refine ⟨bs2, bl2, lv2, hp.shrink, fun k hr => ?_, h3, h4.trans hk (fun i hi hr => ?_), h5.same (hk.block _ h5.lt (fun e => (h2 b e).2 rfl))⟩
  · rcases hp.within k hr with h | h
    · exact h2 k h
    · have := h5.lt
      have := h4.size
      exact ⟨.inr (by omega), by omega⟩
  · rcases (h2 i hr).1 with h | h
    · exact h
    · omega
theorem ReI.vars {b g : Nat} {r : Rl} {w W : World} {R : Nat → Prop} (h : ReI b g r R w W) : RlV W b g r.side r.ready := by
  obtain ⟨bs, bl, lv, h1, h2, h3, h4, h5⟩ := h
  exact h5
theorem ReI.good {b g : Nat} {r : Rl} {w W : World} {R : Nat → Prop} (h : ReI b g r R w W) : r.P.Good := by
  obtain ⟨bs, bl, lv, h1, h2, h3, h4, h5⟩ := h
  exact h1.good
theorem ReI.set1 {b g : Nat} {r : Rl} {w W : World} {R : Nat → Prop} (h : ReI b g r R w W) (s : Nat) : ReI b g ⟨r.P, s, r.ready⟩ R w (W.setCell ⟨b, 1, none⟩ (.int .i64 (s : Int))) := by
  obtain ⟨bs, bl, lv, h1, h2, h3, h4, h5⟩ := h
  exact ⟨bs, bl, lv, h1.same (by simp [World.setCell]) (fun k hk => heap_setCell_other _ _ _ _ (h2 k hk).2), h2, h3, h4.setCell (fun _ => h3.1) _, h5.set1 s⟩
theorem ReI.set2 {b g : Nat} {r : Rl} {w W : World} {R : Nat → Prop} (h : ReI b g r R w W) (d : Bool) : ReI b g ⟨r.P, r.side, d⟩ R w (W.setCell ⟨b, 2, none⟩ (.bool d)) := by
  obtain ⟨bs, bl, lv, h1, h2, h3, h4, h5⟩ := h
  exact ⟨bs, bl, lv, h1.same (by simp [World.setCell]) (fun k hk => heap_setCell_other _ _ _ _ (h2 k hk).2), h2, h3, h4.setCell (fun _ => h3.1) _, h5.set2 d⟩

/-- An error and what becomes of the reel. -/
def RlPost (res : Int × Rl) (b g : Nat) (R : Nat → Prop) (w : World) (e : Ending) (w' : World) : Prop := e = .returned (.int .i64 res.1) ∧ ReI b g res.2 R w w'

section
variable {b g : Nat} {r : Rl} {w W : World} {R : Nat → Prop}

set_option maxHeartbeats 1000000 in
theorem heed_any (h : ReI b g r R w W) (e : Int) : Calls Try.prog 35 #[ptr b, .int .i64 e] W (RlPost (e, ⟨r.P, r.side, e == 0⟩) b g R w) := by
  obtain ⟨_, _, f2, _, z2⟩ := h.vars.cells
  have H := Lib.hid (h.set2 (e == 0))
  clear h
  go_enter Try.func35, Try.ntmps35
  go_wp2_with fail
  go_ret
  exact ⟨rfl, H.out⟩

set_option maxHeartbeats 1000000 in
theorem ready_any (h : ReI b g r R w W) : Calls Try.prog 26 #[ptr b] W (fun e w' => e = .returned (.bool r.ready) ∧ W = w') := by
  obtain ⟨_, _, f2, _, _⟩ := h.vars.cells
  clear h
  go_enter Try.func26, Try.ntmps26
  go_wp2_with fail
  go_ret
  exact ⟨rfl, rfl⟩

set_option maxHeartbeats 2000000 in
theorem rflush_any (h : ReI b g r R w W) : Calls Try.prog 13 #[ptr b] W (RlPost r.flush b g R w) := by
  obtain ⟨f0, _, f2, _, _⟩ := h.vars.cells
  have H := Lib.hid h
  cases hr : r.ready with
  | false =>
    have E := Lib.hid (show r.flush = (91, r) by unfold Rl.flush; rw [hr]; rfl)
    rw [hr] at f2
    clear h
    go_enter Try.func13, Try.ntmps13
    go_wp2_with fail
    go_ret
    rw [E.out]
    exact ⟨rfl, H.out⟩
  | true =>
    obtain ⟨bs, bl, lv, hp, hn⟩ := h.plate
    have CF := Lib.hid (flush_any hp)
    have HN := Lib.hid hn
    have E := Lib.hid (show r.flush = (r.P.flush.1, ⟨r.P.flush.2, r.side, r.P.flush.1 == 0⟩) by unfold Rl.flush; rw [hr]; rfl)
    rw [hr] at f2
    clear h hp hn
    go_enter Try.func13, Try.ntmps13
    go_wp2_with fail
    refine CF.out.mono ?_
    rintro e w1 ⟨rfl, hp1, hk1⟩
    have CH := Lib.hid (heed_any (HN.out _ _ hp1 hk1) r.P.flush.1)
    clear hp1 hk1
    go_wp2_with fail
    refine CH.out.mono ?_
    rintro e w2 ⟨rfl, h2⟩
    go_wp2_with fail
    go_ret
    rw [E.out]
    exact ⟨rfl, h2⟩

set_option maxHeartbeats 2000000 in
theorem rleft_any (h : ReI b g r R w W) : Calls Try.prog 27 #[ptr b] W (IntB (r.left : Int) W) := by
  obtain ⟨f0, f1, f2, _, _⟩ := h.vars.cells
  cases hr : r.ready with
  | false =>
    have E := Lib.hid (show r.left = 0 by unfold Rl.left; rw [hr]; rfl)
    rw [hr] at f2
    clear h
    go_enter Try.func27, Try.ntmps27
    go_wp2_with fail
    go_ret
    rw [E.out]
    exact ⟨rfl, Below.refl _ _⟩
  | true =>
    obtain ⟨bs, bl, lv, hp, hn⟩ := h.plate
    have hlt := h.vars.lt
    have CR := Lib.hid (fun W' (hb : Below W.heap.size W W') => rowOn_any (hp.below hb) (r.side : Int))
    have hle := (rowOf_le hp.good.cl (r.side : Int)).1
    have E := Lib.hid (show r.left = r.P.sure.length / 2 - (rowOf r.P.last (r.side : Int)).2.2 by unfold Rl.left Rl.room Rl.row; rw [hr]; rfl)
    rw [hp.good.size] at hle
    have HP := Lib.hid hp
    obtain ⟨rd, ls, q, hrw⟩ : ∃ rd ls q, rowOf r.P.last (r.side : Int) = (rd, ls, q) := ⟨_, _, _, rfl⟩
    rw [hrw] at CR hle E
    rw [hr] at f2
    dsimp only at hle E
    have HLE := Lib.hid hle
    clear h hp hn hrw hle
    go_enter Try.func27, Try.ntmps27
    go_wp2_with fail
    go_region_law (go_simp; first
      | (go_at_call 30; (first | (with_reducible refine (CR.out _ (Below.refl _ _)).mono ?_) | (with_reducible refine (CR.out _ (Below.refl _ _).drew).mono ?_)); rintro e w1 ⟨a1, c1, rfl, o1, b1⟩; have b1 : Below W.heap.size W w1 := ⟨b1.os, b1.tape, b1.output, b1.size, b1.block⟩; have B1 := Lib.hid b1; have f0' := (b1.cell (p := ⟨b, 0, none⟩) hlt).trans f0; have CL := Lib.hid (fun W' (hb : Below w1.heap.size w1 W') => left_any ((HP.out.below B1.out).below hb) (.int .u64 (rd : Int)) (.slice a1 ls.length c1) q HLE.out); clear o1 b1)
      | (go_at_call 34; (first | (with_reducible refine (CL.out _ (Below.refl _ _)).mono ?_) | (with_reducible refine (CL.out _ (Below.refl _ _).drew).mono ?_)); rintro e w2 ⟨rfl, b2⟩; have b2 : Below w1.heap.size w1 w2 := ⟨b2.os, b2.tape, b2.output, b2.size, b2.block⟩; have B2 := Lib.hid b2; clear b2))
    all_goals
      go_wp2_with fail
      go_ret
      rw [E.out]
      exact ⟨rfl, B1.out.trans (B2.out.mono B1.out.size)⟩

set_option maxHeartbeats 4000000 in
theorem begin_any (h : ReI b g r R w W) (a : Option Addr) (cap : Nat) (t : List Nat) (hB : BytesP W a cap t) (hs : r.side ≤ 1) (hlo : r.P.loose.length + 1366 ≤ 100000) : Calls Try.prog 14 #[ptr b, .slice a t.length cap] W (RlPost (r.begin t) b g R w) := by
  obtain ⟨f0, f1, f2, z1, z2⟩ := h.vars.cells
  have hlt := h.vars.lt
  have H := Lib.hid h
  have HB := Lib.hid hB
  obtain ⟨bs, bl, lv, hp, hn⟩ := h.plate
  have HP := Lib.hid hp
  have CT := Lib.hid (top_any hp)
  have CR := Lib.hid (fun W' (hb : Below W.heap.size W W') => room_any (hp.below hb))
  have CF := Lib.hid (fun W' => fits_any a cap t.length (r.P.sure.length / 2) W' hB.len)
  have HE := Lib.hid (show r.begin t = if fitsB t.length (r.P.sure.length / 2) && decide (topL r.P.last < 1099511627776) then
    (if (r.P.putC ((1 - r.side : Nat) : Int) (topL r.P.last + 1) 0 (chunksL (frameL 1 t))).1 == 0 then
      (if (r.P.putC ((1 - r.side : Nat) : Int) (topL r.P.last + 1) 0 (chunksL (frameL 1 t))).2.flush.1 == 0 then
        (0, ⟨(r.P.putC ((1 - r.side : Nat) : Int) (topL r.P.last + 1) 0 (chunksL (frameL 1 t))).2.flush.2, 1 - r.side, true⟩)
      else ((r.P.putC ((1 - r.side : Nat) : Int) (topL r.P.last + 1) 0 (chunksL (frameL 1 t))).2.flush.1, ⟨(r.P.putC ((1 - r.side : Nat) : Int) (topL r.P.last + 1) 0 (chunksL (frameL 1 t))).2.flush.2, r.side, false⟩))
    else ((r.P.putC ((1 - r.side : Nat) : Int) (topL r.P.last + 1) 0 (chunksL (frameL 1 t))).1, ⟨(r.P.putC ((1 - r.side : Nat) : Int) (topL r.P.last + 1) 0 (chunksL (frameL 1 t))).2, r.side, false⟩))
  else (92, r) from rfl)
  obtain ⟨tp, htp⟩ : ∃ tp, topL r.P.last = tp := ⟨_, rfl⟩
  rw [htp] at CT HE
  have hft : fitsB t.length (r.P.sure.length / 2) = true → t.length ≤ 65536 := fun hf => by
    simp only [fitsB, Bool.and_eq_true, decide_eq_true_eq] at hf
    have h1 := hf.1
    unfold cellsN at h1
    split at h1
    · assumption
    · omega
  have HFT := Lib.hid hft
  have HCL := Lib.hid (cellsN_le t.length)
  clear h hB hn hp htp hft
  generalize r.P.sure.length / 2 = n at *
  cases tf : fitsB t.length n with
  | false =>
    have E := Lib.hid (show r.begin t = (92, r) by rw [HE.out, tf]; rfl)
    rw [tf] at CF
    go_enter Try.func14, Try.ntmps14
    go_wp2_with fail
    refine CT.out.mono ?_
    rintro e w1 ⟨rfl, b1⟩
    have g0 := (b1.cell (p := ⟨b, 0, none⟩) hlt).trans f0
    go_wp2_with fail
    refine (CR.out _ b1).mono ?_
    rintro e w2 ⟨rfl, rfl⟩
    go_wp2_with fail
    refine (CF.out _).mono ?_
    rintro e w3 ⟨rfl, b3⟩
    go_wp2_with fail
    go_ret
    rw [E.out]
    exact ⟨rfl, H.out.below (b1.trans (b3.mono b1.size))⟩
  | true =>
    rw [tf] at CF
    have hl := HFT.out tf
    by_cases ht : 1099511627776 ≤ tp
    · have E := Lib.hid (show r.begin t = (92, r) by rw [HE.out, tf, decide_eq_false (by omega)]; rfl)
      have tt : decide (1099511627776 ≤ (tp : Int)) = true := by simp; omega
      go_enter Try.func14, Try.ntmps14
      go_wp2_with fail
      refine CT.out.mono ?_
      rintro e w1 ⟨rfl, b1⟩
      have g0 := (b1.cell (p := ⟨b, 0, none⟩) hlt).trans f0
      go_wp2_with fail
      refine (CR.out _ b1).mono ?_
      rintro e w2 ⟨rfl, rfl⟩
      go_wp2_with fail
      refine (CF.out _).mono ?_
      rintro e w3 ⟨rfl, b3⟩
      go_wp2_with fail
      go_ret
      rw [E.out]
      exact ⟨rfl, H.out.below (b1.trans (b3.mono b1.size))⟩
    · have tt : decide (1099511627776 ≤ (tp : Int)) = false := by simp; omega
      have hto : (1 : Int) - (r.side : Int) = ((1 - r.side : Nat) : Int) := by omega
      obtain ⟨rd, hrd, HRD⟩ : ∃ rd : Nat, (tp : Int) + 1 = (rd : Int) ∧ Hid (tp + 1 = rd) := ⟨tp + 1, by omega, rfl⟩
      have htw : IntKind.u64.wrap (rd : Int) = (rd : Int) := by have := HRD.out; rw [IntKind.wrap_u64]; omega
      rw [tf, decide_eq_true (show tp < 1099511627776 by omega), HRD.out] at HE
      generalize 1 - r.side = sd at *
      have CP := Lib.hid (fun W' bs' bl' lv' (hp' : PlM W' (Rmin g bs' bl' lv') g bs' bl' lv' r.P) (hB' : BytesP W' a cap t) => show Calls Try.prog 36 #[ptr g, .int .i64 (sd : Int), .agg #[.int .u64 (rd : Int), .int .i64 0, .slice none 0 0], .agg #[.int .u8 1, .slice a t.length cap]] W' (PlPost (r.P.putC (sd : Int) rd 0 (chunksL (frameL 1 t))) (Rmin g bs' bl' lv') g W') from
        rput_any hp' (sd : Int) rd 0 (.slice none 0 0) 1 (by decide) a cap t hB' hl (by omega) (by have := HCL.out; omega))
      generalize r.P.putC (sd : Int) rd 0 (chunksL (frameL 1 t)) = pr at *
      go_enter Try.func14, Try.ntmps14
      go_wp2_with fail
      refine CT.out.mono ?_
      rintro e w1 ⟨rfl, b1⟩
      have g0 := (b1.cell (p := ⟨b, 0, none⟩) hlt).trans f0
      go_wp2_with fail
      refine (CR.out _ b1).mono ?_
      rintro e w2 ⟨rfl, rfl⟩
      go_wp2_with fail
      refine (CF.out _).mono ?_
      rintro e w3 ⟨rfl, b3⟩
      have b13 := b1.trans (b3.mono b1.size)
      have H3 := H.out.below b13
      obtain ⟨k0, k1, _⟩ := H3.vars.cells
      obtain ⟨bs3, bl3, lv3, hp3, hn3⟩ := H3.plate
      have C3 := Lib.hid (CP.out _ _ _ _ hp3 (HB.out.below b13))
      have HN3 := Lib.hid hn3
      clear hp3 hn3 CP CT CR CF H3 b13 b3
      go_wp2_with fail
      refine C3.out.mono ?_
      rintro e w4 ⟨rfl, hp4, hk4⟩
      have h4 := HN3.out _ _ hp4 hk4
      obtain ⟨v0, v1, v2, x1, x2⟩ := h4.vars.cells
      have H4 := Lib.hid h4
      cases te : (pr.1 == 0) with
      | false =>
        have E := Lib.hid (show r.begin t = (pr.1, ⟨pr.2, r.side, false⟩) by rw [HE.out]; simp only [Bool.and_self, if_true, te]; rfl)
        have H5 := Lib.hid (h4.set2 false)
        clear hp4 hk4 h4 C3 HN3 HE
        go_wp2_with fail
        go_ret
        rw [E.out]
        exact ⟨rfl, H5.out⟩
      | true =>
        obtain ⟨bs5, bl5, lv5, hp5, hn5⟩ := h4.plate
        have CS := Lib.hid (flush_any hp5)
        have HN5 := Lib.hid hn5
        have hz : pr.1 = 0 := by simpa using te
        have E0 := Lib.hid (show r.begin t = if pr.2.flush.1 == 0 then (0, ⟨pr.2.flush.2, sd, true⟩) else (pr.2.flush.1, ⟨pr.2.flush.2, r.side, false⟩) by rw [HE.out]; simp only [Bool.and_self, if_true, te])
        rw [hz]
        clear hp4 hk4 h4 C3 HN3 HE hp5 hn5 te hz
        dsimp only at CS HN5
        go_wp2_with fail
        refine CS.out.mono ?_
        rintro e w6 ⟨rfl, hp6, hk6⟩
        have h6 := HN5.out _ _ hp6 hk6
        obtain ⟨y0, y1, y2, q1, q2⟩ := h6.vars.cells
        cases te : (pr.2.flush.1 == 0) with
        | false =>
          have E := Lib.hid (show r.begin t = (pr.2.flush.1, ⟨pr.2.flush.2, r.side, false⟩) by rw [E0.out, te]; rfl)
          have H7 := Lib.hid (h6.set2 false)
          clear hp6 hk6 h6 E0 CS HN5
          go_wp2_with fail
          go_ret
          rw [E.out]
          exact ⟨rfl, H7.out⟩
        | true =>
          have hz : pr.2.flush.1 = 0 := by simpa using te
          have E := Lib.hid (show r.begin t = (0, ⟨pr.2.flush.2, sd, true⟩) by rw [E0.out, te]; rfl)
          have h7 := h6.set2 true
          obtain ⟨_, _, _, p1, _⟩ := h7.vars.cells
          have H8 := Lib.hid (h7.set1 sd)
          rw [hz]
          clear hp6 hk6 h6 E0 CS HN5 h7 te hz
          go_wp2_with fail
          go_ret
          rw [E.out]
          exact ⟨rfl, H8.out⟩

set_option maxHeartbeats 4000000 in
theorem add_any (h : ReI b g r R w W) (a : Option Addr) (cap : Nat) (t : List Nat) (hB : BytesP W a cap t) (hlo : r.P.loose.length + 1366 ≤ 100000) : Calls Try.prog 12 #[ptr b, .slice a t.length cap] W (RlPost (r.add t) b g R w) := by
  obtain ⟨f0, f1, f2, z1, z2⟩ := h.vars.cells
  have hlt := h.vars.lt
  have H := Lib.hid h
  have HB := Lib.hid hB
  cases hr : r.ready with
  | false =>
    have E := Lib.hid (show r.add t = (91, r) by unfold Rl.add; rw [hr]; rfl)
    rw [hr] at f2
    clear h hB
    go_enter Try.func12, Try.ntmps12
    go_wp2_with fail
    go_ret
    rw [E.out]
    exact ⟨rfl, H.out⟩
  | true =>
    obtain ⟨bs, bl, lv, hp, hn⟩ := h.plate
    have CR := Lib.hid (fun W' (hb : Below W.heap.size W W') => rowOn_any (hp.below hb) (r.side : Int))
    have hle := (rowOf_le hp.good.cl (r.side : Int)).1
    rw [hp.good.size] at hle
    have hm := hp.good.most
    have HE := Lib.hid (show r.add t = if fitsB t.length (r.P.sure.length / 2 - (rowOf r.P.last (r.side : Int)).2.2) then ((r.P.putC (r.side : Int) (rowOf r.P.last (r.side : Int)).1 (rowOf r.P.last (r.side : Int)).2.2 (chunksL (frameL 2 t))).1, ⟨(r.P.putC (r.side : Int) (rowOf r.P.last (r.side : Int)).1 (rowOf r.P.last (r.side : Int)).2.2 (chunksL (frameL 2 t))).2, r.side, (r.P.putC (r.side : Int) (rowOf r.P.last (r.side : Int)).1 (rowOf r.P.last (r.side : Int)).2.2 (chunksL (frameL 2 t))).1 == 0⟩) else (92, r) by unfold Rl.add Rl.room Rl.row; rw [hr]; rfl)
    obtain ⟨rd, ls, q, hrw⟩ : ∃ rd ls q, rowOf r.P.last (r.side : Int) = (rd, ls, q) := ⟨_, _, _, rfl⟩
    rw [hrw] at CR hle HE
    rw [hr] at f2
    dsimp only at hle HE
    have CL := Lib.hid (fun W' (hb : Below W.heap.size W W') x v => left_any (hp.below hb) x v q hle)
    have CF := Lib.hid (fun W' => fits_any a cap t.length (r.P.sure.length / 2 - q) W' hB.len)
    have hft : fitsB t.length (r.P.sure.length / 2 - q) = true → t.length ≤ 65536 := fun hf => by
      simp only [fitsB, Bool.and_eq_true, decide_eq_true_eq] at hf
      have h1 := hf.1
      unfold cellsN at h1
      split at h1
      · assumption
      · omega
    have HFT := Lib.hid hft
    have HCL := Lib.hid (cellsN_le t.length)
    have hq : q ≤ 10000 := by omega
    clear h hB hp hn hrw hle hft
    generalize r.P.sure.length / 2 - q = n at *
    have V0 := (RowV.new W (.int .u64 0) (.int .i64 0) (.slice none 0 0))
    have bz := (Below.refl W.heap.size W).alloc (Nat.le_refl _) (.cells #[.int .u64 0, .int .i64 0, .slice none 0 0] 64)
    have V0H := Lib.hid V0
    have BZ := Lib.hid bz
    clear V0 bz
    go_enter Try.func12, Try.ntmps12
    go_wp2_with fail
    go_cut [5] (fun v wx => ∃ (x : Nat) (a1 : Option Addr) (c1 : Nat), v = ptr x ∧ Hid (RowV wx x (.int .u64 (rd : Int)) (.int .i64 (q : Int)) (.slice a1 ls.length c1)) ∧ Hid (Below W.heap.size W wx))
    case first =>
      go_region_law (go_simp; first
        | (go_at_call 30; (first | (with_reducible refine (CR.out _ (Below.refl _ _)).mono ?_) | (with_reducible refine (CR.out _ (Below.refl _ _).drew).mono ?_)); rintro e w1 ⟨a1, c1, rfl, o1, b1⟩; have b1 : Below W.heap.size W w1 := ⟨b1.os, b1.tape, b1.output, b1.size, b1.block⟩; have BA := Lib.hid b1; clear o1 b1)
        | (go_at_call 30; (first | (with_reducible refine (CR.out _ BZ.out).mono ?_) | (with_reducible refine (CR.out _ BZ.out.drew).mono ?_)); rintro e w1 ⟨a1, c1, rfl, o1, b1⟩; have hv := V0H.out.same (b1.block _ V0H.out.lt); have b1 : Below W.heap.size W w1 := BZ.out.trans (Below.mono ⟨b1.os, b1.tape, b1.output, b1.size, b1.block⟩ BZ.out.size); have BB := Lib.hid b1; obtain ⟨u0, u1, u2, j0, j1, j2⟩ := hv.cells; have HV := Lib.hid hv; clear o1 b1 hv))
      all_goals
        go_wp2_with fail
        go_meet
        first
        | exact ⟨w1.heap.size, a1, c1, rfl, Lib.hid (RowV.new w1 _ _ _), Lib.hid (BA.out.alloc BA.out.size _)⟩
        | exact ⟨W.heap.size, a1, c1, rfl, Lib.hid (((HV.out.set0 _).set1 _).set2 _), Lib.hid (((BB.out.setCell (p := ⟨W.heap.size, 0, none⟩) (Nat.le_refl _) _).setCell (p := ⟨W.heap.size, 1, none⟩) (Nat.le_refl _) _).setCell (p := ⟨W.heap.size, 2, none⟩) (Nat.le_refl _) _)⟩
    case rest =>
      obtain ⟨x, a1, c1, rfl, HV, BC⟩ := hcut
      have hV := HV.out
      have hxl := hV.lt
      obtain ⟨u0, u1, u2, _⟩ := hV.cells
      have g0 := (BC.out.cell (p := ⟨b, 0, none⟩) hlt).trans f0
      have hlx := Nat.lt_of_lt_of_le hlt BC.out.size
      have L0 := fun p => far_cell (w := wc) (a := ⟨b, 0, none⟩) hlx g0 p
      have X0 := fun p => far_cell (w := wc) (a := ⟨x, 0, none⟩) hxl u0 p
      have X1 := fun p => far_cell (w := wc) (a := ⟨x, 1, none⟩) hxl u1 p
      have X2 := fun p => far_cell (w := wc) (a := ⟨x, 2, none⟩) hxl u2 p
      have CL2 := Lib.hid (fun W' (hb : Below wc.heap.size wc W') => CL.out W' (BC.out.trans (hb.mono BC.out.size)) (.int .u64 (rd : Int)) (.slice a1 ls.length c1))
      clear hV CR CL V0H BZ f0 f1 f2 z1 z2
      cases tf : fitsB t.length n with
      | false =>
        have E := Lib.hid (show r.add t = (92, r) by rw [HE.out, tf]; rfl)
        rw [tf] at CF
        go_wp2_with fail
        refine wp_region_far (by kernel_rfl) (by kernel_rfl) ?_
        repeat (first | go_big_quiet_step ((first | (go_at_call 34; exact calls_far (CL2.out _ (far_below _ _))) | (go_at_call 33; exact calls_far (CF.out _)))) | quiet_step ((first | (go_at_call 34; exact calls_far (CL2.out _ (far_below _ _))) | (go_at_call 33; exact calls_far (CF.out _)))))
        refine wpQuiet_nil ?_
        intro _ hw'
        obtain ⟨p, hw''⟩ := hw'
        subst hw''
        go_wp2_with fail
        go_ret
        rw [E.out]
        exact ⟨rfl, H.out.below (BC.out.trans ((far_below wc p).mono BC.out.size))⟩
      | true =>
        have hl := HFT.out tf
        rw [tf] at CF HE
        go_wp2_with fail
        refine wp_region_far (by kernel_rfl) (by kernel_rfl) ?_
        repeat (first | go_big_quiet_step ((first | (go_at_call 34; exact calls_far (CL2.out _ (far_below _ _))) | (go_at_call 33; exact calls_far (CF.out _)))) | quiet_step ((first | (go_at_call 34; exact calls_far (CL2.out _ (far_below _ _))) | (go_at_call 33; exact calls_far (CF.out _)))))
        refine wpQuiet_nil ?_
        intro _ hw'
        obtain ⟨p, hw''⟩ := hw'
        subst hw''
        have b5 := BC.out.trans ((far_below wc p).mono BC.out.size)
        have h5 := H.out.below b5
        have x0 := X0 p
        have x1 := X1 p
        have x2 := X2 p
        have HB5 := Lib.hid (HB.out.below b5)
        have H5 := Lib.hid h5
        clear L0 X0 X1 X2 CL2 CF BC H HB b5 h5
        generalize farOf wc p = w5 at *
        obtain ⟨v0, v1, v2, _⟩ := H5.out.vars.cells
        have HL5 := Lib.hid (show ∀ W', Below w5.heap.size w5 W' → Calls Try.prog 36 #[ptr g, .int .i64 (r.side : Int), .agg #[.int .u64 (rd : Int), .int .i64 (q : Int), .slice a1 ls.length c1], .agg #[.int .u8 2, .slice a t.length cap]] W' (fun e w' => e = .returned (.int .i64 (r.P.putC (r.side : Int) rd q (chunksL (frameL 2 t))).1) ∧ ReI b g ⟨(r.P.putC (r.side : Int) rd q (chunksL (frameL 2 t))).2, r.side, r.ready⟩ R w w') from fun W' hb => by
          obtain ⟨bs, bl, lv, hp, hn⟩ := (H5.out.below hb).plate
          refine (rput_any hp (r.side : Int) rd q (.slice a1 ls.length c1) 2 (by decide) a cap t (HB5.out.below hb) hl hq (by have := HCL.out; omega)).mono ?_
          rintro e w' ⟨rfl, hp', hk'⟩
          exact ⟨rfl, hn _ _ hp' hk'⟩)
        generalize r.P.putC (r.side : Int) rd q (chunksL (frameL 2 t)) = pr at *
        have E := Lib.hid (show r.add t = (pr.1, ⟨pr.2, r.side, pr.1 == 0⟩) by rw [HE.out]; rfl)
        clear HE
        go_wp2_with fail
        go_region_law (go_simp; first
          | (go_at_call 36; (first | (with_reducible refine (HL5.out _ (Below.refl _ _)).mono ?_) | (with_reducible refine (HL5.out _ (Below.refl _ _).drew).mono ?_)); rintro e w6 ⟨rfl, h6⟩; have CH := Lib.hid (fun W' (hb : Below w6.heap.size w6 W') => heed_any (h6.below hb) pr.1); clear h6)
          | (go_at_call 35; (first | (with_reducible refine (CH.out _ (Below.refl _ _)).mono ?_) | (with_reducible refine (CH.out _ (Below.refl _ _).drew).mono ?_)); rintro e w7 ⟨rfl, h7⟩; have H7 := Lib.hid h7; clear h7))
        all_goals
          go_wp2_with fail
          go_ret
          rw [E.out]
          exact ⟨rfl, H7.out⟩
end

end Go.Proofs.Ytipikkniookanaa
