/- What the document's Begin and Open of layer 9 answer; the program's reel and the document's go together. -/
import Derived.Test.YtipikkniookanaaRnCalls
import Derived.Test.YtipikkniookanaaRnObj
import Derived.Test.YtipikkniookanaaMgTale
import Derived.Deep.QuietTactic
import Derived.BigQuiet
namespace Go.Proofs.Ytipikkniookanaa

/- RnBegin: What the document's Begin of layer 9 answers. -/
section
set_option maxRecDepth 100000
open Go.RowKit

attribute [local go_sem ↓] ld26 ld66 st26 st66 bx26 al26 al66 bd26 bd66 bs61 bs48 mk48 eq26 ap61 ap48 ap49 cp46 cp48
attribute [local go_sem] bx_agg al_cell al_wr bd_zero bd_one bd_two bd_nine

def Rd.begin (d : Rd) (t : List Nat) : Int × Rd :=
  if decide (cellsN t.length ≤ d.room) && decide (topL d.F.seen < 1099511627776) then
    (if (d.F.putC ((1 - d.side : Nat) : Int) (topL d.F.seen + 1) 0 (chunksL (frameL 1 t))).1 == 0 then
      (if (d.F.putC ((1 - d.side : Nat) : Int) (topL d.F.seen + 1) 0 (chunksL (frameL 1 t))).2.flush.1 == 0 then
        (0, ⟨(d.F.putC ((1 - d.side : Nat) : Int) (topL d.F.seen + 1) 0 (chunksL (frameL 1 t))).2.flush.2, 1 - d.side, cellsN t.length, topL d.F.seen + 1, true⟩)
      else ((d.F.putC ((1 - d.side : Nat) : Int) (topL d.F.seen + 1) 0 (chunksL (frameL 1 t))).2.flush.1, { d with F := (d.F.putC ((1 - d.side : Nat) : Int) (topL d.F.seen + 1) 0 (chunksL (frameL 1 t))).2.flush.2, ready := false }))
    else ((d.F.putC ((1 - d.side : Nat) : Int) (topL d.F.seen + 1) 0 (chunksL (frameL 1 t))).1, { d with F := (d.F.putC ((1 - d.side : Nat) : Int) (topL d.F.seen + 1) 0 (chunksL (frameL 1 t))).2, ready := false }))
  else (92, d)

section
variable {b g : Nat} {d : Rd} {w W : World} {R : Nat → Prop}

theorem ReD.plateAt {sv lv av wv : Value} {F : Rf} (h : ReD b g d R w W) (h1 : RfM W (Rfm g sv lv av wv) g sv lv av wv F) : ¬ Rfm g sv lv av wv b ∧ ∀ V, Below W.heap.size W V → ∀ (F' : Rf) (W' : World), RefP W' (ext (Rfm g sv lv av wv) V W') g F' → Keep (Rfm g sv lv av wv) V W' → ReD b g { d with F := F' } R w W' := by
  obtain ⟨sv2, lv2, av2, wv2, h2, h3, h4⟩ := h.plate2
  obtain ⟨e1, e2, e3, e4⟩ : sv2 = sv ∧ lv2 = lv ∧ av2 = av ∧ wv2 = wv := by
    have := h2.head.symm.trans h1.head
    simp at this
    exact ⟨this.1, this.2.1, this.2.2.1, this.2.2.2.1⟩
  subst e1 e2 e3 e4
  exact ⟨h3, h4⟩

set_option maxHeartbeats 8000000 in
theorem rdbegin_any (h : ReD b g d R w W) (hs : d.side ≤ 1) (x : List Nat) (hx : Word x) (hats : d.F.ats.length + 1500 ≤ 100000) (hwhat : d.F.what.length + 1500 ≤ 100000) :
    Calls Try.prog 18 #[ptr b, .string (strB x)] W (RdPost (d.begin x) b g R w) := by
  have H := Lib.hid h
  obtain ⟨cb, W2, hcv, hB2, b2⟩ := run_bytes_text W x hx.2 (by have := hx.1; omega)
  have CF := Lib.hid (refFrame_any 1 _ cb x W2 hB2 (by decide) hx.1)
  have HFB := Lib.hid (frameL_bytes (k := 1) (by decide) hx.2)
  have HFL := Lib.hid (show (frameL 1 x).length ≤ 70000 by rw [frameL_len]; have := numL_three hx.1; have := hx.1; omega)
  have CC := Lib.hid (fun V => rcells_any x.length hx.1 V)
  have hcl := cellsN_le x.length
  have hsz := strB_size x
  have B2 := Lib.hid b2
  obtain ⟨sv, lv, av, wv, h1, hbn, _⟩ := h.plate2
  have HP1 := Lib.hid h1
  have HBN := Lib.hid hbn
  have he : d.begin x = Rd.begin d x := rfl
  conv at he => rhs; unfold Rd.begin
  have HE := Lib.hid he
  clear he
  have hgd := h.good
  have hrm : d.room ≤ 4096 := by unfold Rd.room; have := hgd.most; have := hgd.size; omega
  have HRM := Lib.hid (show d.F.seen.length / 2 = d.room from rfl)
  have HATS := Lib.hid hats
  have HWHAT := Lib.hid hwhat
  clear h hB2 b2 h1 hbn hats hwhat hgd
  go_enter Try.func18, Try.ntmps18
  go_wp2_with fail
  refine CF.out.mono ?_
  rintro e W3 ⟨v3, rfl, o3, b3⟩
  obtain ⟨a6, c6, rfl, hB6⟩ := o3.bytes HFB.out
  have HB6 := Lib.hid hB6
  have HO6 := Lib.hid (show ∀ k o, a6 = some ⟨k, o, none⟩ → W2.heap.size ≤ k from fun k o e => o3.row k (by cases e; rfl))
  have B3 := Lib.hid (B2.out.trans (b3.mono B2.out.size))
  have H3 := Lib.hid (H.out.below B3.out)
  obtain ⟨c0, _, _, _, _⟩ := H3.out.vars.cells
  have CT := Lib.hid (refTop_any (HP1.out.below B3.out))
  clear o3 hB6 b3 CF hcv
  generalize topL d.F.seen = tp at *
  go_wp2_with fail
  refine CT.out.mono ?_
  rintro e W4 ⟨rfl, b4⟩
  have B4 := Lib.hid (B3.out.trans (b4.mono B3.out.size))
  have H4 := Lib.hid (H3.out.below b4)
  have HB4 := Lib.hid (HB6.out.below b4)
  clear b4 CT c0
  obtain ⟨c0, c1, c2, c3, c4⟩ := H4.out.vars.cells
  obtain ⟨f1, f2, f3, f4⟩ := H4.out.vars.frozen
  have CR := Lib.hid (refRoom_any (HP1.out.below B4.out))
  rw [HRM.out] at CR
  go_wp2_with fail
  refine (CC.out _).mono ?_
  rintro e V ⟨rfl, rfl⟩
  go_wp2_with fail
  refine CR.out.mono ?_
  rintro e V ⟨rfl, rfl⟩
  clear CC CR HRM
  generalize cellsN x.length = cn at *
  generalize hrmm : d.room = rm at *
  clear hrmm
  by_cases tc : rm < cn
  · have HE2 := Lib.hid (show d.begin x = (92, d) by rw [HE.out, decide_eq_false (show ¬ cn ≤ rm by omega)]; rfl)
    clear HE
    go_wp2_with fail
    go_ret
    rw [HE2.out]
    exact ⟨rfl, H4.out⟩
  cases tt : decide (1099511627776 ≤ (tp : Int)) with
  | true =>
    have HE2 := Lib.hid (show d.begin x = (92, d) by rw [HE.out, decide_eq_false (show ¬ tp < 1099511627776 by simp at tt; omega), Bool.and_false]; rfl)
    clear HE
    go_wp2_with fail
    go_ret
    rw [HE2.out]
    exact ⟨rfl, H4.out⟩
  | false =>
    have htp : tp < 1099511627776 := by simp at tt; omega
    rw [decide_eq_true (show cn ≤ rm by omega), decide_eq_true htp, Bool.and_self, if_pos rfl] at HE
    have H5 := Lib.hid (H4.out.set 4 (.bool false) (d' := { d with ready := false }) rfl (H4.out.vars.set4 false))
    have hbW : b < W.heap.size := H.out.vars.lt
    have P5 := Lib.hid (show RfM (W4.setCell ⟨b, 4, none⟩ (.bool false)) (Rfm g sv lv av wv) g sv lv av wv d.F from (HP1.out.below B4.out).same (by simp [World.setCell]) (fun k hk => heap_setCell_other _ _ _ _ (fun e => by subst e; exact HBN.out hk)))
    have HB5 := Lib.hid (show BytesP (W4.setCell ⟨b, 4, none⟩ (.bool false)) a6 c6 (frameL 1 x) from ⟨HB4.out.cap, HB4.out.len, HB4.out.byte, fun hne => by
      obtain ⟨k, o, e, hlt, hc⟩ := HB4.out.cell hne
      have h1 := HO6.out k o e
      have h2 := B2.out.size
      exact ⟨k, o, e, by simpa [World.setCell] using hlt, fun j y hj => (World.cell?_of_block (a := ⟨k, o + j, none⟩) (heap_setCell_other _ _ _ _ (by simp only; omega))).trans (hc j y hj)⟩⟩)
    obtain ⟨z0, z1, z2, z3, z4⟩ := H5.out.vars.cells
    have HL5 := Lib.hid H5.out.vars.lt
    obtain ⟨t1, ht1, HT1⟩ : ∃ t1 : Nat, (tp : Int) + 1 = (t1 : Int) ∧ Hid (t1 = tp + 1) := ⟨tp + 1, by omega, rfl⟩
    obtain ⟨s1, hs1, HS1⟩ : ∃ s1 : Nat, (1 : Int) - (d.side : Int) = (s1 : Int) ∧ Hid (s1 = 1 - d.side) := ⟨1 - d.side, by omega, rfl⟩
    have hs12 : s1 ≤ 1 := by have := HS1.out; omega
    have ht12 : t1 ≤ 1099511627776 := by have := HT1.out; omega
    rw [← HT1.out, ← HS1.out] at HE
    generalize hW5 : W4.setCell ⟨b, 4, none⟩ (.bool false) = W5 at *
    obtain ⟨hbn5, hcp5⟩ := H5.out.plateAt P5.out
    have CP := Lib.hid (refRput_any P5.out z0 hbn5 HL5.out (s1 : Int) t1 0 (by omega) a6 c6 (frameL 1 x) HB5.out (fun _ k o e hk => by
      have h1 := HO6.out k o e
      have h2 := HP1.out.dom k hk
      have h3 := B2.out.size
      omega) HFL.out HATS.out HWHAT.out)
    have HCP := Lib.hid (hcp5 _ (Below.refl _ _))
    clear hbn5 hcp5 HFL HB4 HB6 HO6
    generalize d.F.putC (s1 : Int) t1 0 (chunksL (frameL 1 x)) = res at *
    obtain ⟨er, F2⟩ := res
    dsimp only at HE
    go_wp2_with fail
    clear hW5
    refine CP.out.mono ?_
    rintro e W6 ⟨rfl, hp, hk⟩
    have H6 := Lib.hid (HCP.out F2 W6 hp hk)
    clear hp hk CP HCP c0 c1 c2 c3 c4 f1 f2 f3 f4 z0 z1 z2 z3 z4 H5 P5 HB5
    cases te : (er == 0) with
    | false =>
      have HE2 := Lib.hid (show d.begin x = (er, { d with F := F2, ready := false }) by rw [HE.out]; simp only [te]; rfl)
      clear HE
      go_wp2_with fail
      go_ret
      rw [HE2.out]
      exact ⟨rfl, H6.out⟩
    | true =>
      have he0 : er = 0 := by simpa using te
      subst he0
      rw [show ((0 : Int) == 0) = true from rfl, if_pos rfl] at HE
      obtain ⟨k0, _, _, _, _⟩ := H6.out.vars.cells
      obtain ⟨sv6, lv6, av6, wv6, h6, _, hc6⟩ := H6.out.plate
      have CL := Lib.hid (refFlush_any h6)
      have HC6 := Lib.hid hc6
      clear h6 hc6
      generalize F2.flush = res2 at *
      obtain ⟨er2, F3⟩ := res2
      dsimp only at HE
      go_wp2_with fail
      refine CL.out.mono ?_
      rintro e W7 ⟨rfl, hp, hk⟩
      have H7 := Lib.hid (HC6.out F3 W7 hp hk)
      clear hp hk CL HC6 k0 H6
      cases te2 : (er2 == 0) with
      | false =>
        have HE2 := Lib.hid (show d.begin x = (er2, { d with F := F3, ready := false }) by rw [HE.out]; simp only [te2]; rfl)
        clear HE
        go_wp2_with fail
        go_ret
        rw [HE2.out]
        exact ⟨rfl, H7.out⟩
      | true =>
        have he0 : er2 = 0 := by simpa using te2
        subst he0
        have HE2 := Lib.hid (show d.begin x = (0, ⟨F3, s1, cn, t1, true⟩) by rw [HE.out]; rfl)
        clear HE
        obtain ⟨_, k1, _, _, _⟩ := H7.out.vars.cells
        obtain ⟨k2, _, _, _⟩ := H7.out.vars.frozen
        have H8 := Lib.hid (H7.out.set 1 (.int .i64 (s1 : Int)) (d' := ⟨F3, s1, d.at_, d.rd, false⟩) rfl (H7.out.vars.set1 s1))
        obtain ⟨_, _, _, k3, _⟩ := H8.out.vars.cells
        obtain ⟨_, _, k4, _⟩ := H8.out.vars.frozen
        have H9 := Lib.hid (H8.out.set 3 (.int .u64 (t1 : Int)) (d' := ⟨F3, s1, d.at_, t1, false⟩) rfl (H8.out.vars.set3 t1))
        obtain ⟨_, _, k5, _, _⟩ := H9.out.vars.cells
        obtain ⟨_, k6, _, _⟩ := H9.out.vars.frozen
        have H10 := Lib.hid (H9.out.set 2 (.int .i64 (cn : Int)) (d' := ⟨F3, s1, cn, t1, false⟩) rfl (H9.out.vars.set2 cn))
        obtain ⟨_, _, _, _, k7⟩ := H10.out.vars.cells
        obtain ⟨_, _, _, k8⟩ := H10.out.vars.frozen
        have H11 := Lib.hid (H10.out.set 4 (.bool true) (d' := ⟨F3, s1, cn, t1, true⟩) rfl (H10.out.vars.set4 true))
        go_wp2_with fail
        go_ret
        rw [HE2.out]
        exact ⟨rfl, H11.out⟩

set_option maxHeartbeats 2000000 in
theorem rdadd_off (h : ReD b g d R w W) (hr : d.ready = false) (x : List Nat) : Calls Try.prog 19 #[ptr b, .string (strB x)] W (RdPost (d.add x) b g R w) := by
  obtain ⟨c0, c1, c2, c3, c4⟩ := h.vars.cells
  have H := Lib.hid h
  have HE := Lib.hid (show d.add x = (91, d) by unfold Rd.add; rw [hr]; rfl)
  rw [hr] at c4
  clear h
  go_enter Try.func19, Try.ntmps19
  go_wp2_with fail
  go_ret
  rw [HE.out]
  exact ⟨rfl, H.out⟩

set_option maxHeartbeats 2000000 in
theorem rdleft_off (h : ReD b g d R w W) (hr : d.ready = false) : Calls Try.prog 28 #[ptr b] W (IntB d.left W) := by
  obtain ⟨c0, c1, c2, c3, c4⟩ := h.vars.cells
  have HE := Lib.hid (show d.left = 0 by unfold Rd.left; rw [hr]; rfl)
  rw [hr] at c4
  clear h
  go_enter Try.func28, Try.ntmps28
  go_wp2_with fail
  go_ret
  exact ⟨by rw [HE.out]; rfl, Below.refl _ _⟩
end
end

/- RnOpn: What the document's Open of layer 9 answers. -/
section
set_option maxRecDepth 100000
open Go.RowKit

attribute [local go_sem ↓] ld26 ld66 st26 st66 bx26 al26 al66 bd26 bd66 bs61 bs48 mk48 eq26 ap61 ap48 ap49 cp46 cp48
attribute [local go_sem] bx_agg al_cell al_wr bd_zero bd_one bd_two bd_nine

/-- Which side the document tells, and its bodies. -/
def tellD (s : List (List Nat)) : Nat × List (List Nat) :=
  if 0 < (onR 1 (readL s 0).2).length ∧ ((onR 1 (readL s 1).2).length = 0 ∨ (readL s 1).1 < (readL s 0).1) then (0, onR 1 (readL s 0).2)
  else if 0 < (onR 1 (readL s 1).2).length then (1, onR 1 (readL s 1).2) else (1, [])

/-- A reel that isn't ready, a tale and words as texts; all that was there stays. -/
def OpenDPost (g : Nat) (p : Nat × List (List Nat)) (w : World) (e : Ending) (w' : World) : Prop :=
  ∃ b a c, e = .returned (.tuple #[ptr b, .string (strB (p.2.headD [])), .slice a p.2.tail.length c]) ∧ w.heap.size ≤ b ∧ RdV w' b g p.1 0 0 false ∧ SSP w' a c p.2.tail ∧ Below w.heap.size w w'

theorem ssp_head {w : World} {a : Option Addr} {c : Nat} {ls : List (List Nat)} (h : SSP w a c ls) (hn : 0 < ls.length) : ∃ b o, a = some ⟨b, o, none⟩ ∧ w.cell? ⟨b, o, none⟩ = some (.string (strB (ls.headD []))) := by
  cases ls with
  | nil => simp at hn
  | cons x r =>
    obtain ⟨b, o, rfl, _, h2⟩ := h.cell (by simp)
    exact ⟨b, o, rfl, h2 0 x rfl⟩

theorem ssp_set {w : World} {b g side at_ rd : Nat} {ready : Bool} (hv : RdV w b g side at_ rd ready) {a : Option Addr} {c : Nat} {ls : List (List Nat)} (h : SSP w a c ls) (v : Value) : SSP (w.setCell ⟨b, 1, none⟩ v) a c ls := by
  refine ⟨h.cap, h.len, fun hne => ?_⟩
  obtain ⟨k, o, e, hlt, hc⟩ := h.cell hne
  have hkb : k ≠ b := by
    intro ek
    subst ek
    cases ls with
    | nil => exact hne rfl
    | cons x r =>
      have h1 := hc 0 x rfl
      unfold RdV at hv
      simp only [World.cell?, hv, Nat.add_zero] at h1
      match o, h1 with
      | 0, h1 => simp at h1
      | 1, h1 => simp at h1
      | 2, h1 => simp at h1
      | 3, h1 => simp at h1
      | 4, h1 => simp at h1
      | n + 5, h1 => simp at h1
  exact ⟨k, o, e, by simpa [World.setCell] using hlt, fun j l hj => (World.cell?_of_block (a := ⟨k, o + j, none⟩) (heap_setCell_other _ _ _ _ hkb)).trans (hc j l hj)⟩

set_option maxHeartbeats 8000000 in
theorem rdopen_any {w : World} {R : Nat → Prop} {g : Nat} {sv lv av wv : Value} {r : Rf} (h : RfM w R g sv lv av wv r) : Calls Try.prog 17 #[ptr g] w (OpenDPost g (tellD r.seen) w) := by
  have b0 := (Below.refl w.heap.size w).alloc (Nat.le_refl _) (.cells #[ptr g, .int .i64 1, .int .i64 0, .int .u64 0, .bool false] 52)
  have V0 := Lib.hid (show RdV (w.alloc (.cells #[ptr g, .int .i64 1, .int .i64 0, .int .u64 0, .bool false] 52)) w.heap.size g 1 0 0 false from heap_alloc_new w _)
  have C0 := Lib.hid (refOn_any (h.below b0) 0)
  have B0 := Lib.hid b0
  have C1 := Lib.hid (fun W (b : Below w.heap.size w W) => refOn_any (h.below b) 1)
  obtain ⟨x0, l0, hx0⟩ : ∃ x0 l0, (readL r.seen 0).1 = x0 ∧ onR 1 (readL r.seen 0).2 = l0 := ⟨_, _, rfl, rfl⟩
  obtain ⟨x1, l1, hx1⟩ : ∃ x1 l1, (readL r.seen 1).1 = x1 ∧ onR 1 (readL r.seen 1).2 = l1 := ⟨_, _, rfl, rfl⟩
  have HE := Lib.hid (show tellD r.seen = if 0 < l0.length ∧ (l1.length = 0 ∨ x1 < x0) then (0, l0) else if 0 < l1.length then (1, l1) else (1, []) by unfold tellD; rw [hx0.1, hx0.2, hx1.1, hx1.2])
  rw [hx0.1, hx0.2] at C0
  rw [hx1.1, hx1.2] at C1
  clear h b0 hx0 hx1
  go_enter Try.func17, Try.ntmps17
  go_wp2_with fail
  refine C0.out.mono ?_
  rintro e w1 ⟨a0, c0, rfl, hS0, b1⟩
  have V1 := Lib.hid (V0.out.same (b1.block _ V0.out.lt))
  have B1 := Lib.hid (B0.out.trans (b1.mono B0.out.size))
  have CQ := Lib.hid (C1.out w1 B1.out)
  have S0 := Lib.hid hS0
  clear hS0 b1 C0 C1 V0 B0
  go_wp2_with fail
  refine CQ.out.mono ?_
  rintro e w2 ⟨a1, c1, rfl, hS1, b2⟩
  have V2 := Lib.hid (V1.out.same (b2.block _ V1.out.lt))
  have B2 := Lib.hid (B1.out.trans (b2.mono B1.out.size))
  have T0 := Lib.hid (S0.out.below b2)
  have T1 := Lib.hid hS1
  have h0c := S0.out.cap
  have h1c := hS1.cap
  have h0l := S0.out.len
  have h1l := hS1.len
  obtain ⟨_, k1, _, _, _⟩ := V2.out.cells
  obtain ⟨f1, _, _, _⟩ := V2.out.frozen
  clear hS1 b2 CQ V1 B1 S0
  have hgo : ∀ (l : List (List Nat)) (a : Option Addr) (c : Nat) (W : World), SSP W a c l → 0 < l.length → (∃ b o, a = some ⟨b, o, none⟩ ∧ W.cell? ⟨b, o, none⟩ = some (.string (strB (l.headD [])))) ∧ ∃ a' c', (∀ W, (Instr.slice 38 (.slice a l.length c) (some (.int .i64 1)) none none).run Try.prog W = .ok (.slice a' (l.length - 1) c') W) ∧ SSP W a' c' l.tail := fun l a c W h hn => by
    obtain ⟨a', c', h1, h2⟩ := slice_texts h.cap 1 hn
    refine ⟨ssp_head h hn, a', c', h1, ?_⟩
    have := h2 W h
    rwa [List.drop_one] at this
  have HGO := Lib.hid hgo
  clear hgo
  by_cases hq : 0 < l0.length ∧ (l1.length = 0 ∨ x1 < x0)
  · have HE2 := Lib.hid (show tellD r.seen = (0, l0) by rw [HE.out, if_pos hq])
    have H0 := Lib.hid (V2.out.set1 0)
    have HS := Lib.hid (show Below w.heap.size w (w2.setCell ⟨w.heap.size, 1, none⟩ (.int .i64 0)) from B2.out.setCell (p := ⟨w.heap.size, 1, none⟩) (Nat.le_refl _) _)
    have hT3 : SSP (w2.setCell ⟨w.heap.size, 1, none⟩ (.int .i64 0)) a0 c0 l0 := ssp_set V2.out T0.out _
    have H0' := Lib.hid (show RdV (w2.setCell ⟨w.heap.size, 1, none⟩ (.int .i64 0)) w.heap.size g 0 0 0 false from H0.out)
    obtain ⟨h1, h2⟩ := hq
    have t0 : decide (0 < (l0.length : Int)) = true := by simp; omega
    cases t1 : ((l1.length : Int) == 0) with
    | true =>
      clear h2 HE T0 T1
      obtain ⟨⟨bk, ok, rfl, g1⟩, a7, c7, s7, S7⟩ := HGO.out l0 _ _ _ hT3 (by omega)
      have hl1 : (0 : Int) < (l0.length : Int) := by omega
      obtain ⟨sh, hsh⟩ : ∃ sh, strB (l0.headD []) = sh := ⟨_, rfl⟩
      rw [hsh] at g1
      have HSH := Lib.hid hsh
      have HTL := Lib.hid (show l0.tail.length = l0.length - 1 from List.length_tail)
      have S8 := Lib.hid (S7.below (Below.refl _ _).drew)
      clear hsh S7
      go_wp2_with fail
      go_region
      go_wp2_with fail
      go_ret3
      rw [HE2.out]
      exact ⟨w.heap.size, a7, c7, by dsimp only; rw [HSH.out, HTL.out]; rfl, Nat.le_refl _, H0'.out, S8.out, HS.out.drew⟩
    | false =>
      have h2' : x1 < x0 := by
        rcases h2 with h | h
        · rw [h] at t1
          simp at t1
        · exact h
      clear h2 HE T0 T1
      obtain ⟨⟨bk, ok, rfl, g1⟩, a7, c7, s7, S7⟩ := HGO.out l0 _ _ _ hT3 (by omega)
      have hl1 : (0 : Int) < (l0.length : Int) := by omega
      obtain ⟨sh, hsh⟩ : ∃ sh, strB (l0.headD []) = sh := ⟨_, rfl⟩
      rw [hsh] at g1
      have HSH := Lib.hid hsh
      have HTL := Lib.hid (show l0.tail.length = l0.length - 1 from List.length_tail)
      have S8 := Lib.hid (S7.below (Below.refl _ _).drew)
      clear hsh S7
      go_wp2_with fail
      go_region
      go_wp2_with fail
      go_ret3
      rw [HE2.out]
      exact ⟨w.heap.size, a7, c7, by dsimp only; rw [HSH.out, HTL.out]; rfl, Nat.le_refl _, H0'.out, S8.out, HS.out.drew⟩
  · rw [if_neg hq] at HE
    by_cases h1 : 0 < l1.length
    · have HE2 := Lib.hid (show tellD r.seen = (1, l1) by rw [HE.out, if_pos h1])
      have t2 : decide (0 < (l1.length : Int)) = true := by simp; omega
      have hT3 := T1.out
      by_cases h0 : 0 < l0.length
      · have t1 : ((l1.length : Int) == 0) = false := beq_eq_false_iff_ne.2 (by omega)
        have t3 : ¬ x1 < x0 := fun e => hq ⟨h0, .inr e⟩
        have t0 : decide (0 < (l0.length : Int)) = true := by simp; omega
        clear hq HE T0 T1
        obtain ⟨⟨bk, ok, rfl, g1⟩, a7, c7, s7, S7⟩ := HGO.out l1 _ _ _ hT3 (by omega)
        have hl1 : (0 : Int) < (l1.length : Int) := by omega
        obtain ⟨sh, hsh⟩ : ∃ sh, strB (l1.headD []) = sh := ⟨_, rfl⟩
        rw [hsh] at g1
        have HSH := Lib.hid hsh
        have HTL := Lib.hid (show l1.tail.length = l1.length - 1 from List.length_tail)
        have S8 := Lib.hid (S7.below (Below.refl _ _).drew)
        clear hsh S7
        go_wp2_with fail
        go_region
        go_wp2_with fail
        go_ret3
        rw [HE2.out]
        exact ⟨w.heap.size, a7, c7, by dsimp only; rw [HSH.out, HTL.out]; rfl, Nat.le_refl _, V2.out, S8.out, B2.out.drew⟩
      · have hl0 : l0 = [] := List.eq_nil_of_length_eq_zero (by omega)
        subst hl0
        clear hq HE T0 T1
        obtain ⟨⟨bk, ok, rfl, g1⟩, a7, c7, s7, S7⟩ := HGO.out l1 _ _ _ hT3 (by omega)
        have hl1 : (0 : Int) < (l1.length : Int) := by omega
        obtain ⟨sh, hsh⟩ : ∃ sh, strB (l1.headD []) = sh := ⟨_, rfl⟩
        rw [hsh] at g1
        have HSH := Lib.hid hsh
        have HTL := Lib.hid (show l1.tail.length = l1.length - 1 from List.length_tail)
        have S8 := Lib.hid (S7.below (Below.refl _ _).drew)
        clear hsh S7
        go_wp2_with fail
        go_region
        go_wp2_with fail
        go_ret3
        rw [HE2.out]
        exact ⟨w.heap.size, a7, c7, by dsimp only; rw [HSH.out, HTL.out]; rfl, Nat.le_refl _, V2.out, S8.out, B2.out.drew⟩
    · have HE2 := Lib.hid (show tellD r.seen = (1, []) by rw [HE.out, if_neg h1])
      have hl1 : l1 = [] := List.eq_nil_of_length_eq_zero (by omega)
      have hl0 : l0 = [] := List.eq_nil_of_length_eq_zero (by
        rcases Nat.eq_zero_or_pos l0.length with h | h
        · exact h
        · exact absurd ⟨h, .inl (by omega)⟩ hq)
      subst hl0 hl1
      clear hq HE T0 T1
      go_wp2_with fail
      go_ret3
      rw [HE2.out]
      exact ⟨w.heap.size, none, 0, by rw [show strB (([] : List (List Nat)).headD []) = ⟨#[]⟩ by decide +kernel]; rfl, Nat.le_refl _, V2.out, ⟨by simp, by simp, fun h => absurd rfl h⟩, B2.out⟩
end

/- RnSim: What holds of a reel beside the document's, whatever is done, in plain words. -/
section
set_option maxRecDepth 100000

/-- A reel that is ready: its round, how many pieces it has. -/
structure RB (n : Nat) (r : Rl) (H : Nat → Hs) (rb hi : Nat) : Prop where
  rb1 : 1 ≤ rb
  hside : (H rb).side = r.side
  hin : hi ≤ n / 2
  m : (H rb).m = hi
  all : hi = (piecesT (H rb).t (H rb).ws).length
  there : ∀ k, k < hi → bearAt n r.P.last r.side rb k
  top : topL r.P.last ≤ rb
  loose : ∀ x ∈ r.P.loose, ∀ k R, Loose n H r.P.sure x r.side k R → k < hi

/-- Whatever was done to a reel. -/
structure RI (n : Nat) (r : Rl) (H : Nat → Hs) (T : Nat) : Prop where
  inv : Inv n r.P H
  side : r.side ≤ 1
  top : topL r.P.last ≤ T
  on : r.P.off = false → (∀ x ∈ r.P.loose, ∀ k R, ¬ Loose n H r.P.sure x (1 - r.side) k R) ∧ r.side = (toldL r.P.last).1
  rdy : r.ready = true → ∃ rb hi, RB n r H rb hi

section
variable {n : Nat} {r : Rl} {H : Nat → Hs} {T : Nat}

theorem told_side (s : List (List Nat)) : (toldL s).1 ≤ 1 := by
  have h0 : (told0 s).1 ≤ 1 := by
    unfold told0
    split <;> simp
  unfold toldL
  split
  · exact Nat.le_refl _
  · exact h0

theorem RB.row {rb hi : Nat} (hinv : Inv n r.P H) (hs : r.side ≤ 1) (b : RB n r H rb hi) : r.row = (rb, (H rb).t :: (H rb).ws, hi) ∧ rb ≤ topL r.P.last ∧ 1 ≤ hi := by
  have hhi : 1 ≤ hi := by
    have h1 := pieces_pos (H rb).t (H rb).ws
    have h2 := b.all
    rcases Nat.eq_zero_or_pos hi with hz | hz
    · rw [hz] at h2
      exact absurd (List.eq_nil_of_length_eq_zero h2.symm) h1
    · exact hz
  have hin := b.hin
  have hm := b.m
  rcases row_legit (hinv.good.size.trans hinv.len) hinv.n60 hinv.lastL hinv.ok hs with ⟨_, hno⟩ | ⟨q, j, h1, h2, h3, h5, h6, h7, h8, h9, h10, h11, h12⟩
  · exact absurd (b.there 0 hhi) (hno rb b.rb1 (by omega))
  · have e := bear_one (b.there 0 hhi) (h11 0 (by omega))
    subst e
    have hj : j = hi := by
      have hle : j ≤ hi := by rw [← hm]; exact h6
      rcases Nat.lt_or_ge j hi with hlt | hge
      · exact absurd (b.there j hlt) (h12 (by omega))
      · omega
    subst hj
    refine ⟨?_, ?_, hhi⟩
    · unfold Rl.row
      have hpc : (H rb).pc.take j = piecesT (H rb).t (H rb).ws := by
        unfold Hs.pc
        rw [hm, List.take_take, Nat.min_self, b.all, List.take_length]
      have hp := parse_tale (hinv.ok rb).tale (hinv.ok rb).words (b := []) (by rw [frameAt_nil])
      rw [List.append_nil, ← hpc, hpc, ← b.all] at hp
      have e9 := h9
      rw [hpc, hp] at e9
      exact Prod.ext h8 e9
    · obtain ⟨c, hc, hb⟩ := b.there 0 hhi
      have := (topL_get (List.mem_of_getElem? hc)).1
      simp only [bearsC, Bool.and_eq_true, beq_iff_eq] at hb
      rw [hb.1] at this
      unfold markN at this
      omega
theorem RB.told {rb hi : Nat} (hinv : Inv n r.P H) (hs : r.side ≤ 1) (b : RB n r H rb hi) : (toldL r.P.last).1 = r.side := by
  obtain ⟨hrow, hle, h1⟩ := b.row hinv hs
  unfold Rl.row at hrow
  have hrb := b.rb1
  rw [told_one hs (by rw [hrow]; simp) (by rw [hrow]; exact hrb) (by
    rcases row_legit (hinv.good.size.trans hinv.len) hinv.n60 hinv.lastL hinv.ok (s := 1 - r.side) (by omega) with ⟨h0, _⟩ | ⟨q, j, _, _, h3, _, _, _, h8, _⟩
    · exact .inl (by rw [h0])
    · refine .inr ?_
      rw [hrow, h8]
      simp only
      have hqt : q ≤ topL r.P.last := by
        have := readL_top r.P.last ((1 - r.side : Nat) : Int)
        rw [← h8]
        exact this
      have := b.top
      have hne : q ≠ rb := fun e => by
        rw [e, b.hside] at h3
        omega
      omega)]

theorem RI.more (h : RI n r H T) {T' : Nat} (hT : T ≤ T') : RI n r H T' := ⟨h.inv, h.side, Nat.le_trans h.top hT, h.on, h.rdy⟩
theorem RI.new {n : Nat} (hn : n ≤ 60) : RI n ⟨Pl.new n, 1, false⟩ (fun _ => ⟨0, [], [], 0⟩) 0 := by
  refine ⟨Inv.new hn, Nat.le_refl _, ?_, fun _ => ⟨fun x hx => by simp [Pl.new] at hx, ?_⟩, fun h => by cases h⟩
  · have : topM (List.replicate n zeroC) ≤ 0 := topM_le (fun c hc => by
      rw [(List.mem_replicate.1 hc).2]
      exact ⟨Nat.le_of_eq (by decide +kernel), Nat.le_of_eq (by decide +kernel)⟩)
    show topM (List.replicate n zeroC) / 65536 ≤ 0
    omega
  · show 1 = (toldL (List.replicate n zeroC)).1
    rw [told_zero]
theorem RI.limit (h : RI n r H T) {m : Int} (hm : m ≤ 9223372036854775807) : RI n ⟨r.P.limit m, r.side, r.ready⟩ H T :=
  ⟨h.inv.same (h.inv.good.limit hm) rfl rfl rfl, h.side, h.top, h.on, fun hr => by
    obtain ⟨rb, hi, b⟩ := h.rdy hr
    exact ⟨rb, hi, b.rb1, b.hside, b.hin, b.m, b.all, b.there, b.top, b.loose⟩⟩
theorem RI.opened (h : RI n r H T) : RI n ⟨r.P, (toldL r.P.last).1, false⟩ H T :=
  ⟨h.inv, told_side _, h.top, fun ho => by
    obtain ⟨h1, h2⟩ := h.on ho
    exact ⟨by simp only; rw [← h2]; exact h1, rfl⟩, fun h => by cases h⟩
theorem RI.failed (h : RI n r H T) (keep : List Nat) (torn at_ : Int) : RI n ⟨r.P.fail keep torn at_, (toldL (r.P.fail keep torn at_).last).1, false⟩ H T :=
  ⟨h.inv.failed keep torn at_, told_side _, Nat.le_trans (h.inv.fail_top keep torn at_) h.top, fun _ => ⟨fun x hx => by simp [Pl.fail] at hx, rfl⟩, fun h => by cases h⟩
theorem RI.flush (h : RI n r H T) : RI n r.flush.2 H T := by
  unfold Rl.flush
  cases hr : r.ready with
  | false => exact h
  | true =>
    rw [if_pos rfl]
    obtain ⟨rb, hi, b⟩ := h.rdy hr
    by_cases hf : r.P.flush.1 = 0
    · obtain ⟨hi', e1, e2, e3, e4, e5⟩ := h.inv.flushed hf
      obtain ⟨_, h2⟩ := h.on e5
      refine ⟨hi', h.side, by rw [e2]; exact h.top, fun _ => ⟨fun x hx => by simp only at hx; rw [e3] at hx; simp at hx, by simp only; rw [e2]; exact h2⟩, fun _ => ⟨rb, hi, b.rb1, b.hside, b.hin, b.m, b.all, by simp only; rw [e2]; exact b.there, by simp only; rw [e2]; exact b.top, fun x hx => by simp only at hx; rw [e3] at hx; simp at hx⟩⟩
    · obtain ⟨e0, e1, e2, e3, e4⟩ := flush_fails hf
      refine ⟨h.inv.same h.inv.good.flush e1 e2 e3, h.side, by rw [e2]; exact h.top, fun ho => ?_, fun hr => ?_⟩
      · simp only at ho
        rw [e4] at ho
        cases ho
      · simp only at hr
        rw [e0] at hr
        cases hr

/-- Add. -/
theorem RI.add (h : RI n r H T) (hT : T ≤ 200) {x : List Nat} (hx : Word x) : ∃ H', RI n (r.add x).2 H' T ∧ ∀ rb hi, RB n r H rb hi → (r.add x).1 = 0 → RB n (r.add x).2 H' rb (hi + cellsN x.length) := by
  have hside := h.side
  have hn := h.inv.n60
  have hTop := h.top
  have hroom : r.room = n / 2 := by unfold Rl.room; rw [h.inv.len]
  unfold Rl.add
  cases hr : r.ready with
  | false => exact ⟨H, h, fun _ _ _ h => by cases h⟩
  | true =>
    rw [if_pos rfl]
    obtain ⟨rb, hi, b⟩ := h.rdy hr
    obtain ⟨hrow, hrb, _⟩ := b.row h.inv hside
    have hrb1 := b.rb1
    have hin := b.hin
    rw [hrow]
    simp only
    by_cases hfit : fitsB x.length (r.room - hi) = true
    · rw [if_pos hfit]
      obtain ⟨hpos, hf⟩ := fits_of hfit
      rw [hroom] at hf
      have hc := frame_cells 2 hx.1
      have hch : ∀ c ∈ chunksL (frameL 2 x), c.length ≤ 48 ∧ Bytes c := chop_each _ _ (frameL_bytes (by decide) hx.2)
      obtain ⟨j, hj, g0, g1, g2, g3, g4⟩ := h.inv.putC (s := r.side) (rd := rb) (at_ := hi) (cs := chunksL (frameL 2 x)) hside hrb1 (by omega) (by omega) hch
      generalize hP : r.P.putC (r.side : Int) rb hi (chunksL (frameL 2 x)) = X at *
      obtain ⟨e, P'⟩ := X
      simp only at g0 g1 g2 g3 g4 ⊢
      obtain ⟨nt, hnt⟩ : ∃ nt, (H rb).t = nt := ⟨_, rfl⟩
      obtain ⟨nw, hnw⟩ : ∃ nw, (H rb).ws = nw := ⟨_, rfl⟩
      have hpT : piecesT nt (nw ++ [x]) = piecesT nt nw ++ chunksL (frameL 2 x) := piecesT_snoc nt nw x
      have hq2 : hi = (piecesT nt nw).length := by rw [b.all, hnt, hnw]
      have hpc : (H rb).pc = piecesT nt nw := by
        unfold Hs.pc
        rw [b.m, hnt, hnw, hq2, List.take_length]
      have hW : Word nt := by rw [← hnt]; exact (h.inv.ok rb).tale
      have hWs : ∀ y ∈ nw, Word y := by rw [← hnw]; exact (h.inv.ok rb).words
      have hok : Hs.Ok ⟨r.side, nt, nw ++ [x], hi + j⟩ := ⟨hW, fun y hy => by
        rcases List.mem_append.1 hy with hy | hy
        · exact hWs y hy
        · simp at hy; subst hy; exact hx, by simp only; rw [hpT, List.length_append]; omega⟩
      have hpc' : (Hs.mk r.side nt (nw ++ [x]) (hi + j)).pc = piecesT nt nw ++ (chunksL (frameL 2 x)).take j := by
        unfold Hs.pc
        simp only
        rw [hpT, List.take_append, List.take_of_length_le (by omega), show hi + j - (piecesT nt nw).length = j by omega]
      have hlen : ((chunksL (frameL 2 x)).take j).length = j := by rw [List.length_take]; omega
      have hbm := b.m
      have hinv := h.inv.puts (s := r.side) (rd := rb) (at_ := hi) (h' := ⟨r.side, nt, nw ++ [x], hi + j⟩) hside hrb1 (by omega) (by rw [hlen]; omega) rfl hok (by rw [hlen]) (fun i c hi' => by rw [hpc', hq2, List.getElem?_append_right (by omega), Nat.add_sub_cancel_left]; exact hi')
        (fun k c hk hk2 hcc => by
          have hL := h.inv.sureL r.side k c hside hk2 hcc
          refine ⟨fun e => ?_, fun e => ?_⟩
          · rcases hL.b with h0 | h0 | ⟨q, _, _, k3, _, k5⟩
            · rw [e] at h0; unfold markN at h0; omega
            · rw [e] at h0; unfold markN at h0; omega
            · rw [e] at k3
              have : q = rb := by unfold markN at k3; omega
              subst this
              omega
          · rcases hL.e with h0 | h0 | ⟨q, _, _, k3, _, k5⟩
            · rw [e] at h0; unfold markN at h0; omega
            · rw [e] at h0; unfold markN at h0; omega
            · rw [e] at k3
              have : q = rb := by unfold markN at k3; omega
              subst this
              omega)
        (fun k hk hk2 y hy e => by
          obtain ⟨s, k', R, hl⟩ := h.inv.looseL y hy
          obtain ⟨rfl, rfl⟩ := idx_inj hside hl.s1 hk2 hl.k1 (e.symm.trans hl.at_)
          have := b.loose y hy k R hl
          omega)
        (fun s' k _ _ _ => ⟨b.hside.symm, fun hk => by simp only; omega, by
          rw [hpc, hpc']
          by_cases hk : k < (piecesT nt nw).length
          · exact .inr (List.getElem?_append_left hk)
          · exact .inl (List.getElem?_eq_none (by omega))⟩) b.top g0 g1 g2 g3
      have hold : ∀ y ∈ r.P.loose, ∀ s k R, Loose n (upH H rb ⟨r.side, nt, nw ++ [x], hi + j⟩) r.P.sure y s k R → Loose n H r.P.sure y s k R := fun y hy s k R hl => by
        obtain ⟨s0, k0, R0, hl0⟩ := h.inv.looseL y hy
        obtain ⟨rfl, rfl, rfl⟩ := loose_one h.inv.ok hinv.ok hn hl0 hl
        exact hl0
      have hnew : ∀ y ∈ mkL (r.side * (n / 2)) rb hi ((chunksL (frameL 2 x)).take j), ∀ s k R, Loose n (upH H rb ⟨r.side, nt, nw ++ [x], hi + j⟩) r.P.sure y s k R → r.side = s ∧ hi ≤ k ∧ k < hi + j ∧ R = rb := fun y hy s k R hl => by
        have := loose_mkL hinv.ok hn hside (by omega) (by rw [hlen]; omega) (fun c hcc => (hch c (List.mem_of_mem_take hcc)).1) hy hl
        rw [hlen] at this
        exact this
      have htop : topL P'.last ≤ rb := by
        rw [g2]
        exact top_lay b.top (by omega) (by rw [hlen]; omega) (fun c hcc => (hch c (List.mem_of_mem_take hcc)).1)
      have hRB : e = 0 → RB n ⟨P', r.side, e == 0⟩ (upH H rb ⟨r.side, nt, nw ++ [x], hi + j⟩) rb (hi + cellsN x.length) := fun he => by
        rcases g4 with ⟨_, a2, _⟩ | ⟨a1, _⟩
        · refine ⟨hrb1, by rw [upH_same], by omega, by rw [upH_same]; simp only; omega, by rw [upH_same]; simp only; rw [hpT, List.length_append, ← hq2]; omega, fun k hk => ?_, htop, fun y hy k R hl => ?_⟩
          · simp only
            rw [g2]
            by_cases hk2 : k < hi
            · exact (bear_kept (by omega)).2 (b.there k hk2)
            · exact bear_laid hside (by rw [h.inv.good.size, h.inv.len]) hn (by omega) (by rw [hlen]; omega) (fun c hcc => (hch c (List.mem_of_mem_take hcc)).1) (by omega) (by rw [hlen]; omega)
          · simp only at hy hl
            rw [g1] at hl
            rw [g3] at hy
            rcases List.mem_append.1 hy with hy | hy
            · have := b.loose y hy k R (hold y hy _ k R hl)
              omega
            · have := (hnew y hy _ k R hl).2.2.1
              omega
        · rw [a1] at he; cases he
      refine ⟨upH H rb ⟨r.side, nt, nw ++ [x], hi + j⟩, ⟨hinv, hside, by simp only; omega, fun ho => ?_, fun hrd => ?_⟩, fun rb2 hi2 b2 he => ?_⟩
      · simp only at ho
        rcases g4 with ⟨a1, a2, a3⟩ | ⟨_, a2, _⟩
        · rw [a3] at ho
          obtain ⟨h1, h2⟩ := h.on ho
          refine ⟨fun y hy k R hl => ?_, ?_⟩
          · simp only at hy hl
            rw [g1] at hl
            rw [g3] at hy
            rcases List.mem_append.1 hy with hy | hy
            · exact h1 y hy k R (hold y hy _ k R hl)
            · have := (hnew y hy _ k R hl).1
              omega
          · exact ((hRB a1).told (r := ⟨P', r.side, e == 0⟩) hinv hside).symm
        · rw [a2] at ho; cases ho
      · simp only at hrd
        exact ⟨rb, _, hRB (by simpa using hrd)⟩
      · have e1 := (b.row h.inv hside).1
        have e2 := (b2.row h.inv hside).1
        rw [e1] at e2
        injection e2 with q1 q2
        injection q2 with _ q3
        subst q1 q3
        exact hRB he
    · rw [if_neg hfit]
      exact ⟨H, h, fun _ _ _ h => by cases h⟩

/-- Begin. -/
theorem RI.begin (h : RI n r H T) (hT : T + 1 ≤ 200) {t : List Nat} (ht : Word t) : ∃ H', RI n (r.begin t).2 H' (T + 1) ∧ ((r.begin t).1 = 0 → RB n (r.begin t).2 H' (topL r.P.last + 1) (cellsN t.length)) := by
  have hside := h.side
  have hn := h.inv.n60
  have hTop := h.top
  have hroom : r.room = n / 2 := by unfold Rl.room; rw [h.inv.len]
  unfold Rl.begin
  by_cases hfit : (fitsB t.length r.room && decide (topL r.P.last < 1099511627776)) = true
  · rw [if_pos hfit]
    rw [Bool.and_eq_true] at hfit
    obtain ⟨hpos, hf⟩ := fits_of hfit.1
    rw [hroom] at hf
    have hc := frame_cells 1 ht.1
    have hch : ∀ c ∈ chunksL (frameL 1 t), c.length ≤ 48 ∧ Bytes c := chop_each _ _ (frameL_bytes (by decide) ht.2)
    obtain ⟨j, hj, g0, g1, g2, g3, g4⟩ := h.inv.putC (s := 1 - r.side) (rd := topL r.P.last + 1) (at_ := 0) (cs := chunksL (frameL 1 t)) (by omega) (by omega) (by omega) (by omega) hch
    have hnz : r.P.off = true → (r.P.putC ((1 - r.side : Nat) : Int) (topL r.P.last + 1) 0 (chunksL (frameL 1 t))).1 = 72 ∧ j = 0 := fun hoff => by
      rcases g4 with ⟨a1, a2, a3⟩ | ⟨a1, a2, a3⟩
      · exfalso
        have hne : chunksL (frameL 1 t) ≠ [] := by intro e; rw [e] at hc; simp at hc; omega
        obtain ⟨j', l', o', _, _, h4, _⟩ := putC_runs (1 - r.side) (topL r.P.last + 1) (by omega) (by omega) (by omega) (chunksL (frameL 1 t)) r.P 0 (by rw [h.inv.len]; omega) (fun c hcc => (hch c hcc).1)
        rcases h4 with ⟨_, _, _, b4⟩ | ⟨b1, _⟩
        · rw [b4 hne] at hoff; cases hoff
        · rw [a1] at b1; cases b1
      · exact ⟨a1, a3 hoff⟩
    generalize hP : r.P.putC ((1 - r.side : Nat) : Int) (topL r.P.last + 1) 0 (chunksL (frameL 1 t)) = X at *
    obtain ⟨e, P'⟩ := X
    simp only at g0 g1 g2 g3 g4 hnz ⊢
    cases hoff : r.P.off with
    | true =>
      obtain ⟨he, hj0⟩ := hnz hoff
      subst he hj0
      have ho : P'.off = true := by
        rcases g4 with ⟨a1, _⟩ | ⟨_, a2, _⟩
        · cases a1
        · exact a2
      rw [if_neg (by decide)]
      refine ⟨H, ⟨h.inv.same g0 g1 (by rw [g2]; rfl) (by rw [g3]; simp [mkL]), hside, by simp only; rw [g2]; exact Nat.le_trans hTop (Nat.le_succ _), fun ho' => ?_, fun hr => by cases hr⟩, fun he => by cases he⟩
      simp only at ho'
      rw [ho] at ho'
      cases ho'
    | false =>
      obtain ⟨hl1, htd⟩ := h.on hoff
      have hpT : piecesT t [] = chunksL (frameL 1 t) := by simp [piecesT, piecesW]
      have hch' : ∀ c ∈ (chunksL (frameL 1 t)).take j, c.length ≤ 48 ∧ Bytes c := fun c hcc => hch c (List.mem_of_mem_take hcc)
      have hok : Hs.Ok ⟨1 - r.side, t, [], j⟩ := ⟨ht, fun x hx => by simp at hx, by simp only; rw [hpT]; exact hj⟩
      have hlen : ((chunksL (frameL 1 t)).take j).length = j := by rw [List.length_take]; omega
      have hnoloose : ∀ k, k < n / 2 → ∀ x ∈ r.P.loose, x.1 ≠ (1 - r.side) * (n / 2) + k := fun k hk x hx e => by
        obtain ⟨s, k', R, hl⟩ := h.inv.looseL x hx
        obtain ⟨rfl, rfl⟩ := idx_inj (by omega) hl.s1 hk hl.k1 (e.symm.trans hl.at_)
        exact hl1 x hx k R hl
      have hnew : ∀ s' k, k < n / 2 → ¬ ((∃ c, r.P.sure[s' * (n / 2) + k]? = some c ∧ (numC c 0 = markN (topL r.P.last + 1) k ∨ numC c 56 = markN (topL r.P.last + 1) k)) ∨ ∃ x ∈ r.P.loose, Loose n H r.P.sure x s' k (topL r.P.last + 1)) := by
        rintro s' k hk (⟨c, hc, hm⟩ | ⟨x, hx, hl⟩)
        · have := h.inv.top c (List.mem_of_getElem? hc)
          unfold markN at hm
          omega
        · have := h.inv.loose_last hx hl
          omega
      have hinv := h.inv.puts (s := 1 - r.side) (rd := topL r.P.last + 1) (at_ := 0) (h' := ⟨1 - r.side, t, [], j⟩) (by omega) (by omega) (by omega) (by rw [hlen]; omega) rfl hok (by rw [hlen]; simp) (fun i c hi => by rw [Nat.zero_add]; unfold Hs.pc; simp only; rw [hpT]; exact hi)
        (fun k c _ hk hcc => by
          have := h.inv.top c (List.mem_of_getElem? hcc)
          unfold markN
          omega) (fun k _ hk => hnoloose k hk) (fun s' k _ hk hh => absurd hh (hnew s' k hk)) (by omega) g0 g1 g2 g3
      have htop : topL P'.last ≤ topL r.P.last + 1 := by
        rw [g2]
        exact top_lay (by omega) (by omega) (by rw [hlen]; omega) (fun c hcc => (hch' c hcc).1)
      have hfail : ∀ P'' : Pl, P''.Good → P''.sure = P'.sure → P''.last = P'.last → P''.loose = P'.loose → P''.off = true → ∃ H', RI n ⟨P'', r.side, false⟩ H' (T + 1) := fun P'' q0 q1 q2 q3 q4 =>
        ⟨_, hinv.same q0 q1 q2 q3, hside, by simp only; rw [q2]; omega, (fun ho => by simp only at ho; rw [q4] at ho; cases ho), fun hr => by cases hr⟩
      rcases g4 with ⟨a1, a2, a3⟩ | ⟨a1, a2, a3⟩
      · subst a1
        rw [if_pos (by decide)]
        by_cases hfl : P'.flush.1 = 0
        · rw [if_pos (by rw [hfl]; rfl)]
          obtain ⟨hi, f1, f2, f3, f4, f5⟩ := hinv.flushed hfl
          rw [a2, List.take_length] at g2
          have hRB : RB n ⟨P'.flush.2, 1 - r.side, true⟩ (upH H (topL r.P.last + 1) ⟨1 - r.side, t, [], j⟩) (topL r.P.last + 1) (cellsN t.length) := by
            refine ⟨by omega, by rw [upH_same], hf, by rw [upH_same]; simp only; omega, by rw [upH_same]; simp only; rw [hpT]; exact hc.symm, fun k hk => ?_, by simp only; rw [f2]; exact htop, fun x hx => by simp only at hx; rw [f3] at hx; simp at hx⟩
            simp only
            rw [f2, g2]
            exact bear_laid (by omega) (by rw [h.inv.good.size, h.inv.len]) hn (by omega) (by omega) (fun c hcc => (hch c hcc).1) (Nat.zero_le _) (by omega)
          refine ⟨_, ⟨hi, by simp only; omega, by simp only; rw [f2]; omega, fun _ => ⟨fun x hx => by simp only at hx; rw [f3] at hx; simp at hx, ?_⟩, fun _ => ⟨_, _, hRB⟩⟩, fun _ => hRB⟩
          exact (hRB.told hi (by simp only; omega)).symm
        · obtain ⟨f0, f1, f2, f3, f4⟩ := flush_fails hfl
          rw [if_neg (by rw [f0]; decide)]
          obtain ⟨H', h'⟩ := hfail P'.flush.2 g0.flush f1 f2 f3 f4
          exact ⟨H', h', fun he => absurd he hfl⟩
      · subst a1
        rw [if_neg (by decide)]
        obtain ⟨H', h'⟩ := hfail P' g0 rfl rfl rfl a2
        exact ⟨H', h', fun he => by cases he⟩
  · rw [if_neg hfit]
    exact ⟨H, h.more (Nat.le_succ _), fun he => by cases he⟩
end
end

/- RnSim2: The program's reel and the document's go together, in plain words. -/
section
set_option maxRecDepth 100000

theorem Rel.putC {F : Rf} {P : Pl} (h : Rel F P) (hg : P.Good) (side : Int) (rd : Nat) (cs : List (List Nat)) : ∀ at_, (∀ c ∈ cs, Bytes c) → P.loose.length + cs.length ≤ 100000 → (F.putC side rd at_ cs).1 = (P.putC side rd at_ cs).1 ∧ Rel (F.putC side rd at_ cs).2 (P.putC side rd at_ cs).2 := by
  induction cs generalizing F P with
  | nil => intro at_ _ _; exact ⟨rfl, h⟩
  | cons c r ih =>
    intro at_ hb hl
    simp only [List.length_cons] at hl
    have hm := h.mput hg side rd (at_ : Int) c
    have hgm := mput_good hg side rd (at_ : Int) (hb c (by simp)) (by omega)
    have hfm := mput_few P side rd (at_ : Int) c
    simp only [Rf.putC, Pl.putC]
    rw [hm.1]
    split
    · exact ih hm.2 hgm _ (fun d hd => hb d (by simp [hd])) (by omega)
    · exact ⟨hm.1, hm.2⟩

/-- The program's reel and the document's. -/
structure RM (r : Rl) (d : Rd) : Prop where
  rel : Rel d.F r.P
  side : d.side = r.side
  ready : d.ready = r.ready
  row : r.ready = true → d.at_ = r.row.2.2 ∧ d.rd = r.row.1

section
variable {n : Nat} {r : Rl} {d : Rd} {H : Nat → Hs} {T : Nat}

theorem RM.room (m : RM r d) (hi : RI n r H T) : d.room = r.room := by
  unfold Rd.room Rl.room
  rw [m.rel.seen, hi.inv.good.size]

theorem RM.begin (m : RM r d) (hi : RI n r H T) (hT : T + 1 ≤ 200) {t : List Nat} (ht : Word t) : (d.begin t).1 = (r.begin t).1 ∧ RM (r.begin t).2 (d.begin t).2 := by
  obtain ⟨H', hi', hb⟩ := hi.begin hT ht
  have hrow : (r.begin t).1 = 0 → cellsN t.length = (r.begin t).2.row.2.2 ∧ topL r.P.last + 1 = (r.begin t).2.row.1 := fun h0 => by
    rw [((hb h0).row hi'.inv hi'.side).1]
    exact ⟨rfl, rfl⟩
  have hp := m.rel.putC hi.inv.good ((1 - r.side : Nat) : Int) (topL r.P.last + 1) (chunksL (frameL 1 t)) 0 (fun c hc => (chop_each _ _ (frameL_bytes (by decide) ht.2) c hc).2) (by
    have h1 := hi.inv.few
    have h2 := hi.inv.n60
    have h3 := frame_cells 1 ht.1
    have h4 := cellsN_le t.length
    omega)
  clear hb
  have hcond : (decide (cellsN t.length ≤ d.room) && decide (topL d.F.seen < 1099511627776)) = (fitsB t.length r.room && decide (topL r.P.last < 1099511627776)) := by
    unfold fitsB
    rw [m.room hi, m.rel.seen, decide_eq_true (cellsN_pos ht.1), Bool.true_and]
  unfold Rd.begin
  rw [hcond]
  unfold Rl.begin at hrow ⊢
  rw [m.rel.seen, m.side]
  cases hc : (fitsB t.length r.room && decide (topL r.P.last < 1099511627776)) with
  | false => exact ⟨rfl, m⟩
  | true =>
    rw [hc] at hrow
    simp only [if_true] at hrow ⊢
    generalize d.F.putC ((1 - r.side : Nat) : Int) (topL r.P.last + 1) 0 (chunksL (frameL 1 t)) = X at *
    generalize r.P.putC ((1 - r.side : Nat) : Int) (topL r.P.last + 1) 0 (chunksL (frameL 1 t)) = Y at *
    rw [hp.1]
    have hfl := hp.2.flush
    cases h1 : (Y.1 == 0) with
    | false => exact ⟨rfl, hp.2, rfl, rfl, fun h => by cases h⟩
    | true =>
      rw [h1] at hrow
      simp only [if_true] at hrow ⊢
      rw [hfl.1]
      cases h2 : (Y.2.flush.1 == 0) with
      | false => exact ⟨rfl, hfl.2, rfl, rfl, fun h => by cases h⟩
      | true =>
        rw [h2] at hrow
        simp only [if_true] at hrow ⊢
        obtain ⟨q1, q2⟩ := hrow trivial
        exact ⟨trivial, hfl.2, rfl, rfl, fun _ => ⟨q1, q2⟩⟩

theorem RM.leftI (m : RM r d) (hi : RI n r H T) : d.left = (r.left : Int) ∧ d.at_ ≤ 100000 + d.at_ := by
  refine ⟨?_, by omega⟩
  unfold Rd.left Rl.left
  rw [m.ready]
  cases hr : r.ready with
  | false => rfl
  | true =>
    obtain ⟨rb, k, b⟩ := hi.rdy hr
    have hrow := (b.row hi.inv hi.side).1
    obtain ⟨h1, _⟩ := m.row hr
    rw [if_pos rfl, if_pos rfl, m.room hi, h1, hrow]
    have := b.hin
    have : r.room = n / 2 := by unfold Rl.room; rw [hi.inv.len]
    simp only
    omega

theorem RM.add (m : RM r d) (hi : RI n r H T) (hT : T ≤ 200) {x : List Nat} (hx : Word x) : (d.add x).1 = (r.add x).1 ∧ RM (r.add x).2 (d.add x).2 := by
  obtain ⟨H', hi', hb⟩ := hi.add hT hx
  have hlf := (m.leftI hi).1
  unfold Rd.add
  unfold Rl.add at hi' hb ⊢
  rw [m.ready]
  cases hr : r.ready with
  | false => exact ⟨rfl, m⟩
  | true =>
    rw [hr] at hi' hb
    simp only [if_true] at hi' hb ⊢
    obtain ⟨rb, k, b⟩ := hi.rdy hr
    have hrow := (b.row hi.inv hi.side).1
    obtain ⟨h1, h2⟩ := m.row hr
    rw [hrow] at h1 h2 hi' hb
    simp only at h1 h2 hi' hb
    rw [hlf, h1, h2, m.side, hrow]
    simp only
    have hl : r.left = r.room - k := by unfold Rl.left; rw [hr, if_pos rfl, hrow]
    rw [hl]
    have hc : fitsB x.length (r.room - k) = decide ((cellsN x.length : Int) ≤ ((r.room - k : Nat) : Int)) := by
      unfold fitsB
      rw [decide_eq_true (cellsN_pos hx.1), Bool.true_and]
      simp
    have hp := m.rel.putC hi.inv.good (r.side : Int) rb (chunksL (frameL 2 x)) k (fun c hc => (chop_each _ _ (frameL_bytes (by decide) hx.2) c hc).2) (by
      have h1 := hi.inv.few
      have h2 := hi.inv.n60
      have h3 := frame_cells 2 hx.1
      have h4 := cellsN_le x.length
      omega)
    rw [hc] at hi' hb ⊢
    by_cases hq : (cellsN x.length : Int) ≤ ((r.room - k : Nat) : Int)
    · rw [decide_eq_true hq] at hi' hb ⊢
      rw [if_pos hq]
      simp only [if_true] at hi' hb ⊢
      generalize d.F.putC (r.side : Int) rb k (chunksL (frameL 2 x)) = X at *
      generalize r.P.putC (r.side : Int) rb k (chunksL (frameL 2 x)) = Y at *
      rw [hp.1]
      cases h0 : (Y.1 == 0) with
      | false => exact ⟨rfl, hp.2, rfl, rfl, fun h => by cases h⟩
      | true =>
        have hB := hb rb k b (by simpa using h0)
        have hrow2 := (hB.row hi'.inv hi'.side).1
        rw [h0] at hrow2
        refine ⟨rfl, hp.2, rfl, rfl, fun _ => ?_⟩
        rw [hrow2]
        exact ⟨rfl, rfl⟩
    · rw [decide_eq_false hq, if_neg hq]
      exact ⟨rfl, m⟩

theorem RM.flush (m : RM r d) : (d.flush).1 = (r.flush).1 ∧ RM r.flush.2 d.flush.2 := by
  unfold Rd.flush Rl.flush
  rw [m.ready]
  cases hr : r.ready with
  | false => exact ⟨rfl, m⟩
  | true =>
    have hf := m.rel.flush
    rw [if_pos rfl, if_pos rfl]
    refine ⟨hf.1, hf.2, m.side, by simp only; rw [hf.1], fun _ => ?_⟩
    have hl : r.P.flush.2.last = r.P.last := by
      unfold Pl.flush
      rcases r.P.spend_cases with ⟨e1, _, _, e⟩ | ⟨e1, e⟩ <;> rw [e1, e] <;> rfl
    have e : Rl.row ⟨r.P.flush.2, r.side, r.P.flush.1 == 0⟩ = r.row := by unfold Rl.row; simp only; rw [hl]
    rw [e]
    exact m.row hr
theorem RM.limit (m : RM r d) (k : Int) : RM ⟨r.P.limit k, r.side, r.ready⟩ { d with F := d.F.limit k } := ⟨m.rel.limit k, m.side, m.ready, m.row⟩
theorem RM.fails (m : RM r d) (keep : List Nat) (torn at_ : Int) : Rel (d.F.fail keep torn at_) (r.P.fail keep torn at_) := m.rel.fail keep torn at_
end

/-- The document tells what the program tells. -/
theorem tellD_told {n : Nat} {P : Pl} {H : Nat → Hs} (hi : Inv n P H) : tellD P.last = ((toldL P.last).1, (toldL P.last).2.2) := by
  have hlen := hi.good.size.trans hi.len
  have h0 := onR_legit hlen hi.lastL hi.ok (s := 0) (by omega)
  have h1 := onR_legit hlen hi.lastL hi.ok (s := 1) (Nat.le_refl _)
  have r0 : (readL P.last 0).1 = (rowOf P.last 0).1 := rfl
  have r1 : (readL P.last 1).1 = (rowOf P.last 1).1 := rfl
  have h0' : onR 1 (readL P.last 0).2 = (rowOf P.last 0).2.1 := h0
  have h1' : onR 1 (readL P.last 1).2 = (rowOf P.last 1).2.1 := h1
  have l0 := row_legit hlen hi.n60 hi.lastL hi.ok (s := 0) (by omega)
  have l1 := row_legit hlen hi.n60 hi.lastL hi.ok (s := 1) (Nat.le_refl _)
  have l0' : ((rowOf P.last 0).2.1 = []) ∨ (1 ≤ (rowOf P.last 0).1 ∧ (H (rowOf P.last 0).1).side = 0) := by
    rcases l0 with ⟨e, _⟩ | ⟨q, j, a1, a2, a3, _, _, _, a8, _⟩
    · exact .inl (congrArg (fun x => x.2.1) e)
    · exact .inr ⟨by rw [show (rowOf P.last 0).1 = q from a8]; exact a1, by rw [show (rowOf P.last 0).1 = q from a8]; exact a3⟩
  have l1' : ((rowOf P.last 1).2.1 = []) ∨ (1 ≤ (rowOf P.last 1).1 ∧ (H (rowOf P.last 1).1).side = 1) := by
    rcases l1 with ⟨e, _⟩ | ⟨q, j, a1, a2, a3, _, _, _, a8, _⟩
    · exact .inl (congrArg (fun x => x.2.1) e)
    · exact .inr ⟨by rw [show (rowOf P.last 1).1 = q from a8]; exact a1, by rw [show (rowOf P.last 1).1 = q from a8]; exact a3⟩
  unfold tellD toldL told0
  rw [h0', h1', r0, r1]
  generalize (rowOf P.last 0).1 = q0 at *
  generalize (rowOf P.last 1).1 = q1 at *
  generalize (rowOf P.last 0).2.1 = b0 at *
  generalize (rowOf P.last 1).2.1 = b1 at *
  clear h0 h1 h0' h1' r0 r1 l0 l1
  have hne : ∀ l : List (List Nat), (0 < l.length ↔ l ≠ []) ∧ (l.length = 0 ↔ l = []) := fun l => by cases l <;> simp
  simp only [(hne b0).1, (hne b1).1, (hne b1).2]
  by_cases e0 : b0 = []
  · by_cases e1 : b1 = []
    · simp [e0, e1]
    · have := (l1'.resolve_left e1).1
      simp [e0, e1, show 0 < q1 by omega]
  · have g0 := l0'.resolve_left e0
    by_cases e1 : b1 = []
    · simp [e0, e1, show 0 < q0 by omega]
    · have g1 := l1'.resolve_left e1
      have hd : q0 ≠ q1 := fun e => by
        rw [e, g1.2] at g0
        omega
      by_cases hlt : q1 < q0
      · simp [e0, e1, hlt, show 0 < q0 by omega, show ¬ q0 < q1 by omega]
      · simp [e0, e1, hlt, show 0 < q0 by omega, show q0 < q1 by omega]
end

/- RnPair: The program's reel beside the document's; what the law's sameWords answers. -/
section
set_option maxRecDepth 100000
open Go.RowKit

theorem rd_fin {A' : Int × Rd} {b g : Nat} {w : World} {R : Nat → Prop} {f : FuncId} {args : Array Value} (C : Calls Try.prog f args w (RdPost A' b g R w)) : Calls Try.prog f args w (fun e w' => e = .returned (.int .i64 A'.1) ∧ atRd b g A'.2 w' (ext R w w') ∧ Keep R w w') :=
  C.mono fun _ _ ⟨e, h⟩ => ⟨e, h.fin⟩

section
variable {w0 w w' : World} {A : World → (Nat → Prop) → Prop} {L : Nat → Prop} {g b : Nat} {d : Rd} {F : Rf}

theorem Pair.rdbegin (sA : Stays A) (h : Pair w0 w A (atRd b g d) L) (hs : d.side ≤ 1) (x : List Nat) (hx : Word x) (hats : d.F.ats.length + 1500 ≤ 100000) (hwhat : d.F.what.length + 1500 ≤ 100000) :
    Calls Try.prog 18 #[ptr b, .string (strB x)] w (fun e w' => e = .returned (.int .i64 (d.begin x).1) ∧ Pair w0 w' A (atRd b g (d.begin x).2) L ∧ ∀ k, L k → w'.heap[k]? = w.heap[k]?) :=
  h.second sA fun _ h1 => rd_fin (rdbegin_any h1.start hs x hx hats hwhat)
theorem Pair.rdadd (sA : Stays A) (h : Pair w0 w A (atRd b g d) L) (hat : d.at_ ≤ 100000) (hrd : d.rd < 18446744073709551616) (x : List Nat) (hx : Word x) (hats : d.F.ats.length + 1500 ≤ 100000) (hwhat : d.F.what.length + 1500 ≤ 100000) :
    Calls Try.prog 19 #[ptr b, .string (strB x)] w (fun e w' => e = .returned (.int .i64 (d.add x).1) ∧ Pair w0 w' A (atRd b g (d.add x).2) L ∧ ∀ k, L k → w'.heap[k]? = w.heap[k]?) :=
  h.second sA fun _ h1 => rd_fin (rdadd_any h1.start hat hrd x hx hats hwhat)
theorem Pair.rdadd2 (sA : Stays A) (h : Pair w0 w A (atRd b g d) L) (hat : (d.at_ ≤ 100000 ∧ d.rd < 18446744073709551616) ∨ d.ready = false) (x : List Nat) (hx : Word x) (hats : d.F.ats.length + 1500 ≤ 100000) (hwhat : d.F.what.length + 1500 ≤ 100000) :
    Calls Try.prog 19 #[ptr b, .string (strB x)] w (fun e w' => e = .returned (.int .i64 (d.add x).1) ∧ Pair w0 w' A (atRd b g (d.add x).2) L ∧ ∀ k, L k → w'.heap[k]? = w.heap[k]?) := by
  rcases hat with ⟨h1, h2⟩ | h1
  · exact h.rdadd sA h1 h2 x hx hats hwhat
  · exact h.second sA fun _ h2 => rd_fin (rdadd_off h2.start h1 x)
theorem Pair.rdflush (sA : Stays A) (h : Pair w0 w A (atRd b g d) L) :
    Calls Try.prog 20 #[ptr b] w (fun e w' => e = .returned (.int .i64 d.flush.1) ∧ Pair w0 w' A (atRd b g d.flush.2) L ∧ ∀ k, L k → w'.heap[k]? = w.heap[k]?) :=
  h.second sA fun _ h1 => rd_fin (rdflush_any h1.start)
theorem Pair.rdleft (h : Pair w0 w A (atRd b g d) L) (hat : d.at_ ≤ 100000) : Calls Try.prog 28 #[ptr b] w (IntB d.left w) := h.swap.read fun _ h1 => rdleft_any h1.start hat
theorem Pair.rdleft2 (h : Pair w0 w A (atRd b g d) L) (hat : d.at_ ≤ 100000 ∨ d.ready = false) : Calls Try.prog 28 #[ptr b] w (IntB d.left w) := by
  rcases hat with h1 | h1
  · exact h.rdleft h1
  · exact h.swap.read fun _ h2 => rdleft_off h2.start h1
theorem Pair.rdvars (h : Pair w0 w A (atRd b g d) L) : RdV w b g d.side d.at_ d.rd d.ready := by
  obtain ⟨R1, R2, _, ⟨sv, lv, av, wv, _, _, _, h⟩, _⟩ := h
  exact h
theorem Pair.rdopenF (h : Pair w0 w A (atRf g F) L) : Calls Try.prog 17 #[ptr g] w (OpenDPost g (tellD F.seen) w) := h.swap.read fun _ ⟨_, _, _, _, h1⟩ => rdopen_any h1
theorem Pair.rdopen (h : Pair w0 w A (atRd b g d) L) : Calls Try.prog 17 #[ptr g] w (OpenDPost g (tellD d.F.seen) w) := h.swap.read fun _ ⟨_, _, _, _, h1, _⟩ => rdopen_any h1

/-- A reel that the document opened on its plate. -/
theorem Pair.toRd (sA : Stays A) (h : Pair w0 w A (atRf g F) L) (hb : Below w.heap.size w w') {s : Nat} (hn : w.heap.size ≤ b) (hv : RdV w' b g s 0 0 false) : Pair w0 w' A (atRd b g ⟨F, s, 0, 0, false⟩) L := by
  obtain ⟨R1, R2, h1, ⟨sv, lv, av, wv, h2⟩, h3, h4, h5, h6⟩ := h
  have h2' := h2.below hb
  refine ⟨R1, fun k => R2 k ∨ k = b, sA.same _ _ _ h1 hb.size (fun k hk => hb.block k (sA.dom _ _ h1 k hk)), ⟨sv, lv, av, wv, h2'.mono (fun k hk => hk.elim (h2'.dom k) (fun e => by subst e; exact hv.lt)) (fun _ e => .inl e), .inr rfl, fun e => ?_, hv⟩, fun k a c => ?_, fun k a => ?_, fun k hk => Nat.lt_of_lt_of_le (h5 k hk) hb.size, h6.trans (hb.mono h6.size)⟩
  · have := h2.dom b (h2.within b e)
    omega
  · rcases c with c | rfl
    · exact h3 k a c
    · have := sA.dom _ _ h1 _ a
      omega
  · rcases a with a | a | rfl
    · exact h4 k (.inl a)
    · exact h4 k (.inr a)
    · exact ⟨Nat.le_trans h6.size hn, fun hl => by have := h5 _ hl; omega⟩
theorem Pair.turnD (sA : Stays A) (h : Pair w0 w A (atRd b g d) L) (hb : Below w.heap.size w w') {b2 s : Nat} (hn : w.heap.size ≤ b2) (hv : RdV w' b2 g s 0 0 false) : Pair w0 w' A (atRd b2 g ⟨d.F, s, 0, 0, false⟩) L := by
  obtain ⟨R1, R2, h1, ⟨sv, lv, av, wv, h2, _⟩, h3⟩ := h
  exact Pair.toRd sA (F := d.F) ⟨R1, R2, h1, ⟨sv, lv, av, wv, h2⟩, h3⟩ hb hn hv

theorem Pair.rdlimit (sA : Stays A) (h : Pair w0 w A (atRd b g d) L) (n : Int) (hn : n ≤ 9223372036854775807) :
    Calls Try.prog 22 #[ptr g, .int .i64 n] w (fun e w' => e = .returned (.tuple #[]) ∧ Pair w0 w' A (atRd b g { d with F := d.F.limit n }) L ∧ ∀ k, L k → w'.heap[k]? = w.heap[k]?) :=
  h.second sA fun R h1 => by
    obtain ⟨sv, lv, av, wv, h2, _, hc⟩ := h1.start.plate
    refine (refLimit_any h2 n hn).mono ?_
    rintro e w' ⟨rfl, hp, hu⟩
    exact ⟨rfl, (hc _ _ ⟨sv, lv, av, wv, hp.ext⟩ ((Keep.refl _ w).upd hu (fun _ => h2.rg))).fin⟩
theorem Pair.rdfail (sA : Stays A) (h : Pair w0 w A (atRd b g d) L) (hlen : d.F.ats.length = d.F.what.length) (ka : Option Addr) (kc : Nat) (keep : List Nat) (hk : BytesP w ka kc keep) (hka : keep ≠ [] → ∀ b o, ka = some ⟨b, o, none⟩ → b < w0.heap.size ∨ L b) (torn at_ : Int) :
    Calls Try.prog 24 #[ptr g, .slice ka keep.length kc, .int .i64 torn, .int .i64 at_] w (fun e w' => e = .returned (.tuple #[]) ∧ Pair w0 w' A (atRd b g { d with F := d.F.fail keep torn at_ }) L ∧ ∀ k, L k → w'.heap[k]? = w.heap[k]?) := by
  obtain ⟨R1, R2, h1, h2, h3, h4, h5, h6⟩ := h
  have hoff : keep ≠ [] → ∀ b o, ka = some ⟨b, o, none⟩ → ¬ R2 b := fun hne b o e hr => by
    have := h4 b (.inr hr)
    rcases hka hne b o e with h | h
    · omega
    · exact this.2 h
  have h' : Pair w0 w A (fun w' R => atRd b g d w' R ∧ (w' = w → R = R2)) L := ⟨R1, R2, h1, ⟨h2, fun _ => rfl⟩, h3, h4, h5, h6⟩
  refine h'.second sA fun R ⟨hp, hR⟩ => ?_
  have := hR rfl
  subst this
  obtain ⟨sv, lv, av, wv, q1, q2, q3, q4⟩ := hp
  obtain ⟨sv', lv', av', wv', q5, _, hc⟩ := (atRd.start ⟨sv, lv, av, wv, q1, q2, q3, q4⟩).plate
  obtain ⟨e1, e2, e3, e4⟩ : sv' = sv ∧ lv' = lv ∧ av' = av ∧ wv' = wv := by
    have := q5.head.symm.trans q1.head
    simp at this
    exact ⟨this.1, this.2.1, this.2.2.1, this.2.2.2⟩
  subst e1 e2 e3 e4
  refine (refFail_any q5 hlen ka kc keep hk (fun hne b o e hr => hoff hne b o e (q1.within _ hr)) torn at_).mono ?_
  rintro e w' ⟨rfl, hp, hk⟩
  exact ⟨rfl, (hc _ _ hp hk).fin⟩
end

set_option maxHeartbeats 4000000 in
theorem sameWords_any (a b : Option Addr) (ca cb : Nat) (ls : List (List Nat)) (w : World) (h1 : LLP w a ca ls) (h2 : SSP w b cb ls) : Calls Try.prog 25 #[.slice a ls.length ca, .slice b ls.length cb] w (BoolB true w) := by
  have H1 := Lib.hid h1
  have H2 := Lib.hid h2
  have hn := h1.len
  have hc1 := h1.cap
  have hc2 := h2.cap
  clear h1 h2
  go_enter Try.func25, Try.ntmps25
  go_wp2_with fail
  go_loopw [13] (fun i wr => ∃ (k : Nat), k ≤ ls.length ∧ i = .int .i64 k ∧ Hid (Below w.heap.size w wr)) (fun i _ => ls.length - (intOf i).toNat)
  case atStart => exact ⟨0, Nat.zero_le _, rfl, Lib.hid (Below.refl _ _)⟩
  case round =>
    obtain ⟨k, hk, rfl, HW⟩ := hrel
    by_cases hlt : k < ls.length
    · have hne : ls ≠ [] := by intro e; subst e; simp at hlt
      obtain ⟨b1, o1, rfl, q1, r1⟩ := (H1.out.below HW.out).cell hne
      obtain ⟨b2, o2, rfl, q2, r2⟩ := (H2.out.below HW.out).cell hne
      obtain ⟨a', c', g1, gB⟩ := r1 k _ (List.getElem?_eq_getElem hlt)
      have g2 := r2 k _ (List.getElem?_eq_getElem hlt)
      have RT := fun n => run_text (w := wr.drewN n) (gB.below ⟨rfl, rfl, rfl, Nat.le_refl _, fun _ _ => rfl⟩)
      have PN := Lib.hid (fun n => show Below w.heap.size w (wr.drewN n) from ⟨HW.out.os, HW.out.tape, HW.out.output, HW.out.size, HW.out.block⟩)
      generalize strB ls[k] = tx at *
      generalize ls[k].length = nx at *
      clear r1 r2 gB hne HW
      go_wp2_with fail
      go_quiet (fail)
      go_wp2_with fail
      go_roundw
      case rel => exact ⟨k + 1, by omega, by go_num, Lib.hid (PN.out _)⟩
      case measure => simp [intOf]; omega
    · go_wp2_with fail
      go_ret
      exact ⟨rfl, HW.out⟩
end

end Go.Proofs.Ytipikkniookanaa
