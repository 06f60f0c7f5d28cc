/- What the document's Left, Flush, Add of layer 9 answer. -/
import Derived.Test.YtipikkniookanaaRnObj
namespace Go.Proofs.Ytipikkniookanaa
set_option maxRecDepth 100000
open Go.RowKit

attribute [local go_sem ↓] ld26 ld66 st26 st66 bx26 al26 al66 bd26 bd66 bs61 bs48 mk48 eq26 ap61 ap48 ap49 cp46 cp48
attribute [local go_sem] bx_agg al_cell al_wr bd_zero bd_one bd_two bd_nine

def Rd.room (d : Rd) : Nat := d.F.seen.length / 2
def Rd.left (d : Rd) : Int := if d.ready then (d.room : Int) - (d.at_ : Int) else 0
def Rd.flush (d : Rd) : Int × Rd := if d.ready then (d.F.flush.1, { d with F := d.F.flush.2, ready := d.F.flush.1 == 0 }) else (91, d)
def Rd.add (d : Rd) (x : List Nat) : Int × Rd :=
  if d.ready then
    (if (cellsN x.length : Int) ≤ d.left then
      ((d.F.putC (d.side : Int) d.rd d.at_ (chunksL (frameL 2 x))).1, if (d.F.putC (d.side : Int) d.rd d.at_ (chunksL (frameL 2 x))).1 == 0 then { d with F := (d.F.putC (d.side : Int) d.rd d.at_ (chunksL (frameL 2 x))).2, at_ := d.at_ + cellsN x.length } else { d with F := (d.F.putC (d.side : Int) d.rd d.at_ (chunksL (frameL 2 x))).2, ready := false })
    else (92, d))
  else (91, d)

/-- An error and what becomes of the document's reel. -/
def RdPost (res : Int × Rd) (b g : Nat) (R : Nat → Prop) (w : World) (e : Ending) (w' : World) : Prop := e = .returned (.int .i64 res.1) ∧ ReD b g res.2 R w w'

section
variable {b g : Nat} {d : Rd} {w W : World} {R : Nat → Prop}

theorem ReD.drew (h : ReD b g d R w W) : ReD b g d R w W.drew := h.below (Below.refl _ _).drew

theorem ReD.plate2 (h : ReD b g d R w W) : ∃ sv lv av wv, RfM W (Rfm g sv lv av wv) g sv lv av wv d.F ∧ ¬ Rfm g sv lv av wv b ∧ ∀ V, Below W.heap.size W V → ∀ (F' : Rf) (W' : World), RefP W' (ext (Rfm g sv lv av wv) V W') g F' → Keep (Rfm g sv lv av wv) V W' → ReD b g { d with F := F' } R w W' := by
  obtain ⟨sv, lv, av, wv, h1, h2, h3⟩ := h.plate
  refine ⟨sv, lv, av, wv, h1, h2, fun V hV F' W' hp hk => h3 F' W' ?_ ?_⟩
  · obtain ⟨sv2, lv2, av2, wv2, hp⟩ := hp
    refine ⟨sv2, lv2, av2, wv2, hp.mono (fun k hk' => ?_) (fun k hk' => ?_)⟩
    · rcases hk' with h | h
      · exact Nat.lt_of_lt_of_le (h1.dom k h) (Nat.le_trans hV.size hk.size)
      · exact h.2
    · rcases hk' with h | h
      · exact .inl h
      · exact .inr ⟨Nat.le_trans hV.size h.1, h.2⟩
  · exact ((Keep.refl _ W).of_below hV).trans hk (fun _ _ e => e)

set_option maxHeartbeats 4000000 in
theorem rdleft_any (h : ReD b g d R w W) (hat : d.at_ ≤ 100000) : Calls Try.prog 28 #[ptr b] W (IntB d.left W) := by
  obtain ⟨c0, c1, c2, c3, c4⟩ := h.vars.cells
  obtain ⟨sv, lv, av, wv, h1, _, _⟩ := h.plate
  have CR := Lib.hid (refRoom_any h1.drew)
  have hgd := h.good
  have hm : d.F.seen.length / 2 ≤ 100000 := by have := hgd.most; have := hgd.size; omega
  cases hr : d.ready with
  | false =>
    have HE := Lib.hid (show d.left = 0 by unfold Rd.left; rw [hr]; rfl)
    rw [hr] at c4
    clear h h1 hgd CR
    go_enter Try.func28, Try.ntmps28
    go_wp2_with fail
    go_ret
    exact ⟨by rw [HE.out]; rfl, Below.refl _ _⟩
  | true =>
    have HE := Lib.hid (show d.left = ((d.F.seen.length / 2 : Nat) : Int) - (d.at_ : Int) by unfold Rd.left Rd.room; rw [hr]; rfl)
    rw [hr] at c4
    clear h h1 hgd
    generalize d.F.seen.length / 2 = rm at *
    generalize d.at_ = at_ at *
    have hws : IntKind.i64.wrap ((rm : Int) - (at_ : Int)) = (rm : Int) - (at_ : Int) := IntWalk.i64_in _ (by omega)
    go_enter Try.func28, Try.ntmps28
    go_wp2_with fail
    go_region_law (go_simp; go_at_call 45; refine CR.out.mono ?_; rintro e w4 ⟨rfl, rfl⟩)
    all_goals
      go_wp2_with fail
      go_ret
      exact ⟨by rw [HE.out]; first | rfl | simp [Act.put, hws], (Below.refl _ _).drew⟩

set_option maxHeartbeats 4000000 in
theorem rdflush_any (h : ReD b g d R w W) : Calls Try.prog 20 #[ptr b] W (RdPost d.flush b g R w) := by
  obtain ⟨c0, c1, c2, c3, c4⟩ := h.vars.cells
  have H := Lib.hid h
  cases hr : d.ready with
  | false =>
    have HE := Lib.hid (show d.flush = (91, d) by unfold Rd.flush; rw [hr]; rfl)
    rw [hr] at c4
    clear h
    go_enter Try.func20, Try.ntmps20
    go_wp2_with fail
    go_ret
    rw [HE.out]
    exact ⟨rfl, H.out⟩
  | true =>
    obtain ⟨sv, lv, av, wv, h1, _, hc⟩ := h.plate
    have CF := Lib.hid (refFlush_any h1)
    have HC := Lib.hid hc
    have HE := Lib.hid (show d.flush = (d.F.flush.1, { d with F := d.F.flush.2, ready := d.F.flush.1 == 0 }) by unfold Rd.flush; rw [hr]; rfl)
    rw [hr] at c4
    clear h h1 hc
    generalize d.F.flush = res at *
    obtain ⟨er, F2⟩ := res
    go_enter Try.func20, Try.ntmps20
    go_wp2_with fail
    refine CF.out.mono ?_
    rintro e w4 ⟨rfl, hp, hk⟩
    have h4 := HC.out F2 w4 hp hk
    obtain ⟨_, _, _, _, z4⟩ := h4.vars.cells
    obtain ⟨_, _, _, y4⟩ := h4.vars.frozen
    have H5 := Lib.hid (h4.set 4 (.bool (er == 0)) (d' := { d with F := F2, ready := er == 0 }) rfl (h4.vars.set4 (er == 0)))
    clear h4 hp hk CF HC H c0 c1 c2 c3 c4
    go_wp2_with fail
    go_ret
    rw [HE.out]
    exact ⟨rfl, H5.out⟩

set_option maxHeartbeats 8000000 in
theorem rdadd_any (h : ReD b g d R w W) (hat : d.at_ ≤ 100000) (_hrd : d.rd < 18446744073709551616) (x : List Nat) (hx : Word x) (hats : d.F.ats.length + 1500 ≤ 100000) (hwhat : d.F.what.length + 1500 ≤ 100000) :
    Calls Try.prog 19 #[ptr b, .string (strB x)] W (RdPost (d.add x) b g R w) := by
  obtain ⟨c0, c1, c2, c3, c4⟩ := h.vars.cells
  have H := Lib.hid h
  cases hr : d.ready with
  | false =>
    have HE := Lib.hid (show d.add x = (91, d) by unfold Rd.add; rw [hr]; rfl)
    rw [hr] at c4
    clear h
    go_enter Try.func19, Try.ntmps19
    go_wp2_with fail
    go_ret
    rw [HE.out]
    exact ⟨rfl, H.out⟩
  | true =>
    rw [hr] at c4
    obtain ⟨cb, W2, hcv, hB2, b2⟩ := run_bytes_text W x hx.2 (by have := hx.1; omega)
    have CF := Lib.hid (refFrame_any 2 _ cb x W2 hB2 (by decide) hx.1)
    have HFB := Lib.hid (frameL_bytes (k := 2) (by decide) hx.2)
    have HFL := Lib.hid (show (frameL 2 x).length ≤ 70000 by rw [frameL_len]; have := numL_three hx.1; have := hx.1; omega)
    have CC := Lib.hid (fun V => rcells_any x.length hx.1 V)
    have hcl := cellsN_le x.length
    have hsz := strB_size x
    have B2 := Lib.hid b2
    obtain ⟨sv, lv, av, wv, h1, hbn, hcp⟩ := h.plate2
    have HP1 := Lib.hid h1
    have HBN := Lib.hid hbn
    have HCP := Lib.hid hcp
    have HE := Lib.hid (show d.add x = if (cellsN x.length : Int) ≤ d.left then
      ((d.F.putC (d.side : Int) d.rd d.at_ (chunksL (frameL 2 x))).1, if (d.F.putC (d.side : Int) d.rd d.at_ (chunksL (frameL 2 x))).1 == 0 then { d with F := (d.F.putC (d.side : Int) d.rd d.at_ (chunksL (frameL 2 x))).2, at_ := d.at_ + cellsN x.length } else { d with F := (d.F.putC (d.side : Int) d.rd d.at_ (chunksL (frameL 2 x))).2, ready := false })
      else (92, d) by unfold Rd.add; rw [hr]; rfl)
    have HATS := Lib.hid hats
    have HWHAT := Lib.hid hwhat
    clear h hB2 b2 h1 hbn hcp hats hwhat
    go_enter Try.func19, Try.ntmps19
    go_wp2_with fail
    refine CF.out.mono ?_
    rintro e W3 ⟨v3, rfl, o3, b3⟩
    obtain ⟨a6, c6, rfl, hB6⟩ := o3.bytes HFB.out
    have HB6 := Lib.hid hB6
    have HO6 := Lib.hid (show ∀ k o, a6 = some ⟨k, o, none⟩ → W2.heap.size ≤ k from fun k o e => o3.row k (by cases e; rfl))
    have B3 := Lib.hid (B2.out.trans (b3.mono B2.out.size))
    have H3 := Lib.hid (H.out.below B3.out)
    have CL := Lib.hid (rdleft_any H3.out hat)
    clear o3 hB6 b3 CF hcv
    generalize hlf : d.left = lf at *
    clear hlf
    go_wp2_with fail
    refine (CC.out _).mono ?_
    rintro e V ⟨rfl, rfl⟩
    go_wp2_with fail
    refine CL.out.mono ?_
    rintro e W4 ⟨rfl, b4⟩
    have B4 := Lib.hid (B3.out.trans (b4.mono B3.out.size))
    have H4 := Lib.hid (H3.out.below b4)
    have HB4 := Lib.hid (HB6.out.below b4)
    clear b4 CL c0 c1 c2 c3 c4
    cases tc : decide (lf < (cellsN x.length : Int)) with
    | true =>
      have HE2 := Lib.hid (show d.add x = (92, d) by rw [HE.out, if_neg (by simp at tc; omega)])
      clear HE
      generalize cellsN x.length = cn at *
      go_wp2_with fail
      go_ret
      rw [HE2.out]
      exact ⟨rfl, H4.out⟩
    | false =>
      have hle : (cellsN x.length : Int) ≤ lf := by simp at tc; omega
      rw [if_pos hle] at HE
      obtain ⟨c0, c1, c2, c3, c4⟩ := H4.out.drew.vars.cells
      have b4d := B4.out.drew
      have CP := Lib.hid (refRput_any (HP1.out.below b4d) c0 HBN.out (H4.out.drew.vars.lt) (d.side : Int) d.rd d.at_ hat a6 c6 (frameL 2 x) (HB4.out.below (Below.refl _ _).drew) (fun _ k o e hk => by
        have h1 := HO6.out k o e
        have h2 := HP1.out.dom k hk
        have h3 := B2.out.size
        omega) HFL.out HATS.out HWHAT.out)
      have HCV := Lib.hid (HCP.out _ b4d)
      clear hle HFL HB4 HB6 HO6 b4d HCP
      generalize d.F.putC (d.side : Int) d.rd d.at_ (chunksL (frameL 2 x)) = res at *
      obtain ⟨er, F2⟩ := res
      dsimp only at HE
      generalize (frameL 2 x).length = fl at *
      generalize hcn : cellsN x.length = cn at *
      clear hcn
      go_wp2_with fail

      go_region_law (go_simp; go_at_call 46; refine CP.out.mono ?_; rintro e W5 ⟨rfl, hp, hk⟩)
      all_goals
        have H5 := Lib.hid (HCV.out F2 W5 hp hk)
        clear hp hk
        cases te : (er == 0) with
        | true =>
          have he0 : er = 0 := by simpa using te
          subst he0
          have HE2 := Lib.hid (show d.add x = (0, { d with F := F2, at_ := d.at_ + cn }) by rw [HE.out]; rfl)
          obtain ⟨_, _, z2, _, _⟩ := H5.out.drew.vars.cells
          obtain ⟨_, y2, _, _⟩ := H5.out.drew.vars.frozen
          have hwc : IntKind.i64.wrap ((d.at_ : Int) + (cn : Int)) = ((d.at_ + cn : Nat) : Int) := by rw [IntWalk.i64_in _ (by omega)]; omega
          have H6 := Lib.hid (H5.out.drew.set 2 (.int .i64 ((d.at_ + cn : Nat) : Int)) (d' := { d with F := F2, at_ := d.at_ + cn }) rfl (H5.out.drew.vars.set2 (d.at_ + cn)))
          have CC2 := Lib.hid (CC.out W5.drew)
          clear HE CC c0 c1 c2 c3 c4 CP
          go_wp2_with fail
          go_region_law (go_simp; go_at_call 44; refine CC2.out.mono ?_; rintro e V ⟨rfl, rfl⟩)
          all_goals
            go_wp2_with fail
            go_ret
            rw [HE2.out]
            exact ⟨rfl, H6.out⟩
        | false =>
          have HE2 := Lib.hid (show d.add x = (er, { d with F := F2, ready := false }) by rw [HE.out]; simp only [te]; rfl)
          obtain ⟨_, _, _, _, z4⟩ := H5.out.vars.cells
          obtain ⟨_, _, _, y4⟩ := H5.out.vars.frozen
          have H6 := Lib.hid (H5.out.set 4 (.bool false) (d' := { d with F := F2, ready := false }) rfl (H5.out.vars.set4 false))
          clear HE CC c0 c1 c2 c3 c4 CP
          go_wp2_with fail
          go_ret
          rw [HE2.out]
          exact ⟨rfl, H6.out⟩
end

end Go.Proofs.Ytipikkniookanaa
