/- SnapReads: the law returns true for any bytes: the state that they are, or none, as the document tells it. The condition is its row's: the variable kinds lies as the program's text lays it. -/
import Derived.Test.YtfmpibmhhfmajaaGreatDoorMgBase
import Derived.Test.YtfmpibmhhfmajaaGreatDoorPLb
import Derived.Test.YtfmpibmhhfmajaaGreatDoorLbShelf
import Derived.Test.YtfmpibmhhfmajaaGreatDoorPSl
import Derived.Test.YtfmpibmhhfmajaaGreatDoorMgLines
import Derived.Test.YtfmpibmhhfmajaaGreatDoorMgOrders
import Derived.Test.YtfmpibmhhfmajaaGreatDoorMgBatches
import Derived.Test.YtfmpibmhhfmajaaGreatDoorMgEffects
import Derived.Test.YtfmpibmhhfmajaaGreatDoorPDy
import Derived.Test.YtfmpibmhhfmajaaGreatDoorDyShelf
import Derived.Test.YtfmpibmhhfmajaaGreatDoorMgState
import Derived.Test.YtfmpibmhhfmajaaGreatDoorMgStates
import Derived.Test.YtfmpibmhhfmajaaGreatDoorMgRight
import Derived.Test.YtfmpibmhhfmajaaGreatDoorMgProg
import Derived.Test.YtfmpibmhhfmajaaGreatDoorMgCopy
import Derived.Test.YtfmpibmhhfmajaaGreatDoorPSc
import Derived.Test.YtfmpibmhhfmajaaGreatDoorPOr
import Derived.Test.YtfmpibmhhfmajaaGreatDoorPBt
import Derived.Test.YtfmpibmhhfmajaaGreatDoorPOb
import Derived.Test.YtfmpibmhhfmajaaGreatDoorSnPlain
import Derived.Test.YtfmpibmhhfmajaaGreatDoorSnLay
import Derived.Test.YtfmpibmhhfmajaaGreatDoorSnPlain2
import Derived.Test.YtfmpibmhhfmajaaGreatDoorSnRef3
import Derived.Test.YtfmpibmhhfmajaaGreatDoorSnRef4
import Derived.Test.YtfmpibmhhfmajaaGreatDoorSnKinds
import Derived.Test.YtfmpibmhhfmajaaGreatDoorSnLines
import Derived.Test.YtfmpibmhhfmajaaGreatDoorSnTold
import Derived.Test.YtfmpibmhhfmajaaGreatDoorSnRight
import Derived.Test.YtfmpibmhhfmajaaGreatDoorSnCon
import Derived.Test.YtfmpibmhhfmajaaGreatDoorSnRow
import Derived.Test.YtfmpibmhhfmajaaGreatDoorSnOwn
import Derived.Test.YtfmpibmhhfmajaaGreatDoorSnRead0
import Derived.Test.YtfmpibmhhfmajaaGreatDoorSnReadP
import Derived.Test.YtfmpibmhhfmajaaGreatDoorSnReadP2
import Derived.Test.YtfmpibmhhfmajaaGreatDoorSnReadP3
import Derived.Test.YtfmpibmhhfmajaaGreatDoorSnReadD
import Derived.Test.YtfmpibmhhfmajaaGreatDoorSnCmd
import Derived.Test.YtfmpibmhhfmajaaGreatDoorSnState
import Derived.Test.YtfmpibmhhfmajaaGreatDoorSnAlive
import Derived.Test.YtfmpibmhhfmajaaGreatDoorRSnapReadsA
import Derived.Test.YtfmpibmhhfmajaaGreatDoorRSnapReadsB
import Derived.Test.YtfmpibmhhfmajaaGreatDoorRSnapReadsC
import Derived.Test.YtfmpibmhhfmajaaGreatDoorRows
import Derived.Test.YtfmpibmhhfmajaaGreatDoorCards
import Derived.Test.YtfmpibmhhfmajaaGreatDoorTie
import Derived.ProofKit
import Derived.Lay
import Derived.LaidOnce
import Derived.SevenTiedAt
import Derived.MakeChecks
namespace Go.Proofs.YtfmpibmhhfmajaaGreatDoor
open Go.ChangeShapes Go.WideShapes Go.ChangeAt Go.RowKit

set_option maxRecDepth 100000
attribute [local go_sem ↓] ldSt stSt alSt bxSt bdSt
attribute [local go_sem] al_sta bx_sta st_stnew bd_sta

/-- Two states that were read, in their variables; the bytes. -/
structure RlI (w : World) (a : Option Addr) (cap : Nat) (l : List Nat) (g1 : Nat) (t : StR) (g2 : Nat) (u : StR) (W : World) : Prop where
  v1 : Row W g1 37 (stC t)
  v2 : Row W g2 37 (stC u)
  p1 : StP W t
  p2 : StP W u
  by' : BytesP W a cap l
  low : Below w.heap.size w W
theorem RlI.below {w W W' : World} {a : Option Addr} {cap : Nat} {l : List Nat} {g1 : Nat} {t : StR} {g2 : Nat} {u : StR} (h : RlI w a cap l g1 t g2 u W) (b : Below W.heap.size W W') : RlI w a cap l g1 t g2 u W' := ⟨h.v1.below b, h.v2.below b, h.p1.below b, h.p2.below b, h.by'.below b, h.low.trans (b.mono h.low.size)⟩
def RlS (w : World) (a : Option Addr) (cap : Nat) (l : List Nat) (g1 : Nat) (t : StR) (g2 : Nat) (u : StR) (W : World) : Prop :=
  LdX 37 (.pointer (some ⟨g1, 0, none⟩)) W = .ok (.value (stV t)) W ∧ (convert 40 9 (.slice a l.length cap)).run Tryz.prog W = .ok (.string (strB l)) W ∧ RlI w a cap l g1 t g2 u W
theorem rlS {w W : World} {a : Option Addr} {cap : Nat} {l : List Nat} {g1 : Nat} {t : StR} {g2 : Nat} {u : StR} (h : RlI w a cap l g1 t g2 u W) : RlS w a cap l g1 t g2 u W := ⟨ld_sta h.v1, run_text h.by', h⟩

set_option maxHeartbeats 8000000 in
theorem reads_walk (HA : AliveC) (HQ : RightC) (HS : StateC) (HR : ReadC) (HD : RefReadC) (a : Option Addr) (cap : Nat) (l : List Nat) (w : World) (HK : Hid (KdAt w)) (h : BytesP w a cap l) :
    Calls Tryz.prog 7 #[.slice a l.length cap] w (Tell true w) := by
  have H := Lib.hid h
  have hcap := h.cap
  have HBy := Lib.hid h.byte
  clear h
  go_enter Tryz.func7, Tryz.ntmps7
  go_wp2_with fail
  refine (HA _ HK.out).mono ?_
  rintro e W1 ⟨rfl, b1⟩
  have B1 := Lib.hid b1
  have H1 := Lib.hid (H.out.below b1)
  clear b1
  by_cases h1 : 4000 < l.length
  · have h1i : (4000 : Int) < (l.length : Int) := by omega
    go_wp2_with fail
    go_ret
    exact ⟨rfl, B1.out⟩
  · have h1i : ¬ (4000 : Int) < (l.length : Int) := by omega
    have C1 := Lib.hid (HR a cap l W1 H1.out (by omega))
    go_wp2_with fail
    refine C1.out.mono ?_
    rintro e W2 ⟨t, rfl, ht, hPt, b2⟩
    have HTm := Lib.hid ht
    have B2 := Lib.hid (B1.out.trans (b2.mono B1.out.size))
    have R2 := Lib.hid (Row.new W2 (stC t) 37)
    have bb := (Below.refl W2.heap.size W2).alloc (Nat.le_refl _) (.cells (stC t) 37)
    have P2 := Lib.hid (hPt.below bb)
    have H2 := Lib.hid ((H1.out.below b2).below bb)
    have B3 := Lib.hid (B2.out.trans (bb.mono B2.out.size))
    clear ht hPt b2 bb C1 H1 B1 B2
    go_wp2_with fail
    generalize W2.alloc (.cells (stC t) 37) = W3 at *
    generalize W2.heap.size = g1 at *
    refine (HD a cap l W3 H2.out (by omega)).mono ?_
    rintro e W4 ⟨u, rfl, hu, hPu, b4⟩
    have HUm := Lib.hid hu
    have K : Hid (RlI w a cap l g1 t W4.heap.size u (W4.alloc (.cells (stC u) 37))) := Lib.hid (by
      have bb := (Below.refl W4.heap.size W4).alloc (Nat.le_refl _) (.cells (stC u) 37)
      have B5 := B3.out.trans (b4.mono B3.out.size)
      exact ⟨(R2.out.below b4).below bb, Row.new _ _ _, (P2.out.below b4).below bb, hPu.below bb, (H2.out.below b4).below bb, B5.trans (bb.mono B5.size)⟩)
    clear hu hPu b4 R2 P2 H2 B3
    have la := ld_sta K.out.v1
    have lb := ld_sta K.out.v2
    have CE := Lib.hid (refSameS_any t u _ K.out.p1 K.out.p2)
    rw [(sameS_iff t u).2 (HTm.out.trans HUm.out.symm)] at CE
    cases hq : readO l with
    | none =>
      have he : readE l = 161 := by unfold readE; rw [hq]; rfl
      rw [he]
      clear hq
      go_wp2_with fail
      generalize W4.alloc (.cells (stC u) 37) = W6 at *
      generalize W4.heap.size = g at *
      refine CE.out.mono ?_
      rintro e W7 ⟨rfl, b7⟩
      have K7 := Lib.hid (K.out.below b7)
      clear la lb CE b7
      go_wp2_with fail
      refine wp_region_far (by kernel_rfl) (by kernel_rfl) ?_
      repeat (first | go_big_quiet_step (fail) | quiet_step (fail))
      refine wpQuiet_nil ?_
      intro _ hw'
      obtain ⟨p, hw''⟩ := hw'
      subst hw''
      have K9 := K7.out.below (far_below W7 p)
      go_wp2_with fail
      go_ret
      exact ⟨rfl, K9.low⟩
    | some m =>
      have he : readE l = 0 := by unfold readE; rw [hq]; rfl
      obtain ⟨hl, hr⟩ := readO_back HBy.out hq
      have htm : t.st = m := by rw [HTm.out]; unfold readV; rw [hq]; rfl
      have hF : Hid (FitS t) := Lib.hid ⟨by rw [htm]; exact hr, by rw [htm, ← hl]; omega⟩
      have hfew : Hid (FewS t) := Lib.hid (by
        have hm := stateL_many m
        rw [← hl] at hm
        have hh := (rightP_of hr).head.many
        rw [← htm] at hm hh
        have e1 : t.ords.length ≤ 400 := by simpa [StR.st, odsOf] using hh
        have e2 : t.bats.length ≤ l.length := by simpa [StR.st, btsOf] using hm.1
        have e3 : t.effs.length ≤ l.length := hm.2
        exact ⟨by omega, by omega, by omega⟩)
      have CC := Lib.hid (fun W (h : RlS w a cap l g1 t W4.heap.size u W) =>
        (HS t W h.2.2.p1 hF.out).mono (R' := fun e w' => ∃ A5 p5, e = .returned (.slice A5 l.length p5) ∧ (convert 40 9 (.slice A5 l.length p5)).run Tryz.prog w' = .ok (.string (strB l)) w' ∧ RlS w a cap l g1 t W4.heap.size u w') (by
          rintro e w' ⟨v, rfl, o, b⟩
          rw [htm, ← hl] at o
          obtain ⟨A5, p5, rfl, h5⟩ := o.bytes HBy.out
          exact ⟨A5, p5, rfl, run_text h5, rlS (h.2.2.below b)⟩))
      have CQ := Lib.hid (fun W (h : RlS w a cap l g1 t W4.heap.size u W) =>
        (show Calls Tryz.prog 25 #[stV t] W (Tell true W) from by have := HQ t W h.2.2.p1 hfew.out; rwa [hF.out.1] at this).mono (R' := fun e w' => e = .returned (.bool true) ∧ RlS w a cap l g1 t W4.heap.size u w') (by
          rintro e w' ⟨rfl, b⟩
          exact ⟨rfl, rlS (h.2.2.below b)⟩))
      rw [he]
      have hst : ((strB l).toList == (strB l).toList) = true := str_eq rfl
      clear hq hl hr htm he
      go_wp2_with fail
      generalize W4.alloc (.cells (stC u) 37) = W6 at *
      generalize W4.heap.size = g at *
      refine CE.out.mono ?_
      rintro e W7 ⟨rfl, b7⟩
      have K7 := Lib.hid (K.out.below b7)
      clear la lb CE b7
      go_wp2_with fail
      have hd : Below W7.heap.size W7 W7.drew := ⟨rfl, rfl, rfl, Nat.le_refl _, fun _ _ => rfl⟩
      have S0 := Lib.hid (rlS (K7.out.below hd))
      obtain ⟨la0, ta0, _⟩ := rlS (K7.out.below hd)
      go_region_law (first
        | ((try go_simp); go_at_call 25; refine Calls.mono (CQ.out _ S9.out) ?_; rintro e w10 ⟨rfl, k10⟩)
        | ((try go_simp); go_at_call 21; refine Calls.mono (CC.out _ S0.out) ?_; rintro e w9 ⟨A5, p5, rfl, t5, k9⟩; have S9 := Lib.hid k9; obtain ⟨la9, ta9, _⟩ := k9))
      all_goals
        go_wp2_with fail
        go_ret
        exact ⟨rfl, k10.2.2.low⟩


set_option maxRecDepth 100000 in
set_option maxHeartbeats 1000000 in
theorem snapReads_lifted (os : Os) (started : os.Started) (H : Type) (enc : TypeId × Value → H) :
    ReturnsInHanded {} Tryz.checked os 7 .any (fun w args => (Rows.snapReadsSpec.pre enc Tryz.prog Tryz.f7 [] false w args ∧ laidMetH Tryz.prog Rows.snapReadsRow.laid w) ∧ sizedMet enc Tryz.prog Tryz.f7 (OpenSpec.ofChange Rows.snapReadsSpec) false w args)
      (Rows.snapReadsSpec.post enc Tryz.prog Tryz.f7 false true false false) := by
  refine returnsInHanded_of_change_and (C := Tryz.checked) (X := fun w _ => laidMetH Tryz.prog Rows.snapReadsRow.laid w) (fun _ _ _ hh h => h.of_heap hh) own started (by kernel_rfl) Tryz.func7
    (ChangeSpec.witness_shaped (enc := enc) (C := Tryz.checked) (os := os) (X := fun w _ => laidMetH Tryz.prog Rows.snapReadsRow.laid w) false (World.laidAll Tryz.prog os Rows.snapReadsRow.laid) #[.slice none 0 0] 8 (World.laidAll_os _ _ _)
      (World.shaped_of_ZipB (by kernel_rfl) (by kernel_rfl)) (by kernel_rfl) (by kernel_rfl) (by kernel_rfl)
      (by rw [MakeChecks.laidMetH_plain _ _ _ (by kernel_rfl)]; exact laidMet_laidAll _ (by kernel_rfl) (by kernel_rfl))) ?_
  intro W base args ds gs before hval0 hW _ _ hL _
  have hval : ∀ (j : Nat) t v, Tryz.f7.params[j]? = some t → args[j]? = some v → Value.okWide Tryz.prog W .any base t v := hval0
  have hW' := hW
  obtain ⟨p, q, hA0, hV, rfl, _, _⟩ := hW
  have hA : DataW.TrodAll enc Tryz.prog W 0 (fun _ => true) true Tryz.f7.params.toList args.toList ds p := hA0
  rw [Tryz.params7] at hA hval
  obtain ⟨v0, vs0, d0, ds0, p0, q_0, hargs, rfl, rfl, h0, r0⟩ := trodAll_cons hA
  obtain ⟨rfl, rfl, rfl⟩ := trodAll_nil r0
  obtain rfl : args = #[v0] := by cases args; simp_all
  obtain ⟨rfl, rfl⟩ := trodVars_none hV
  clear hA0 hval0
  simp only [List.append_nil] at hW'
  obtain ⟨q0, cap0, l0, rfl, hS0, hm0⟩ := bytes_of_trod (hval 0 40 v0 rfl rfl) h0
  have hlt0 : ∀ x ∈ p0, x.block < W.heap.size := fun x hx => by simpa using hW'.lt x (by simpa using (by simp [hx]))
  refine (reads_walk (snapAlive_of new_of state_of read_of command_of same_of) right_of state_of read_of refRead_any q0 cap0 l0 W (Lib.hid (kinds_of_laid hL)) hS0).mono fun e W' ⟨he, hb⟩ => ?_
  subst he
  have hT : DataW.TrodAll enc Tryz.prog W' 0 (fun b => decide (b < W.heap.size)) true _ _ _ _ := (trodAll_cons_mk (Below.trod laidOut (by kernel_rfl) (of_decide_eq_true (by kernel_rfl)) h0 hb hlt0) trodAll_mk0)
  simp only [List.append_nil] at hT
  exact ⟨_, rfl, _, _, _, [], p0, [], hW', trodAll_mk1 (shut_bool Tryz.underlying4 _), hT, rfl, hb.frame _, fun h => by cases h⟩

theorem snapReads_rowsaid : Rows.SnapReadsSaid :=
  OpenClaim.holds_of_wide 7 Tryz.f7 rfl rfl rfl rfl rfl rfl rfl ⟨rfl, rfl, rfl, rfl, rfl⟩ rfl rfl rfl rfl rfl (by kernel_rfl) Tryz.func7 (by kernel_rfl)
    (of_decide_eq_true (by kernel_rfl)) (by unfold Func.isWrapper; first | (rw [if_pos (by decide +kernel)]; kernel_rfl) | (rw [if_neg (by decide +kernel)]; exact ⟨rfl, rfl⟩))
    (fun os started H enc _ => snapReads_lifted os started H enc)

theorem snapReads_holds : Rows.SnapReadsCardSaid :=
  Claim7.holds_tied_plain_at .later [] [.data] true _ false snapReads_rowsaid (fun _ h => by cases h) (by kernel_rfl) (fun _ h => by cases h) snapReads_row_tie rfl ⟨rfl, rfl⟩ (by kernel_rfl) rfl
    (fun f fn hf hfn => by
      obtain rfl : f = 7 := Option.some.inj ((show Tryz.prog.funcNamed Rows.snapReadsRow.func = some 7 by kernel_rfl).symm.trans hf) |>.symm
      obtain rfl : fn = Tryz.f7 := (Option.some.inj (Tryz.func7.symm.trans hfn)).symm
      exact ⟨by kernel_rfl, fun j t ht => by
        rw [Tryz.params7] at ht
        have hm : t ∈ [40] := by simpa using Array.mem_of_getElem? ht
        have hall : ([40].all fun u => !Tryz.prog.wantsStandIn u) = true := by kernel_rfl
        exact (show Tryz.prog.wantsStandIn t = false by simpa using List.all_eq_true.1 hall t hm)⟩)
    (by kernel_rfl)
#print axioms snapReads_holds


end Go.Proofs.YtfmpibmhhfmajaaGreatDoor
