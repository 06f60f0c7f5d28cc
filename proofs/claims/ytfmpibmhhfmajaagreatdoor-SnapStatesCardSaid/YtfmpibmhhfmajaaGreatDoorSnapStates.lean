/- SnapStates: the law returns true for any state: the bytes of one that hangs together, and the state of these bytes, as the document tells them. The condition is its row's: the variable kinds lies as the program's text lays it. -/
import Derived.Test.YtfmpibmhhfmajaaGreatDoorMgBase
import Derived.Test.YtfmpibmhhfmajaaGreatDoorPLb
import Derived.Test.YtfmpibmhhfmajaaGreatDoorLbShelf
import Derived.Test.YtfmpibmhhfmajaaGreatDoorPSl
import Derived.Test.YtfmpibmhhfmajaaGreatDoorMgLines
import Derived.Test.YtfmpibmhhfmajaaGreatDoorMgOrders
import Derived.Test.YtfmpibmhhfmajaaGreatDoorMgBatches
import Derived.Test.YtfmpibmhhfmajaaGreatDoorMgEffects
import Derived.Test.YtfmpibmhhfmajaaGreatDoorPDy
import Derived.Test.YtfmpibmhhfmajaaGreatDoorDyShelf
import Derived.Test.YtfmpibmhhfmajaaGreatDoorMgState
import Derived.Test.YtfmpibmhhfmajaaGreatDoorMgStates
import Derived.Test.YtfmpibmhhfmajaaGreatDoorMgRight
import Derived.Test.YtfmpibmhhfmajaaGreatDoorMgProg
import Derived.Test.YtfmpibmhhfmajaaGreatDoorMgCopy
import Derived.Test.YtfmpibmhhfmajaaGreatDoorPSc
import Derived.Test.YtfmpibmhhfmajaaGreatDoorPOr
import Derived.Test.YtfmpibmhhfmajaaGreatDoorPBt
import Derived.Test.YtfmpibmhhfmajaaGreatDoorPOb
import Derived.Test.YtfmpibmhhfmajaaGreatDoorSnPlain
import Derived.Test.YtfmpibmhhfmajaaGreatDoorSnLay
import Derived.Test.YtfmpibmhhfmajaaGreatDoorSnPlain2
import Derived.Test.YtfmpibmhhfmajaaGreatDoorSnRef3
import Derived.Test.YtfmpibmhhfmajaaGreatDoorSnRef4
import Derived.Test.YtfmpibmhhfmajaaGreatDoorSnKinds
import Derived.Test.YtfmpibmhhfmajaaGreatDoorSnLines
import Derived.Test.YtfmpibmhhfmajaaGreatDoorSnTold
import Derived.Test.YtfmpibmhhfmajaaGreatDoorSnRight
import Derived.Test.YtfmpibmhhfmajaaGreatDoorSnCon
import Derived.Test.YtfmpibmhhfmajaaGreatDoorSnRow
import Derived.Test.YtfmpibmhhfmajaaGreatDoorSnOwn
import Derived.Test.YtfmpibmhhfmajaaGreatDoorSnRead0
import Derived.Test.YtfmpibmhhfmajaaGreatDoorSnReadP
import Derived.Test.YtfmpibmhhfmajaaGreatDoorSnReadP2
import Derived.Test.YtfmpibmhhfmajaaGreatDoorSnReadP3
import Derived.Test.YtfmpibmhhfmajaaGreatDoorSnReadD
import Derived.Test.YtfmpibmhhfmajaaGreatDoorSnCmd
import Derived.Test.YtfmpibmhhfmajaaGreatDoorSnState
import Derived.Test.YtfmpibmhhfmajaaGreatDoorSnAlive
import Derived.Test.YtfmpibmhhfmajaaGreatDoorRSnapStatesA
import Derived.Test.YtfmpibmhhfmajaaGreatDoorRSnapStatesB
import Derived.Test.YtfmpibmhhfmajaaGreatDoorRSnapStatesC
import Derived.Test.YtfmpibmhhfmajaaGreatDoorRows
import Derived.Test.YtfmpibmhhfmajaaGreatDoorCards
import Derived.Test.YtfmpibmhhfmajaaGreatDoorTie
import Derived.ProofKit
import Derived.Lay
import Derived.LaidOnce
import Derived.SevenTiedAt
import Derived.MakeChecks
namespace Go.Proofs.YtfmpibmhhfmajaaGreatDoor
open Go.ChangeShapes Go.WideShapes Go.ChangeAt Go.RowKit

set_option maxRecDepth 100000
attribute [local go_sem ↓] ldSt stSt alSt bxSt bdSt
attribute [local go_sem] al_sta bx_sta st_stnew bd_sta

/-- A state, another in its variable, bytes. -/
structure CsI (w : World) (r : StR) (g : Nat) (t : StR) (A : Option Addr) (p : Nat) (l : List Nat) (W : World) : Prop where
  on : OnI w r W
  var : Row W g 37 (stC t)
  tp : StP W t
  by' : BytesP W A p l
theorem CsI.below {w W W' : World} {r : StR} {g : Nat} {t : StR} {A : Option Addr} {p : Nat} {l : List Nat} (h : CsI w r g t A p l W) (b : Below W.heap.size W W') : CsI w r g t A p l W' := ⟨h.on.below b, h.var.below b, h.tp.below b, h.by'.below b⟩
def CsS (w : World) (r : StR) (g : Nat) (t : StR) (A : Option Addr) (p : Nat) (l : List Nat) (W : World) : Prop :=
  LdX 37 (.pointer (some ⟨w.heap.size, 0, none⟩)) W = .ok (.value (stV r)) W ∧ LdX 37 (.pointer (some ⟨g, 0, none⟩)) W = .ok (.value (stV t)) W ∧ (convert 40 9 (.slice A l.length p)).run Tryz.prog W = .ok (.string (strB l)) W ∧ CsI w r g t A p l W
theorem csS {w W : World} {r : StR} {g : Nat} {t : StR} {A : Option Addr} {p : Nat} {l : List Nat} (h : CsI w r g t A p l W) : CsS w r g t A p l W := ⟨ld_sta h.on.one, ld_sta h.var, run_text h.by', h⟩

set_option maxHeartbeats 8000000 in
theorem states_walk (HA : AliveC) (HS : StateC) (HR : ReadC) (r : StR) (w : World) (HK : Hid (KdAt w)) (h : StP w r) :
    Calls Tryz.prog 6 #[stV r] w (Tell true w) := by
  have I := Lib.hid (OnI.begin w r h)
  clear h
  go_enter Tryz.func6, Tryz.ntmps6
  go_wp2_with fail
  generalize w.alloc (.cells (stC r) 37) = W0 at *
  refine (HA _ (HK.out.below I.out.low)).mono ?_
  rintro e W1 ⟨rfl, b1⟩
  replace I := Lib.hid (I.out.below b1)
  clear b1
  have c9 := I.out.one.st.2.2.2.2.1
  have c10 := I.out.one.st.2.2.2.2.2.1
  have c11 := I.out.one.st.2.2.2.2.2.2
  have la := ld_sta I.out.one
  by_cases h1 : 60 < r.ords.length
  · have h1i : (60 : Int) < (r.ords.length : Int) := by omega
    go_wp2_with fail
    go_ret
    exact ⟨rfl, I.out.low⟩
  · have h1i : ¬ (60 : Int) < (r.ords.length : Int) := by omega
    by_cases h2 : 40 < r.bats.length
    · have h2i : (40 : Int) < (r.bats.length : Int) := by omega
      go_wp2_with fail
      go_ret
      exact ⟨rfl, I.out.low⟩
    · have h2i : ¬ (40 : Int) < (r.bats.length : Int) := by omega
      by_cases h3 : 100 < r.effs.length
      · have h3i : (100 : Int) < (r.effs.length : Int) := by omega
        go_wp2_with fail
        go_ret
        exact ⟨rfl, I.out.low⟩
      · have h3i : ¬ (100 : Int) < (r.effs.length : Int) := by omega
        have C1 := Lib.hid (refRightS_any r W1 I.out.st ⟨by omega, by omega, by omega⟩)
        go_wp2_with fail
        refine C1.out.mono ?_
        rintro e W3 ⟨rfl, b3⟩
        replace I := Lib.hid (I.out.below b3)
        clear b3 C1 la c9 c10 c11
        cases hq : rightS r.st with
        | false =>
          go_wp2_with fail
          go_ret
          exact ⟨rfl, I.out.low⟩
        | true =>
          have hF : Hid (FitS r) := Lib.hid (fit_of hq (by omega) (by omega) (by omega))
          have HSt := Lib.hid (fun W hW => refState_any r W hW hq (by omega) (by omega) (by omega))
          have la := ld_sta I.out.one
          have C6 := Lib.hid (HS r W3 I.out.st hF.out)
          clear hq
          go_wp2_with fail
          refine C6.out.mono ?_
          rintro e W4 ⟨v4, rfl, o4, b4⟩
          obtain ⟨A, p4, rfl, h4⟩ := o4.bytes (stateL_bytes r.st)
          replace I := Lib.hid (I.out.below b4)
          have H4 := Lib.hid h4
          have C7 := Lib.hid (HR A p4 (stateL r.st) W4 h4 hF.out.2)
          clear la C6 o4 b4 h4
          go_wp2_with fail
          refine C7.out.mono ?_
          rintro e W5 ⟨t, rfl, ht, hPt, b5⟩
          rw [(fit_read hF.out).2]
          have HTm := Lib.hid (ht.trans (fit_read hF.out).1)
          have K : Hid (CsI w r W5.heap.size t A p4 (stateL r.st) (W5.alloc (.cells (stC t) 37))) := Lib.hid (by
            have b := (Below.refl W5.heap.size W5).alloc (Nat.le_refl _) (.cells (stC t) 37)
            exact ⟨(I.out.below b5).below b, Row.new _ _ _, hPt.below b, (H4.out.below b5).below b⟩)
          clear ht hPt b5 C7 I H4
          go_wp2_with fail
          generalize W5.alloc (.cells (stC t) 37) = W6 at *
          generalize W5.heap.size = g at *
          obtain ⟨l, hl⟩ : ∃ l, stateL r.st = l := ⟨_, rfl⟩
          have CD := Lib.hid (fun W (h : CsS w r g t A p4 l W) =>
            (HSt.out W h.2.2.2.on.st).mono (R' := fun e w' => ∃ A5 p5, e = .returned (.slice A5 l.length p5) ∧ (convert 40 9 (.slice A5 l.length p5)).run Tryz.prog w' = .ok (.string (strB l)) w' ∧ CsS w r g t A p4 l w') (by
              rintro e w' ⟨v, rfl, o, b⟩
              obtain ⟨A5, p5, rfl, h5⟩ := o.bytes (stateL_bytes r.st)
              rw [hl] at h5
              exact ⟨A5, p5, by rw [← hl], run_text h5, csS (h.2.2.2.below b)⟩))
          have CE := Lib.hid (fun W (h : CsS w r g t A p4 l W) =>
            (show Calls Tryz.prog 23 #[stV r, stV t] W (Tell true W) from by have := refSameS_any r t W h.2.2.2.on.st h.2.2.2.tp; rwa [(sameS_iff r t).2 HTm.out.symm] at this).mono (R' := fun e w' => e = .returned (.bool true) ∧ CsS w r g t A p4 l w') (by
              rintro e w' ⟨rfl, b⟩
              exact ⟨rfl, csS (h.2.2.2.below b)⟩))
          rw [hl] at K
          rw [hl]
          have hd : Below W6.heap.size W6 W6.drew := ⟨rfl, rfl, rfl, Nat.le_refl _, fun _ _ => rfl⟩
          have hst : ((strB l).toList == (strB l).toList) = true := str_eq rfl
          clear hl
          obtain ⟨la0, lb0, ta0, _⟩ := csS (K.out.below hd)
          have S0 := Lib.hid (csS (K.out.below hd))
          go_region_law (first
            | ((try go_simp); go_at_call 22; refine Calls.mono (CD.out _ S0.out) ?_; rintro e w7 ⟨A5, p5, rfl, t5, k5⟩; have S7 := Lib.hid k5; obtain ⟨la7, lb7, ta7, _⟩ := k5)
            | ((try go_simp); go_at_call 23; refine Calls.mono (CE.out _ S7.out) ?_; rintro e w8 ⟨rfl, k8⟩))
          all_goals
            go_wp2_with fail
            go_ret
            exact ⟨rfl, k8.2.2.2.on.low⟩


set_option maxRecDepth 100000 in
set_option maxHeartbeats 1000000 in
theorem snapStates_lifted (os : Os) (started : os.Started) (H : Type) (enc : TypeId × Value → H) :
    ReturnsInHanded {} Tryz.checked os 6 .any (fun w args => (Rows.snapStatesSpec.pre enc Tryz.prog Tryz.f6 [] false w args ∧ laidMetH Tryz.prog Rows.snapStatesRow.laid w) ∧ sizedMet enc Tryz.prog Tryz.f6 (OpenSpec.ofChange Rows.snapStatesSpec) false w args)
      (Rows.snapStatesSpec.post enc Tryz.prog Tryz.f6 false true false false) := by
  refine returnsInHanded_of_change_and (C := Tryz.checked) (X := fun w _ => laidMetH Tryz.prog Rows.snapStatesRow.laid w) (fun _ _ _ hh h => h.of_heap hh) own started (by kernel_rfl) Tryz.func6
    (ChangeSpec.witness_shaped (enc := enc) (C := Tryz.checked) (os := os) (X := fun w _ => laidMetH Tryz.prog Rows.snapStatesRow.laid w) false (World.laidAll Tryz.prog os Rows.snapStatesRow.laid) #[.agg #[.int .i64 0, .int .i64 0, .int .i64 0, .int .i64 0, .int .i64 0, .slice none 0 0, .int .i64 0, .int .i64 0, .int .i64 0, .slice none 0 0, .slice none 0 0, .slice none 0 0]] 8 (World.laidAll_os _ _ _)
      (World.shaped_of_ZipB (by kernel_rfl) (by kernel_rfl)) (by kernel_rfl) (by kernel_rfl) (by kernel_rfl)
      (by rw [MakeChecks.laidMetH_plain _ _ _ (by kernel_rfl)]; exact laidMet_laidAll _ (by kernel_rfl) (by kernel_rfl))) ?_
  intro W base args ds gs before hval0 hW _ _ hL _
  have hval : ∀ (j : Nat) t v, Tryz.f6.params[j]? = some t → args[j]? = some v → Value.okWide Tryz.prog W .any base t v := hval0
  have hW' := hW
  obtain ⟨p, q, hA0, hV, rfl, _, _⟩ := hW
  have hA : DataW.TrodAll enc Tryz.prog W 0 (fun _ => true) true Tryz.f6.params.toList args.toList ds p := hA0
  rw [Tryz.params6] at hA hval
  obtain ⟨v0, vs0, d0, ds0, p0, q_0, hargs, rfl, rfl, h0, r0⟩ := trodAll_cons hA
  obtain ⟨rfl, rfl, rfl⟩ := trodAll_nil r0
  obtain rfl : args = #[v0] := by cases args; simp_all
  obtain ⟨rfl, rfl⟩ := trodVars_none hV
  clear hA0 hval0
  simp only [List.append_nil] at hW'
  obtain ⟨st0, rfl, hS0, hw0⟩ := state_of_trod (hval 0 37 v0 rfl rfl) h0
  have hlt0 : ∀ x ∈ p0, x.block < W.heap.size := fun x hx => by simpa using hW'.lt x (by simpa using (by simp [hx]))
  refine (states_walk (snapAlive_of new_of state_of read_of command_of same_of) state_of read_of st0 W (Lib.hid (kinds_of_laid hL)) hS0).mono fun e W' ⟨he, hb⟩ => ?_
  subst he
  have hT : DataW.TrodAll enc Tryz.prog W' 0 (fun b => decide (b < W.heap.size)) true _ _ _ _ := (trodAll_cons_mk (Below.trod laidOut (by kernel_rfl) (of_decide_eq_true (by kernel_rfl)) h0 hb hlt0) trodAll_mk0)
  simp only [List.append_nil] at hT
  exact ⟨_, rfl, _, _, _, [], p0, [], hW', trodAll_mk1 (shut_bool Tryz.underlying4 _), hT, rfl, hb.frame _, fun h => by cases h⟩

theorem snapStates_rowsaid : Rows.SnapStatesSaid :=
  OpenClaim.holds_of_wide 6 Tryz.f6 rfl rfl rfl rfl rfl rfl rfl ⟨rfl, rfl, rfl, rfl, rfl⟩ rfl rfl rfl rfl rfl (by kernel_rfl) Tryz.func6 (by kernel_rfl)
    (of_decide_eq_true (by kernel_rfl)) (by unfold Func.isWrapper; first | (rw [if_pos (by decide +kernel)]; kernel_rfl) | (rw [if_neg (by decide +kernel)]; exact ⟨rfl, rfl⟩))
    (fun os started H enc _ => snapStates_lifted os started H enc)

theorem snapStates_holds : Rows.SnapStatesCardSaid :=
  Claim7.holds_tied_plain_at .later [] [.data] true _ false snapStates_rowsaid (fun _ h => by cases h) (by kernel_rfl) (fun _ h => by cases h) snapStates_row_tie rfl ⟨rfl, rfl⟩ (by kernel_rfl) rfl
    (fun f fn hf hfn => by
      obtain rfl : f = 6 := Option.some.inj ((show Tryz.prog.funcNamed Rows.snapStatesRow.func = some 6 by kernel_rfl).symm.trans hf) |>.symm
      obtain rfl : fn = Tryz.f6 := (Option.some.inj (Tryz.func6.symm.trans hfn)).symm
      exact ⟨by kernel_rfl, fun j t ht => by
        rw [Tryz.params6] at ht
        have hm : t ∈ [37] := by simpa using Array.mem_of_getElem? ht
        have hall : ([37].all fun u => !Tryz.prog.wantsStandIn u) = true := by kernel_rfl
        exact (show Tryz.prog.wantsStandIn t = false by simpa using List.all_eq_true.1 hall t hm)⟩)
    (by kernel_rfl)
#print axioms snapStates_holds


end Go.Proofs.YtfmpibmhhfmajaaGreatDoor
