/- SnapTold: the law returns true for any bytes: the command that they are, or none, as the document tells it. The condition is its row's: the variable kinds lies as the program's text lays it. -/
import Derived.Test.YtfmpibmhhfmajaaGreatDoorMgBase
import Derived.Test.YtfmpibmhhfmajaaGreatDoorPLb
import Derived.Test.YtfmpibmhhfmajaaGreatDoorLbShelf
import Derived.Test.YtfmpibmhhfmajaaGreatDoorPSl
import Derived.Test.YtfmpibmhhfmajaaGreatDoorMgLines
import Derived.Test.YtfmpibmhhfmajaaGreatDoorMgOrders
import Derived.Test.YtfmpibmhhfmajaaGreatDoorMgBatches
import Derived.Test.YtfmpibmhhfmajaaGreatDoorMgEffects
import Derived.Test.YtfmpibmhhfmajaaGreatDoorPDy
import Derived.Test.YtfmpibmhhfmajaaGreatDoorDyShelf
import Derived.Test.YtfmpibmhhfmajaaGreatDoorMgState
import Derived.Test.YtfmpibmhhfmajaaGreatDoorMgStates
import Derived.Test.YtfmpibmhhfmajaaGreatDoorMgRight
import Derived.Test.YtfmpibmhhfmajaaGreatDoorMgProg
import Derived.Test.YtfmpibmhhfmajaaGreatDoorMgCopy
import Derived.Test.YtfmpibmhhfmajaaGreatDoorPSc
import Derived.Test.YtfmpibmhhfmajaaGreatDoorPOr
import Derived.Test.YtfmpibmhhfmajaaGreatDoorPBt
import Derived.Test.YtfmpibmhhfmajaaGreatDoorPOb
import Derived.Test.YtfmpibmhhfmajaaGreatDoorSnPlain
import Derived.Test.YtfmpibmhhfmajaaGreatDoorSnLay
import Derived.Test.YtfmpibmhhfmajaaGreatDoorSnPlain2
import Derived.Test.YtfmpibmhhfmajaaGreatDoorSnRef3
import Derived.Test.YtfmpibmhhfmajaaGreatDoorSnRef4
import Derived.Test.YtfmpibmhhfmajaaGreatDoorSnKinds
import Derived.Test.YtfmpibmhhfmajaaGreatDoorSnLines
import Derived.Test.YtfmpibmhhfmajaaGreatDoorSnTold
import Derived.Test.YtfmpibmhhfmajaaGreatDoorSnRight
import Derived.Test.YtfmpibmhhfmajaaGreatDoorSnCon
import Derived.Test.YtfmpibmhhfmajaaGreatDoorSnRow
import Derived.Test.YtfmpibmhhfmajaaGreatDoorSnOwn
import Derived.Test.YtfmpibmhhfmajaaGreatDoorSnRead0
import Derived.Test.YtfmpibmhhfmajaaGreatDoorSnReadP
import Derived.Test.YtfmpibmhhfmajaaGreatDoorSnReadP2
import Derived.Test.YtfmpibmhhfmajaaGreatDoorSnReadP3
import Derived.Test.YtfmpibmhhfmajaaGreatDoorSnReadD
import Derived.Test.YtfmpibmhhfmajaaGreatDoorSnCmd
import Derived.Test.YtfmpibmhhfmajaaGreatDoorSnState
import Derived.Test.YtfmpibmhhfmajaaGreatDoorSnAlive
import Derived.Test.YtfmpibmhhfmajaaGreatDoorRSnapToldA
import Derived.Test.YtfmpibmhhfmajaaGreatDoorRSnapToldB
import Derived.Test.YtfmpibmhhfmajaaGreatDoorRSnapToldC
import Derived.Test.YtfmpibmhhfmajaaGreatDoorRows
import Derived.Test.YtfmpibmhhfmajaaGreatDoorCards
import Derived.Test.YtfmpibmhhfmajaaGreatDoorTie
import Derived.ProofKit
import Derived.Lay
import Derived.LaidOnce
import Derived.SevenTiedAt
import Derived.MakeChecks
namespace Go.Proofs.YtfmpibmhhfmajaaGreatDoor
open Go.ChangeShapes Go.WideShapes Go.ChangeAt Go.RowKit

set_option maxRecDepth 100000
attribute [local go_sem ↓] ldCm stCm alCm bxCm bdCm
attribute [local go_sem] al_cm bx_cm st_cmnew bd_cm bd_cmKind

/-- Two commands that were told, in their variables; the bytes. -/
structure TlI (w : World) (a : Option Addr) (cap : Nat) (l : List Nat) (g1 : Nat) (t : CmR) (g2 : Nat) (u : CmR) (W : World) : Prop where
  v1 : Row W g1 26 (cmC t)
  v2 : Row W g2 26 (cmC u)
  p1 : CmP W t
  p2 : CmP W u
  by' : BytesP W a cap l
  low : Below w.heap.size w W
theorem TlI.below {w W W' : World} {a : Option Addr} {cap : Nat} {l : List Nat} {g1 : Nat} {t : CmR} {g2 : Nat} {u : CmR} (h : TlI w a cap l g1 t g2 u W) (b : Below W.heap.size W W') : TlI w a cap l g1 t g2 u W' := ⟨h.v1.below b, h.v2.below b, h.p1.below b, h.p2.below b, h.by'.below b, h.low.trans (b.mono h.low.size)⟩
def TlS (w : World) (a : Option Addr) (cap : Nat) (l : List Nat) (g1 : Nat) (t : CmR) (g2 : Nat) (u : CmR) (W : World) : Prop :=
  LdX 26 (.pointer (some ⟨g1, 0, none⟩)) W = .ok (.value (cmV t)) W ∧ LdX 26 (.pointer (some ⟨g2, 0, none⟩)) W = .ok (.value (cmV u)) W ∧ (convert 40 9 (.slice a l.length cap)).run Tryz.prog W = .ok (.string (strB l)) W ∧ TlI w a cap l g1 t g2 u W
theorem tlS {w W : World} {a : Option Addr} {cap : Nat} {l : List Nat} {g1 : Nat} {t : CmR} {g2 : Nat} {u : CmR} (h : TlI w a cap l g1 t g2 u W) : TlS w a cap l g1 t g2 u W := ⟨ld_cm h.v1, ld_cm h.v2, run_text h.by', h⟩

set_option maxHeartbeats 8000000 in
theorem told_walk (HA : AliveC) (HE : CmSameC) (HC : CommandC) (HT : ToldC) (a : Option Addr) (cap : Nat) (l : List Nat) (w : World) (HK : Hid (KdAt w)) (h : BytesP w a cap l) :
    Calls Tryz.prog 5 #[.slice a l.length cap] w (Tell true w) := by
  have H := Lib.hid h
  have hcap := h.cap
  have HBy := Lib.hid h.byte
  clear h
  go_enter Tryz.func5, Tryz.ntmps5
  go_wp2_with fail
  refine (HA _ HK.out).mono ?_
  rintro e W1 ⟨rfl, b1⟩
  have B1 := Lib.hid b1
  have H1 := Lib.hid (H.out.below b1)
  clear b1
  by_cases h1 : 1000 < l.length
  · have h1i : (1000 : Int) < (l.length : Int) := by omega
    go_wp2_with fail
    go_ret
    exact ⟨rfl, B1.out⟩
  · have h1i : ¬ (1000 : Int) < (l.length : Int) := by omega
    have C1 := Lib.hid (HT a cap l W1 (HK.out.below B1.out) H1.out (by omega))
    go_wp2_with fail
    refine C1.out.mono ?_
    rintro e W2 ⟨t, rfl, ht, hPt, b2⟩
    have HTm := Lib.hid ht
    have B2 := Lib.hid (B1.out.trans (b2.mono B1.out.size))
    have R2 := Lib.hid (Row.new W2 (cmC t) 26)
    have bb := (Below.refl W2.heap.size W2).alloc (Nat.le_refl _) (.cells (cmC t) 26)
    have P2 := Lib.hid (hPt.below bb)
    have H2 := Lib.hid ((H1.out.below b2).below bb)
    have B3 := Lib.hid (B2.out.trans (bb.mono B2.out.size))
    clear ht hPt b2 bb C1 H1 B1 B2
    go_wp2_with fail
    generalize W2.alloc (.cells (cmC t) 26) = W3 at *
    generalize W2.heap.size = g1 at *
    refine (refTold_any a cap l W3 H2.out).mono ?_
    rintro e W4 ⟨u, rfl, hu, hPu, b4⟩
    have HUm := Lib.hid hu
    have K : Hid (TlI w a cap l g1 t W4.heap.size u (W4.alloc (.cells (cmC u) 26))) := Lib.hid (by
      have bb := (Below.refl W4.heap.size W4).alloc (Nat.le_refl _) (.cells (cmC u) 26)
      have B5 := B3.out.trans (b4.mono B3.out.size)
      exact ⟨(R2.out.below b4).below bb, Row.new _ _ _, (P2.out.below b4).below bb, hPu.below bb, (H2.out.below b4).below bb, B5.trans (bb.mono B5.size)⟩)
    clear hu hPu b4 R2 P2 H2 B3
    have CE := Lib.hid (fun W (h : TlS w a cap l g1 t W4.heap.size u W) =>
      (show Calls Tryz.prog 15 #[cmV t, cmV u] W (Tell true W) by have := HE t u W h.2.2.2.p1 h.2.2.2.p2; rwa [HTm.out, HUm.out, sameCm_self] at this).mono (R' := fun e w' => e = .returned (.bool true) ∧ TlS w a cap l g1 t W4.heap.size u w') (by
        rintro e w' ⟨rfl, b⟩
        exact ⟨rfl, tlS (h.2.2.2.below b)⟩))
    cases hq : toldO 1000000000000 l with
    | none =>
      have he : toldE l = 161 := by unfold toldE; rw [hq]; rfl
      rw [he]
      clear hq
      go_wp2_with fail
      generalize W4.alloc (.cells (cmC u) 26) = W6 at *
      generalize W4.heap.size = g at *
      have f1 : ∀ p : Far W6, LdX 26 (.pointer (some ⟨g1, 0, none⟩)) (farOf W6 p) = .ok (.value (cmV t)) (farOf W6 p) := fun p => ld_cm (K.out.below (far_below W6 p)).v1
      have f2 : ∀ p : Far W6, LdX 26 (.pointer (some ⟨g, 0, none⟩)) (farOf W6 p) = .ok (.value (cmV u)) (farOf W6 p) := fun p => ld_cm (K.out.below (far_below W6 p)).v2
      have C8 := Lib.hid (fun p : Far W6 => show Calls Tryz.prog 15 #[cmV t, cmV u] (farOf W6 p) (Tell true (farOf W6 p)) from by have := HE t u _ (K.out.below (far_below W6 p)).p1 (K.out.below (far_below W6 p)).p2; rwa [HTm.out, HUm.out, sameCm_self] at this)
      refine wp_region_far (by kernel_rfl) (by kernel_rfl) ?_
      repeat (first | go_big_quiet_step ((go_at_call 15; exact calls_far (C8.out _))) | quiet_step ((go_at_call 15; exact calls_far (C8.out _))))
      refine wpQuiet_nil ?_
      intro _ hw'
      obtain ⟨p, hw''⟩ := hw'
      subst hw''
      have K9 := K.out.below (far_below W6 p)
      clear f1 f2 C8
      go_wp2_with fail
      go_ret
      exact ⟨rfl, K9.low⟩
    | some m =>
      have he : toldE l = 0 := by unfold toldE; rw [hq]; rfl
      obtain ⟨hl, hr⟩ := toldO_back HBy.out hq
      have htm : t.m = m := by rw [HTm.out]; unfold toldV; rw [hq]; rfl
      have CC := Lib.hid (fun W (h : TlS w a cap l g1 t W4.heap.size u W) =>
        (HC t W (HK.out.below h.2.2.2.low) h.2.2.2.p1 (by rw [htm]; exact hr)).mono (R' := fun e w' => ∃ A5 p5, e = .returned (.slice A5 l.length p5) ∧ (convert 40 9 (.slice A5 l.length p5)).run Tryz.prog w' = .ok (.string (strB l)) w' ∧ TlS w a cap l g1 t W4.heap.size u w') (by
          rintro e w' ⟨v, rfl, o, b⟩
          rw [htm, ← hl] at o
          obtain ⟨A5, p5, rfl, h5⟩ := o.bytes HBy.out
          exact ⟨A5, p5, rfl, run_text h5, tlS (h.2.2.2.below b)⟩))
      rw [he]
      have hst : ((strB l).toList == (strB l).toList) = true := str_eq rfl
      clear hq hl hr htm he
      go_wp2_with fail
      generalize W4.alloc (.cells (cmC u) 26) = W6 at *
      generalize W4.heap.size = g at *
      have hd : Below W6.heap.size W6 W6.drew := ⟨rfl, rfl, rfl, Nat.le_refl _, fun _ _ => rfl⟩
      have S0 := Lib.hid (tlS (K.out.below hd))
      obtain ⟨la0, lb0, ta0, _⟩ := tlS (K.out.below hd)
      go_region_law (first
        | ((try go_simp); go_at_call 17; refine Calls.mono (CC.out _ S8.out) ?_; rintro e w9 ⟨A5, p5, rfl, t5, k9⟩; obtain ⟨la9, lb9, ta9, K9⟩ := k9)
        | ((try go_simp); go_at_call 15; refine Calls.mono (CE.out _ S0.out) ?_; rintro e w8 ⟨rfl, k8⟩; have S8 := Lib.hid k8; obtain ⟨la8, lb8, ta8, _⟩ := k8))
      all_goals
        go_wp2_with fail
        go_ret
        exact ⟨rfl, K9.low⟩


set_option maxRecDepth 100000 in
set_option maxHeartbeats 1000000 in
theorem snapTold_lifted (os : Os) (started : os.Started) (H : Type) (enc : TypeId × Value → H) :
    ReturnsInHanded {} Tryz.checked os 5 .any (fun w args => (Rows.snapToldSpec.pre enc Tryz.prog Tryz.f5 [] false w args ∧ laidMetH Tryz.prog Rows.snapToldRow.laid w) ∧ sizedMet enc Tryz.prog Tryz.f5 (OpenSpec.ofChange Rows.snapToldSpec) false w args)
      (Rows.snapToldSpec.post enc Tryz.prog Tryz.f5 false true false false) := by
  refine returnsInHanded_of_change_and (C := Tryz.checked) (X := fun w _ => laidMetH Tryz.prog Rows.snapToldRow.laid w) (fun _ _ _ hh h => h.of_heap hh) own started (by kernel_rfl) Tryz.func5
    (ChangeSpec.witness_shaped (enc := enc) (C := Tryz.checked) (os := os) (X := fun w _ => laidMetH Tryz.prog Rows.snapToldRow.laid w) false (World.laidAll Tryz.prog os Rows.snapToldRow.laid) #[.slice none 0 0] 8 (World.laidAll_os _ _ _)
      (World.shaped_of_ZipB (by kernel_rfl) (by kernel_rfl)) (by kernel_rfl) (by kernel_rfl) (by kernel_rfl)
      (by rw [MakeChecks.laidMetH_plain _ _ _ (by kernel_rfl)]; exact laidMet_laidAll _ (by kernel_rfl) (by kernel_rfl))) ?_
  intro W base args ds gs before hval0 hW _ _ hL _
  have hval : ∀ (j : Nat) t v, Tryz.f5.params[j]? = some t → args[j]? = some v → Value.okWide Tryz.prog W .any base t v := hval0
  have hW' := hW
  obtain ⟨p, q, hA0, hV, rfl, _, _⟩ := hW
  have hA : DataW.TrodAll enc Tryz.prog W 0 (fun _ => true) true Tryz.f5.params.toList args.toList ds p := hA0
  rw [Tryz.params5] at hA hval
  obtain ⟨v0, vs0, d0, ds0, p0, q_0, hargs, rfl, rfl, h0, r0⟩ := trodAll_cons hA
  obtain ⟨rfl, rfl, rfl⟩ := trodAll_nil r0
  obtain rfl : args = #[v0] := by cases args; simp_all
  obtain ⟨rfl, rfl⟩ := trodVars_none hV
  clear hA0 hval0
  simp only [List.append_nil] at hW'
  obtain ⟨q0, cap0, l0, rfl, hS0, hm0⟩ := bytes_of_trod (hval 0 40 v0 rfl rfl) h0
  have hlt0 : ∀ x ∈ p0, x.block < W.heap.size := fun x hx => by simpa using hW'.lt x (by simpa using (by simp [hx]))
  refine (told_walk (snapAlive_of new_of state_of read_of command_of same_of) cmSame0 command_of told_of q0 cap0 l0 W (Lib.hid (kinds_of_laid hL)) hS0).mono fun e W' ⟨he, hb⟩ => ?_
  subst he
  have hT : DataW.TrodAll enc Tryz.prog W' 0 (fun b => decide (b < W.heap.size)) true _ _ _ _ := (trodAll_cons_mk (Below.trod laidOut (by kernel_rfl) (of_decide_eq_true (by kernel_rfl)) h0 hb hlt0) trodAll_mk0)
  simp only [List.append_nil] at hT
  exact ⟨_, rfl, _, _, _, [], p0, [], hW', trodAll_mk1 (shut_bool Tryz.underlying4 _), hT, rfl, hb.frame _, fun h => by cases h⟩

theorem snapTold_rowsaid : Rows.SnapToldSaid :=
  OpenClaim.holds_of_wide 5 Tryz.f5 rfl rfl rfl rfl rfl rfl rfl ⟨rfl, rfl, rfl, rfl, rfl⟩ rfl rfl rfl rfl rfl (by kernel_rfl) Tryz.func5 (by kernel_rfl)
    (of_decide_eq_true (by kernel_rfl)) (by unfold Func.isWrapper; first | (rw [if_pos (by decide +kernel)]; kernel_rfl) | (rw [if_neg (by decide +kernel)]; exact ⟨rfl, rfl⟩))
    (fun os started H enc _ => snapTold_lifted os started H enc)

theorem snapTold_holds : Rows.SnapToldCardSaid :=
  Claim7.holds_tied_plain_at .later [] [.data] true _ false snapTold_rowsaid (fun _ h => by cases h) (by kernel_rfl) (fun _ h => by cases h) snapTold_row_tie rfl ⟨rfl, rfl⟩ (by kernel_rfl) rfl
    (fun f fn hf hfn => by
      obtain rfl : f = 5 := Option.some.inj ((show Tryz.prog.funcNamed Rows.snapToldRow.func = some 5 by kernel_rfl).symm.trans hf) |>.symm
      obtain rfl : fn = Tryz.f5 := (Option.some.inj (Tryz.func5.symm.trans hfn)).symm
      exact ⟨by kernel_rfl, fun j t ht => by
        rw [Tryz.params5] at ht
        have hm : t ∈ [40] := by simpa using Array.mem_of_getElem? ht
        have hall : ([40].all fun u => !Tryz.prog.wantsStandIn u) = true := by kernel_rfl
        exact (show Tryz.prog.wantsStandIn t = false by simpa using List.all_eq_true.1 hall t hm)⟩)
    (by kernel_rfl)
#print axioms snapTold_holds


end Go.Proofs.YtfmpibmhhfmajaaGreatDoor
