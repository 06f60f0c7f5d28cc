/- SnapCommands: the law returns true for any two commands: whether they can be, their bytes and what those tell, whether they are the same, as the document tells it. The condition is its row's: the variable kinds lies as the program's text lays it. -/
import Derived.Test.YtfmpibmhhfmajaaGreatDoorMgBase
import Derived.Test.YtfmpibmhhfmajaaGreatDoorPLb
import Derived.Test.YtfmpibmhhfmajaaGreatDoorLbShelf
import Derived.Test.YtfmpibmhhfmajaaGreatDoorPSl
import Derived.Test.YtfmpibmhhfmajaaGreatDoorMgLines
import Derived.Test.YtfmpibmhhfmajaaGreatDoorMgOrders
import Derived.Test.YtfmpibmhhfmajaaGreatDoorMgBatches
import Derived.Test.YtfmpibmhhfmajaaGreatDoorMgEffects
import Derived.Test.YtfmpibmhhfmajaaGreatDoorPDy
import Derived.Test.YtfmpibmhhfmajaaGreatDoorDyShelf
import Derived.Test.YtfmpibmhhfmajaaGreatDoorMgState
import Derived.Test.YtfmpibmhhfmajaaGreatDoorMgStates
import Derived.Test.YtfmpibmhhfmajaaGreatDoorMgRight
import Derived.Test.YtfmpibmhhfmajaaGreatDoorMgProg
import Derived.Test.YtfmpibmhhfmajaaGreatDoorMgCopy
import Derived.Test.YtfmpibmhhfmajaaGreatDoorPSc
import Derived.Test.YtfmpibmhhfmajaaGreatDoorPOr
import Derived.Test.YtfmpibmhhfmajaaGreatDoorPBt
import Derived.Test.YtfmpibmhhfmajaaGreatDoorPOb
import Derived.Test.YtfmpibmhhfmajaaGreatDoorSnPlain
import Derived.Test.YtfmpibmhhfmajaaGreatDoorSnLay
import Derived.Test.YtfmpibmhhfmajaaGreatDoorSnPlain2
import Derived.Test.YtfmpibmhhfmajaaGreatDoorSnRef3
import Derived.Test.YtfmpibmhhfmajaaGreatDoorSnRef4
import Derived.Test.YtfmpibmhhfmajaaGreatDoorSnKinds
import Derived.Test.YtfmpibmhhfmajaaGreatDoorSnLines
import Derived.Test.YtfmpibmhhfmajaaGreatDoorSnTold
import Derived.Test.YtfmpibmhhfmajaaGreatDoorSnRight
import Derived.Test.YtfmpibmhhfmajaaGreatDoorSnCon
import Derived.Test.YtfmpibmhhfmajaaGreatDoorSnRow
import Derived.Test.YtfmpibmhhfmajaaGreatDoorSnOwn
import Derived.Test.YtfmpibmhhfmajaaGreatDoorSnRead0
import Derived.Test.YtfmpibmhhfmajaaGreatDoorSnReadP
import Derived.Test.YtfmpibmhhfmajaaGreatDoorSnReadP2
import Derived.Test.YtfmpibmhhfmajaaGreatDoorSnReadP3
import Derived.Test.YtfmpibmhhfmajaaGreatDoorSnReadD
import Derived.Test.YtfmpibmhhfmajaaGreatDoorSnCmd
import Derived.Test.YtfmpibmhhfmajaaGreatDoorSnState
import Derived.Test.YtfmpibmhhfmajaaGreatDoorSnAlive
import Derived.Test.YtfmpibmhhfmajaaGreatDoorRSnapCommandsA
import Derived.Test.YtfmpibmhhfmajaaGreatDoorRSnapCommandsB
import Derived.Test.YtfmpibmhhfmajaaGreatDoorRows
import Derived.Test.YtfmpibmhhfmajaaGreatDoorCards
import Derived.Test.YtfmpibmhhfmajaaGreatDoorTie
import Derived.ProofKit
import Derived.Lay
import Derived.LaidOnce
import Derived.SevenTiedAt
import Derived.MakeChecks
namespace Go.Proofs.YtfmpibmhhfmajaaGreatDoor
open Go.ChangeShapes Go.WideShapes Go.ChangeAt Go.RowKit

set_option maxRecDepth 100000
attribute [local go_sem ↓] ldCm stCm alCm bxCm bdCm
attribute [local go_sem] al_cm bx_cm st_cmnew bd_cm bd_cmKind

/-- Two commands, a third in its variable, bytes. -/
structure CoI (w : World) (r s : CmR) (g : Nat) (t : CmR) (A : Option Addr) (p : Nat) (l : List Nat) (W : World) : Prop where
  tw : TwCm w r s W
  var : Row W g 26 (cmC t)
  tp : CmP W t
  by' : BytesP W A p l
theorem CoI.below {w W W' : World} {r s : CmR} {g : Nat} {t : CmR} {A : Option Addr} {p : Nat} {l : List Nat} (h : CoI w r s g t A p l W) (b : Below W.heap.size W W') : CoI w r s g t A p l W' := ⟨h.tw.below b, h.var.below b, h.tp.below b, h.by'.below b⟩
theorem coS {w W : World} {r s : CmR} {g : Nat} {t : CmR} {A : Option Addr} {p : Nat} {l : List Nat} (h : CoI w r s g t A p l W) :
    LdX 26 (.pointer (some ⟨w.heap.size, 0, none⟩)) W = .ok (.value (cmV r)) W ∧ LdX 26 (.pointer (some ⟨g, 0, none⟩)) W = .ok (.value (cmV t)) W ∧ (convert 40 9 (.slice A l.length p)).run Tryz.prog W = .ok (.string (strB l)) W ∧ CoI w r s g t A p l W :=
  ⟨ld_cm h.tw.one, ld_cm h.var, run_text h.by', h⟩

set_option maxHeartbeats 8000000 in
theorem commands_walk (HA : AliveC) (HR : CmRightC) (HE : CmSameC) (HC : CommandC) (HT : ToldC) (r s : CmR) (w : World) (HK : Hid (KdAt w)) (h : CmP w r) (hs : CmP w s) :
    Calls Tryz.prog 4 #[cmV r, cmV s] w (Tell true w) := by
  have I := Lib.hid (TwCm.begin w r s h hs)
  clear h hs
  go_enter Tryz.func4, Tryz.ntmps4
  go_wp2_with fail
  generalize (w.alloc (.cells (cmC r) 26)).alloc (.cells (cmC s) 26) = W0 at *
  refine (HA _ (HK.out.below I.out.low)).mono ?_
  rintro e W1 ⟨rfl, b1⟩
  replace I := Lib.hid (I.out.below b1)
  clear b1
  have c2 := I.out.one.m.1.2.2.1
  have d2 := I.out.two.m.1.2.2.1
  by_cases h1 : 20 < r.m.ls.length
  · have h1i : (20 : Int) < (r.m.ls.length : Int) := by omega
    go_wp2_with fail
    go_ret
    exact ⟨rfl, I.out.low⟩
  · have h1i : ¬ (20 : Int) < (r.m.ls.length : Int) := by omega
    by_cases h2 : 20 < s.m.ls.length
    · have h2i : (20 : Int) < (s.m.ls.length : Int) := by omega
      go_wp2_with fail
      go_ret
      exact ⟨rfl, I.out.low⟩
    · have h2i : ¬ (20 : Int) < (s.m.ls.length : Int) := by omega
      go_wp2_with fail
      have f1 : ∀ p : Far W1, LdX 26 (.pointer (some ⟨w.heap.size, 0, none⟩)) (farOf W1 p) = .ok (.value (cmV r)) (farOf W1 p) := fun p => ld_cm (I.out.below (far_below W1 p)).one
      have f2 : ∀ p : Far W1, LdX 26 (.pointer (some ⟨w.heap.size + 1, 0, none⟩)) (farOf W1 p) = .ok (.value (cmV s)) (farOf W1 p) := fun p => ld_cm (I.out.below (far_below W1 p)).two
      obtain ⟨q1, hq1⟩ : ∃ q, rightC r.m = q := ⟨_, rfl⟩
      obtain ⟨q2, hq2⟩ : ∃ q, sameCm r.m s.m = q := ⟨_, rfl⟩
      have C1 := Lib.hid (fun p : Far W1 => HR r _ (HK.out.below (I.out.below (far_below W1 p)).low) (I.out.below (far_below W1 p)).st)
      have C2 := Lib.hid (fun p : Far W1 => refCmRight_any r _ (I.out.below (far_below W1 p)).st)
      have C3 := Lib.hid (fun p : Far W1 => HE r s _ (I.out.below (far_below W1 p)).st (I.out.below (far_below W1 p)).su)
      have C4 := Lib.hid (fun p : Far W1 => refCmSame_any r s _ (I.out.below (far_below W1 p)).st (I.out.below (far_below W1 p)).su)
      rw [hq1] at C1 C2
      rw [hq2] at C3 C4
      have HQ := Lib.hid hq1
      have e1 : (q1 != q1) = false := by cases q1 <;> rfl
      have e2 : (q2 != q2) = false := by cases q2 <;> rfl
      clear hq1 hq2 c2 d2 h1 h2 h1i h2i
      refine wp_region_far (by kernel_rfl) (by kernel_rfl) ?_
      repeat (first | go_big_quiet_step (first | (go_at_call 13; exact calls_far (C1.out _)) | (go_at_call 14; exact calls_far (C2.out _)) | (go_at_call 15; exact calls_far (C3.out _)) | (go_at_call 16; exact calls_far (C4.out _))) | quiet_step (first | (go_at_call 13; exact calls_far (C1.out _)) | (go_at_call 14; exact calls_far (C2.out _)) | (go_at_call 15; exact calls_far (C3.out _)) | (go_at_call 16; exact calls_far (C4.out _))))
      refine wpQuiet_nil ?_
      intro _ hw'
      obtain ⟨p, hw''⟩ := hw'
      subst hw''
      replace I := Lib.hid (I.out.below (far_below W1 p))
      clear f1 f2 C1 C2 C3 C4
      generalize farOf W1 p = W2 at *
      have la := ld_cm I.out.one
      have C5 := Lib.hid (refCmRight_any r W2 I.out.st)
      rw [HQ.out] at C5
      go_wp2_with fail
      refine C5.out.mono ?_
      rintro e W3 ⟨rfl, b3⟩
      replace I := Lib.hid (I.out.below b3)
      clear la C5 b3
      cases q1 with
      | false =>
        go_wp2_with fail
        go_ret
        exact ⟨rfl, I.out.low⟩
      | true =>
        have la := ld_cm I.out.one
        have C6 := Lib.hid (HC r W3 (HK.out.below I.out.low) I.out.st HQ.out)
        go_wp2_with fail
        refine C6.out.mono ?_
        rintro e W4 ⟨v4, rfl, o4, b4⟩
        obtain ⟨A, p4, rfl, h4⟩ := o4.bytes (commandL_bytes r.m)
        replace I := Lib.hid (I.out.below b4)
        have H4 := Lib.hid h4
        have C7 := Lib.hid (HT A p4 (commandL r.m) W4 (HK.out.below I.out.low) h4 (Nat.le_trans (commandL_len HQ.out) (by decide)))
        clear la C6 o4 b4 h4
        go_wp2_with fail
        refine C7.out.mono ?_
        rintro e W5 ⟨t, rfl, ht, hPt, b5⟩
        rw [(told_command HQ.out).2]
        have HTm := Lib.hid (ht.trans (told_command HQ.out).1)
        have K : Hid (CoI w r s W5.heap.size t A p4 (commandL r.m) (W5.alloc (.cells (cmC t) 26))) := Lib.hid (by
          have b := (Below.refl W5.heap.size W5).alloc (Nat.le_refl _) (.cells (cmC t) 26)
          exact ⟨(I.out.below b5).below b, Row.new _ _ _, hPt.below b, (H4.out.below b5).below b⟩)
        clear ht hPt b5 C7 I H4
        have HL := Lib.hid (rfl : commandL r.m = commandL r.m)
        go_wp2_with fail
        generalize W5.alloc (.cells (cmC t) 26) = W6 at *
        generalize W5.heap.size = g at *
        obtain ⟨l, hl⟩ : ∃ l, commandL r.m = l := ⟨_, rfl⟩
        have CD := Lib.hid (fun W (h : LdX 26 (.pointer (some ⟨w.heap.size, 0, none⟩)) W = .ok (.value (cmV r)) W ∧ LdX 26 (.pointer (some ⟨g, 0, none⟩)) W = .ok (.value (cmV t)) W ∧ (convert 40 9 (.slice A l.length p4)).run Tryz.prog W = .ok (.string (strB l)) W ∧ CoI w r s g t A p4 l W) =>
          (refCommand_any r W h.2.2.2.tw.st HQ.out).mono (R' := fun e w' => ∃ A5 p5, e = .returned (.slice A5 l.length p5) ∧ (convert 40 9 (.slice A5 l.length p5)).run Tryz.prog w' = .ok (.string (strB l)) w' ∧ (LdX 26 (.pointer (some ⟨w.heap.size, 0, none⟩)) w' = .ok (.value (cmV r)) w' ∧ LdX 26 (.pointer (some ⟨g, 0, none⟩)) w' = .ok (.value (cmV t)) w' ∧ (convert 40 9 (.slice A l.length p4)).run Tryz.prog w' = .ok (.string (strB l)) w' ∧ CoI w r s g t A p4 l w')) (by
            rintro e w' ⟨v, rfl, o, b⟩
            obtain ⟨A5, p5, rfl, h5⟩ := o.bytes (commandL_bytes r.m)
            rw [hl] at h5
            exact ⟨A5, p5, by rw [← hl], run_text h5, coS (h.2.2.2.below b)⟩))
        have CE := Lib.hid (fun W (h : LdX 26 (.pointer (some ⟨w.heap.size, 0, none⟩)) W = .ok (.value (cmV r)) W ∧ LdX 26 (.pointer (some ⟨g, 0, none⟩)) W = .ok (.value (cmV t)) W ∧ (convert 40 9 (.slice A l.length p4)).run Tryz.prog W = .ok (.string (strB l)) W ∧ CoI w r s g t A p4 l W) =>
          (show Calls Tryz.prog 15 #[cmV r, cmV t] W (Tell true W) by have := HE r t W h.2.2.2.tw.st h.2.2.2.tp; rwa [HTm.out, sameCm_self] at this).mono (R' := fun e w' => e = .returned (.bool true) ∧ (LdX 26 (.pointer (some ⟨w.heap.size, 0, none⟩)) w' = .ok (.value (cmV r)) w' ∧ LdX 26 (.pointer (some ⟨g, 0, none⟩)) w' = .ok (.value (cmV t)) w' ∧ (convert 40 9 (.slice A l.length p4)).run Tryz.prog w' = .ok (.string (strB l)) w' ∧ CoI w r s g t A p4 l w')) (by
            rintro e w' ⟨rfl, b⟩
            exact ⟨rfl, coS (h.2.2.2.below b)⟩))
        rw [hl] at K
        rw [hl]
        have hd : Below W6.heap.size W6 W6.drew := ⟨rfl, rfl, rfl, Nat.le_refl _, fun _ _ => rfl⟩
        have hst : ((strB l).toList == (strB l).toList) = true := str_eq rfl
        clear hl HL
        obtain ⟨la0, lb0, ta0, K0⟩ := coS (K.out.below hd)
        have K0 := Lib.hid K0
        have S0 := Lib.hid (coS K0.out)
        go_region_law (first
          | ((try go_simp); go_at_call 18; refine Calls.mono (CD.out _ S0.out) ?_; rintro e w7 ⟨A5, p5, rfl, t5, k5⟩; have S7 := Lib.hid k5; obtain ⟨la7, lb7, ta7, _⟩ := k5)
          | ((try go_simp); go_at_call 15; refine Calls.mono (CE.out _ S7.out) ?_; rintro e w8 ⟨rfl, k8⟩))
        all_goals
          go_wp2_with fail
          go_ret
          exact ⟨rfl, k8.2.2.2.tw.low⟩


set_option maxRecDepth 100000 in
set_option maxHeartbeats 1000000 in
theorem snapCommands_lifted (os : Os) (started : os.Started) (H : Type) (enc : TypeId × Value → H) :
    ReturnsInHanded {} Tryz.checked os 4 .any (fun w args => (Rows.snapCommandsSpec.pre enc Tryz.prog Tryz.f4 [] false w args ∧ laidMetH Tryz.prog Rows.snapCommandsRow.laid w) ∧ sizedMet enc Tryz.prog Tryz.f4 (OpenSpec.ofChange Rows.snapCommandsSpec) false w args)
      (Rows.snapCommandsSpec.post enc Tryz.prog Tryz.f4 false true false false) := by
  refine returnsInHanded_of_change_and (C := Tryz.checked) (X := fun w _ => laidMetH Tryz.prog Rows.snapCommandsRow.laid w) (fun _ _ _ hh h => h.of_heap hh) own started (by kernel_rfl) Tryz.func4
    (ChangeSpec.witness_shaped (enc := enc) (C := Tryz.checked) (os := os) (X := fun w _ => laidMetH Tryz.prog Rows.snapCommandsRow.laid w) false (World.laidAll Tryz.prog os Rows.snapCommandsRow.laid) #[.agg #[.int .i64 0, .string ⟨#[]⟩, .slice none 0 0, .string ⟨#[]⟩, .string ⟨#[]⟩, .string ⟨#[]⟩, .int .i64 0, .int .i64 0, .bool false], .agg #[.int .i64 0, .string ⟨#[]⟩, .slice none 0 0, .string ⟨#[]⟩, .string ⟨#[]⟩, .string ⟨#[]⟩, .int .i64 0, .int .i64 0, .bool false]] 8 (World.laidAll_os _ _ _)
      (World.shaped_of_ZipB (by kernel_rfl) (by kernel_rfl)) (by kernel_rfl) (by kernel_rfl) (by kernel_rfl)
      (by rw [MakeChecks.laidMetH_plain _ _ _ (by kernel_rfl)]; exact laidMet_laidAll _ (by kernel_rfl) (by kernel_rfl))) ?_
  intro W base args ds gs before hval0 hW _ _ hL _
  have hval : ∀ (j : Nat) t v, Tryz.f4.params[j]? = some t → args[j]? = some v → Value.okWide Tryz.prog W .any base t v := hval0
  have hW' := hW
  obtain ⟨p, q, hA0, hV, rfl, _, _⟩ := hW
  have hA : DataW.TrodAll enc Tryz.prog W 0 (fun _ => true) true Tryz.f4.params.toList args.toList ds p := hA0
  rw [Tryz.params4] at hA hval
  obtain ⟨v0, vs0, d0, ds0, p0, q_0, hargs, rfl, rfl, h0, r0⟩ := trodAll_cons hA
  obtain ⟨v1, vs1, d1, ds1, p1, q_1, rfl, rfl, rfl, h1, r1⟩ := trodAll_cons r0
  obtain ⟨rfl, rfl, rfl⟩ := trodAll_nil r1
  obtain rfl : args = #[v0, v1] := by cases args; simp_all
  obtain ⟨rfl, rfl⟩ := trodVars_none hV
  clear hA0 hval0
  simp only [List.append_nil] at hW'
  obtain ⟨m0, rfl, hS0⟩ := command_of_trod (hval 0 26 v0 rfl rfl) h0
  have hlt0 : ∀ x ∈ p0, x.block < W.heap.size := fun x hx => by simpa using hW'.lt x (by simpa using (by simp [hx]))
  obtain ⟨m1, rfl, hS1⟩ := command_of_trod (hval 1 26 v1 rfl rfl) h1
  have hlt1 : ∀ x ∈ p1, x.block < W.heap.size := fun x hx => by simpa using hW'.lt x (by simpa using (by simp [hx]))
  refine (commands_walk (snapAlive_of new_of state_of read_of command_of same_of) cmRight0 cmSame0 command_of told_of m0 m1 W (Lib.hid (kinds_of_laid hL)) hS0 hS1).mono fun e W' ⟨he, hb⟩ => ?_
  subst he
  have hT : DataW.TrodAll enc Tryz.prog W' 0 (fun b => decide (b < W.heap.size)) true _ _ _ _ := (trodAll_cons_mk (Below.trod laidOut (by kernel_rfl) (of_decide_eq_true (by kernel_rfl)) h0 hb hlt0) (trodAll_cons_mk (Below.trod laidOut (by kernel_rfl) (of_decide_eq_true (by kernel_rfl)) h1 hb hlt1) trodAll_mk0))
  simp only [List.append_nil] at hT
  exact ⟨_, rfl, _, _, _, [], p0 ++ (p1), [], hW', trodAll_mk1 (shut_bool Tryz.underlying4 _), hT, rfl, hb.frame _, fun h => by cases h⟩

theorem snapCommands_rowsaid : Rows.SnapCommandsSaid :=
  OpenClaim.holds_of_wide 4 Tryz.f4 rfl rfl rfl rfl rfl rfl rfl ⟨rfl, rfl, rfl, rfl, rfl⟩ rfl rfl rfl rfl rfl (by kernel_rfl) Tryz.func4 (by kernel_rfl)
    (of_decide_eq_true (by kernel_rfl)) (by unfold Func.isWrapper; first | (rw [if_pos (by decide +kernel)]; kernel_rfl) | (rw [if_neg (by decide +kernel)]; exact ⟨rfl, rfl⟩))
    (fun os started H enc _ => snapCommands_lifted os started H enc)

theorem snapCommands_holds : Rows.SnapCommandsCardSaid :=
  Claim7.holds_tied_plain_at .later [] [.data] true _ false snapCommands_rowsaid (fun _ h => by cases h) (by kernel_rfl) (fun _ h => by cases h) snapCommands_row_tie rfl ⟨rfl, rfl⟩ (by kernel_rfl) rfl
    (fun f fn hf hfn => by
      obtain rfl : f = 4 := Option.some.inj ((show Tryz.prog.funcNamed Rows.snapCommandsRow.func = some 4 by kernel_rfl).symm.trans hf) |>.symm
      obtain rfl : fn = Tryz.f4 := (Option.some.inj (Tryz.func4.symm.trans hfn)).symm
      exact ⟨by kernel_rfl, fun j t ht => by
        rw [Tryz.params4] at ht
        have hm : t ∈ [26, 26] := by simpa using Array.mem_of_getElem? ht
        have hall : ([26, 26].all fun u => !Tryz.prog.wantsStandIn u) = true := by kernel_rfl
        exact (show Tryz.prog.wantsStandIn t = false by simpa using List.all_eq_true.1 hall t hm)⟩)
    (by kernel_rfl)
#print axioms snapCommands_holds


end Go.Proofs.YtfmpibmhhfmajaaGreatDoor
