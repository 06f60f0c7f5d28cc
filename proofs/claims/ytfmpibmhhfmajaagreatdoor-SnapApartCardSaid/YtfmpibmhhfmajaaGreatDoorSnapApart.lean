/- SnapApart: the law returns true for any two commands: the bytes of one are the beginning of the other's just where they are the same. The condition is its row's: the variable kinds lies as the program's text lays it. -/
import Derived.Test.YtfmpibmhhfmajaaGreatDoorMgBase
import Derived.Test.YtfmpibmhhfmajaaGreatDoorPLb
import Derived.Test.YtfmpibmhhfmajaaGreatDoorLbShelf
import Derived.Test.YtfmpibmhhfmajaaGreatDoorPSl
import Derived.Test.YtfmpibmhhfmajaaGreatDoorMgLines
import Derived.Test.YtfmpibmhhfmajaaGreatDoorMgOrders
import Derived.Test.YtfmpibmhhfmajaaGreatDoorMgBatches
import Derived.Test.YtfmpibmhhfmajaaGreatDoorMgEffects
import Derived.Test.YtfmpibmhhfmajaaGreatDoorPDy
import Derived.Test.YtfmpibmhhfmajaaGreatDoorDyShelf
import Derived.Test.YtfmpibmhhfmajaaGreatDoorMgState
import Derived.Test.YtfmpibmhhfmajaaGreatDoorMgStates
import Derived.Test.YtfmpibmhhfmajaaGreatDoorMgRight
import Derived.Test.YtfmpibmhhfmajaaGreatDoorMgProg
import Derived.Test.YtfmpibmhhfmajaaGreatDoorMgCopy
import Derived.Test.YtfmpibmhhfmajaaGreatDoorPSc
import Derived.Test.YtfmpibmhhfmajaaGreatDoorPOr
import Derived.Test.YtfmpibmhhfmajaaGreatDoorPBt
import Derived.Test.YtfmpibmhhfmajaaGreatDoorPOb
import Derived.Test.YtfmpibmhhfmajaaGreatDoorSnPlain
import Derived.Test.YtfmpibmhhfmajaaGreatDoorSnLay
import Derived.Test.YtfmpibmhhfmajaaGreatDoorSnPlain2
import Derived.Test.YtfmpibmhhfmajaaGreatDoorSnRef3
import Derived.Test.YtfmpibmhhfmajaaGreatDoorSnRef4
import Derived.Test.YtfmpibmhhfmajaaGreatDoorSnKinds
import Derived.Test.YtfmpibmhhfmajaaGreatDoorSnLines
import Derived.Test.YtfmpibmhhfmajaaGreatDoorSnTold
import Derived.Test.YtfmpibmhhfmajaaGreatDoorSnRight
import Derived.Test.YtfmpibmhhfmajaaGreatDoorSnCon
import Derived.Test.YtfmpibmhhfmajaaGreatDoorSnRow
import Derived.Test.YtfmpibmhhfmajaaGreatDoorSnOwn
import Derived.Test.YtfmpibmhhfmajaaGreatDoorSnRead0
import Derived.Test.YtfmpibmhhfmajaaGreatDoorSnReadP
import Derived.Test.YtfmpibmhhfmajaaGreatDoorSnReadP2
import Derived.Test.YtfmpibmhhfmajaaGreatDoorSnReadP3
import Derived.Test.YtfmpibmhhfmajaaGreatDoorSnReadD
import Derived.Test.YtfmpibmhhfmajaaGreatDoorSnCmd
import Derived.Test.YtfmpibmhhfmajaaGreatDoorSnState
import Derived.Test.YtfmpibmhhfmajaaGreatDoorSnAlive
import Derived.Test.YtfmpibmhhfmajaaGreatDoorRSnapApartA
import Derived.Test.YtfmpibmhhfmajaaGreatDoorRows
import Derived.Test.YtfmpibmhhfmajaaGreatDoorCards
import Derived.Test.YtfmpibmhhfmajaaGreatDoorTie
import Derived.ProofKit
import Derived.Lay
import Derived.LaidOnce
import Derived.SevenTiedAt
import Derived.MakeChecks
namespace Go.Proofs.YtfmpibmhhfmajaaGreatDoor
open Go.ChangeShapes Go.WideShapes Go.ChangeAt Go.RowKit

set_option maxRecDepth 100000
attribute [local go_sem ↓] ldCm stCm alCm bxCm bdCm
attribute [local go_sem] al_cm bx_cm st_cmnew bd_cm bd_cmKind

theorem strB_take {l : List Nat} (h : Bytes l) (n : Nat) : (strB l).extract 0 n = strB (l.take n) := by
  apply strL_inj
  rw [strL_strB (fun x hx => h x (List.mem_of_mem_take hx))]
  conv => rhs; rw [← strL_strB h]
  unfold strL
  rw [ByteArray.data_extract, Array.toList_extract]
  simp [List.extract_eq_take_drop, List.map_take]
set_option maxHeartbeats 8000000 in
theorem apart_walk (HA : AliveC) (HR : CmRightC) (HE : CmSameC) (HC : CommandC) (r s : CmR) (w : World) (HK : Hid (KdAt w)) (h : CmP w r) (hs : CmP w s) :
    Calls Tryz.prog 8 #[cmV r, cmV s] w (Tell true w) := by
  have I := Lib.hid (TwCm.begin w r s h hs)
  clear h hs
  go_enter Tryz.func8, Tryz.ntmps8
  go_wp2_with fail
  generalize (w.alloc (.cells (cmC r) 26)).alloc (.cells (cmC s) 26) = W0 at *
  refine (HA _ (HK.out.below I.out.low)).mono ?_
  rintro e W1 ⟨rfl, b1⟩
  replace I := Lib.hid (I.out.below b1)
  clear b1
  have c2 := I.out.one.m.1.2.2.1
  have d2 := I.out.two.m.1.2.2.1
  have la := ld_cm I.out.one
  have lb := ld_cm I.out.two
  by_cases h1 : 20 < r.m.ls.length
  · have h1i : (20 : Int) < (r.m.ls.length : Int) := by omega
    go_wp2_with fail
    go_ret
    exact ⟨rfl, I.out.low⟩
  · have h1i : ¬ (20 : Int) < (r.m.ls.length : Int) := by omega
    by_cases h2 : 20 < s.m.ls.length
    · have h2i : (20 : Int) < (s.m.ls.length : Int) := by omega
      go_wp2_with fail
      go_ret
      exact ⟨rfl, I.out.low⟩
    · have h2i : ¬ (20 : Int) < (s.m.ls.length : Int) := by omega
      have C1 := Lib.hid (HR r W1 (HK.out.below I.out.low) I.out.st)
      go_wp2_with fail
      refine C1.out.mono ?_
      rintro e W2 ⟨rfl, b2⟩
      replace I := Lib.hid (I.out.below b2)
      clear b2 C1 la lb c2 d2
      have la := ld_cm I.out.one
      have lb := ld_cm I.out.two
      cases hx : rightC r.m with
      | false =>
        go_wp2_with fail
        go_ret
        exact ⟨rfl, I.out.low⟩
      | true =>
        have C2 := Lib.hid (HR s W2 (HK.out.below I.out.low) I.out.su)
        go_wp2_with fail
        refine C2.out.mono ?_
        rintro e W3 ⟨rfl, b3⟩
        replace I := Lib.hid (I.out.below b3)
        clear b3 C2 la lb
        cases hy : rightC s.m with
        | false =>
          go_wp2_with fail
          go_ret
          exact ⟨rfl, I.out.low⟩
        | true =>
          have hd : Below W3.heap.size W3 W3.drew := ⟨rfl, rfl, rfl, Nat.le_refl _, fun _ _ => rfl⟩
          have KD := Lib.hid (I.out.below hd)
          have la0 := ld_cm KD.out.one
          have lb0 := ld_cm KD.out.two
          have CPX := Lib.hid (HC r W3.drew (HK.out.below KD.out.low) KD.out.st hx)
          have CPY := Lib.hid (fun W (k : KdAt W) (h : CmP W s) => HC s W k h hy)
          have HX := Lib.hid (commandL_bytes r.m)
          have HY := Lib.hid (commandL_bytes s.m)
          have HS := Lib.hid (show commandL r.m = commandL s.m ↔ sameCm r.m s.m = true from ⟨fun e => (sameCm_iff _ _).2 (command_begins hx hy (r := []) (by rw [e, List.append_nil])).1, fun e => by rw [(sameCm_iff _ _).1 e]⟩)
          have HT := Lib.hid (show (commandL s.m).take (commandL r.m).length = commandL r.m → sameCm r.m s.m = true from fun e => (sameCm_iff _ _).2 (command_begins hx hy (r := (commandL s.m).drop (commandL r.m).length) (by conv => lhs; rw [← List.take_append_drop (commandL r.m).length (commandL s.m), e])).1)
          have lX := Lib.hid (commandL_len hx)
          have lY := Lib.hid (commandL_len hy)
          clear hx hy
          generalize commandL r.m = lX' at *
          generalize commandL s.m = lY' at *
          go_wp2_with fail
          obtain ⟨sa, hsa⟩ : ∃ s, strB lX' = s := ⟨_, rfl⟩
          obtain ⟨sb, hsb⟩ : ∃ s, strB lY' = s := ⟨_, rfl⟩
          have HSA := Lib.hid hsa
          have HSB := Lib.hid hsb
          clear hsa hsb
          go_cut [5, 6] (fun s5 s6 wx => s5 = .string sa ∧ s6 = .string sb ∧ Hid (TwCm w r s wx))
          case first =>
            go_region_law (first
              | ((try go_simp); go_at_call 17; refine CQ.out.mono ?_; rintro e w5 ⟨v5, rfl, o5, b5⟩; obtain ⟨a5, p5, e5, h5⟩ := o5.bytes HY.out; subst e5; have K5 := Lib.hid (K4.out.below b5); have t5 := run_text h5; have t6 := run_text (HH4.out.below b5); rw [HSB.out] at t5; rw [HSA.out] at t6; clear o5 b5 h5)
              | ((try go_simp); go_at_call 17; refine CPX.out.mono ?_; rintro e w4 ⟨v4, rfl, o4, b4⟩; obtain ⟨a4, p4, e4, h4⟩ := o4.bytes HX.out; subst e4; have K4 := Lib.hid (KD.out.below b4); have HH4 := Lib.hid h4; have t4 := run_text h4; rw [HSA.out] at t4; have lb4 := ld_cm K4.out.two; have CQ := Lib.hid (CPY.out w4 (HK.out.below K4.out.low) K4.out.su); clear o4 b4 h4))
            all_goals
              go_wp2_with fail
              go_meet
              exact ⟨rfl, rfl, K5⟩
          case rest =>
            obtain ⟨rfl, rfl, K5⟩ := hcut
            have CS := Lib.hid (HE r s wc K5.out.st K5.out.su)
            have HNA := Lib.hid (show sa.size = lX'.length by rw [← HSA.out, strB_size])
            have HNB := Lib.hid (show sb.size = lY'.length by rw [← HSB.out, strB_size])
            have hna : sa.size ≤ 2000 := by rw [HNA.out]; exact lX.out
            have hnb : sb.size ≤ 2000 := by rw [HNB.out]; exact lY.out
            clear KD la0 lb0 I hd
            have la := ld_cm K5.out.one
            have lb := ld_cm K5.out.two
            cases hs : sameCm r.m s.m with
            | true =>
              rw [hs] at CS
              have e : sb = sa := by rw [← HSA.out, ← HSB.out, HS.out.2 hs]
              subst e
              have hsl : ∀ W, (Instr.slice 9 (.string sb) none (some (.int .i64 (sb.size : Int))) none).run Tryz.prog W = .ok (.string sb) W := by
                intro W
                rw [run_slice_string_h W 9 sb Tryz.underlying9 .i64 (sb.size : Int) (by omega) (by omega)]
                congr 2
                rw [show ((sb.size : Int).toNat) = lY'.length by rw [HNB.out]; rfl]
                conv => lhs; rw [← HSB.out]
                rw [strB_take HY.out, List.take_length, HSB.out]
              clear hs HS HT
              go_wp2_with fail
              refine CS.out.mono ?_
              rintro e w6 ⟨rfl, b6⟩
              have K6 := Lib.hid (K5.out.below b6)
              clear b6 la lb CS
              go_wp2_with fail
              go_ret
              exact ⟨rfl, K6.out.low⟩
            | false =>
              rw [hs] at CS
              by_cases hle : sa.size ≤ sb.size
              · obtain ⟨sc, hsc⟩ : ∃ s, strB (lY'.take lX'.length) = s := ⟨_, rfl⟩
                have hsl : ∀ W, (Instr.slice 9 (.string sb) none (some (.int .i64 (sa.size : Int))) none).run Tryz.prog W = .ok (.string sc) W := by
                  intro W
                  rw [run_slice_string_h W 9 sb Tryz.underlying9 .i64 (sa.size : Int) (by omega) (by omega)]
                  congr 2
                  rw [show ((sa.size : Int).toNat) = lX'.length by rw [HNA.out]; rfl]
                  conv => lhs; rw [← HSB.out]
                  rw [strB_take HY.out, hsc]
                have hn2 : (sc.toList == sa.toList) = false := str_ne (fun e => by
                  have := HT.out (strB_inj (fun z hz => HY.out z (List.mem_of_mem_take hz)) HX.out (by rw [hsc, HSA.out, e]))
                  rw [hs] at this
                  cases this)
                clear hs HS HT hsc
                go_wp2_with fail
                refine CS.out.mono ?_
                rintro e w6 ⟨rfl, b6⟩
                have K6 := Lib.hid (K5.out.below b6)
                clear b6 la lb CS
                go_wp2_with fail
                go_ret
                exact ⟨rfl, K6.out.low⟩
              · clear hs HS HT
                go_wp2_with fail
                refine CS.out.mono ?_
                rintro e w6 ⟨rfl, b6⟩
                have K6 := Lib.hid (K5.out.below b6)
                clear b6 la lb CS
                go_wp2_with fail
                go_ret
                exact ⟨rfl, K6.out.low⟩


set_option maxRecDepth 100000 in
set_option maxHeartbeats 1000000 in
theorem snapApart_lifted (os : Os) (started : os.Started) (H : Type) (enc : TypeId × Value → H) :
    ReturnsInHanded {} Tryz.checked os 8 .any (fun w args => (Rows.snapApartSpec.pre enc Tryz.prog Tryz.f8 [] false w args ∧ laidMetH Tryz.prog Rows.snapApartRow.laid w) ∧ sizedMet enc Tryz.prog Tryz.f8 (OpenSpec.ofChange Rows.snapApartSpec) false w args)
      (Rows.snapApartSpec.post enc Tryz.prog Tryz.f8 false true false false) := by
  refine returnsInHanded_of_change_and (C := Tryz.checked) (X := fun w _ => laidMetH Tryz.prog Rows.snapApartRow.laid w) (fun _ _ _ hh h => h.of_heap hh) own started (by kernel_rfl) Tryz.func8
    (ChangeSpec.witness_shaped (enc := enc) (C := Tryz.checked) (os := os) (X := fun w _ => laidMetH Tryz.prog Rows.snapApartRow.laid w) false (World.laidAll Tryz.prog os Rows.snapApartRow.laid) #[.agg #[.int .i64 0, .string ⟨#[]⟩, .slice none 0 0, .string ⟨#[]⟩, .string ⟨#[]⟩, .string ⟨#[]⟩, .int .i64 0, .int .i64 0, .bool false], .agg #[.int .i64 0, .string ⟨#[]⟩, .slice none 0 0, .string ⟨#[]⟩, .string ⟨#[]⟩, .string ⟨#[]⟩, .int .i64 0, .int .i64 0, .bool false]] 8 (World.laidAll_os _ _ _)
      (World.shaped_of_ZipB (by kernel_rfl) (by kernel_rfl)) (by kernel_rfl) (by kernel_rfl) (by kernel_rfl)
      (by rw [MakeChecks.laidMetH_plain _ _ _ (by kernel_rfl)]; exact laidMet_laidAll _ (by kernel_rfl) (by kernel_rfl))) ?_
  intro W base args ds gs before hval0 hW _ _ hL _
  have hval : ∀ (j : Nat) t v, Tryz.f8.params[j]? = some t → args[j]? = some v → Value.okWide Tryz.prog W .any base t v := hval0
  have hW' := hW
  obtain ⟨p, q, hA0, hV, rfl, _, _⟩ := hW
  have hA : DataW.TrodAll enc Tryz.prog W 0 (fun _ => true) true Tryz.f8.params.toList args.toList ds p := hA0
  rw [Tryz.params8] at hA hval
  obtain ⟨v0, vs0, d0, ds0, p0, q_0, hargs, rfl, rfl, h0, r0⟩ := trodAll_cons hA
  obtain ⟨v1, vs1, d1, ds1, p1, q_1, rfl, rfl, rfl, h1, r1⟩ := trodAll_cons r0
  obtain ⟨rfl, rfl, rfl⟩ := trodAll_nil r1
  obtain rfl : args = #[v0, v1] := by cases args; simp_all
  obtain ⟨rfl, rfl⟩ := trodVars_none hV
  clear hA0 hval0
  simp only [List.append_nil] at hW'
  obtain ⟨m0, rfl, hS0⟩ := command_of_trod (hval 0 26 v0 rfl rfl) h0
  have hlt0 : ∀ x ∈ p0, x.block < W.heap.size := fun x hx => by simpa using hW'.lt x (by simpa using (by simp [hx]))
  obtain ⟨m1, rfl, hS1⟩ := command_of_trod (hval 1 26 v1 rfl rfl) h1
  have hlt1 : ∀ x ∈ p1, x.block < W.heap.size := fun x hx => by simpa using hW'.lt x (by simpa using (by simp [hx]))
  refine (apart_walk (snapAlive_of new_of state_of read_of command_of same_of) cmRight0 cmSame0 command_of m0 m1 W (Lib.hid (kinds_of_laid hL)) hS0 hS1).mono fun e W' ⟨he, hb⟩ => ?_
  subst he
  have hT : DataW.TrodAll enc Tryz.prog W' 0 (fun b => decide (b < W.heap.size)) true _ _ _ _ := (trodAll_cons_mk (Below.trod laidOut (by kernel_rfl) (of_decide_eq_true (by kernel_rfl)) h0 hb hlt0) (trodAll_cons_mk (Below.trod laidOut (by kernel_rfl) (of_decide_eq_true (by kernel_rfl)) h1 hb hlt1) trodAll_mk0))
  simp only [List.append_nil] at hT
  exact ⟨_, rfl, _, _, _, [], p0 ++ (p1), [], hW', trodAll_mk1 (shut_bool Tryz.underlying4 _), hT, rfl, hb.frame _, fun h => by cases h⟩

theorem snapApart_rowsaid : Rows.SnapApartSaid :=
  OpenClaim.holds_of_wide 8 Tryz.f8 rfl rfl rfl rfl rfl rfl rfl ⟨rfl, rfl, rfl, rfl, rfl⟩ rfl rfl rfl rfl rfl (by kernel_rfl) Tryz.func8 (by kernel_rfl)
    (of_decide_eq_true (by kernel_rfl)) (by unfold Func.isWrapper; first | (rw [if_pos (by decide +kernel)]; kernel_rfl) | (rw [if_neg (by decide +kernel)]; exact ⟨rfl, rfl⟩))
    (fun os started H enc _ => snapApart_lifted os started H enc)

theorem snapApart_holds : Rows.SnapApartCardSaid :=
  Claim7.holds_tied_plain_at .later [] [.data] true _ false snapApart_rowsaid (fun _ h => by cases h) (by kernel_rfl) (fun _ h => by cases h) snapApart_row_tie rfl ⟨rfl, rfl⟩ (by kernel_rfl) rfl
    (fun f fn hf hfn => by
      obtain rfl : f = 8 := Option.some.inj ((show Tryz.prog.funcNamed Rows.snapApartRow.func = some 8 by kernel_rfl).symm.trans hf) |>.symm
      obtain rfl : fn = Tryz.f8 := (Option.some.inj (Tryz.func8.symm.trans hfn)).symm
      exact ⟨by kernel_rfl, fun j t ht => by
        rw [Tryz.params8] at ht
        have hm : t ∈ [26, 26] := by simpa using Array.mem_of_getElem? ht
        have hall : ([26, 26].all fun u => !Tryz.prog.wantsStandIn u) = true := by kernel_rfl
        exact (show Tryz.prog.wantsStandIn t = false by simpa using List.all_eq_true.1 hall t hm)⟩)
    (by kernel_rfl)
#print axioms snapApart_holds


end Go.Proofs.YtfmpibmhhfmajaaGreatDoor
