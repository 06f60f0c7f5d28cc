/- SnapCut: the law returns true for any state, number and byte: the bytes of one that hangs together, cut off anywhere or with a byte more, are none. The condition is its row's: the variable kinds lies as the program's text lays it. -/
import Derived.Test.YtfmpibmhhfmajaaGreatDoorMgBase
import Derived.Test.YtfmpibmhhfmajaaGreatDoorPLb
import Derived.Test.YtfmpibmhhfmajaaGreatDoorLbShelf
import Derived.Test.YtfmpibmhhfmajaaGreatDoorPSl
import Derived.Test.YtfmpibmhhfmajaaGreatDoorMgLines
import Derived.Test.YtfmpibmhhfmajaaGreatDoorMgOrders
import Derived.Test.YtfmpibmhhfmajaaGreatDoorMgBatches
import Derived.Test.YtfmpibmhhfmajaaGreatDoorMgEffects
import Derived.Test.YtfmpibmhhfmajaaGreatDoorPDy
import Derived.Test.YtfmpibmhhfmajaaGreatDoorDyShelf
import Derived.Test.YtfmpibmhhfmajaaGreatDoorMgState
import Derived.Test.YtfmpibmhhfmajaaGreatDoorMgStates
import Derived.Test.YtfmpibmhhfmajaaGreatDoorMgRight
import Derived.Test.YtfmpibmhhfmajaaGreatDoorMgProg
import Derived.Test.YtfmpibmhhfmajaaGreatDoorMgCopy
import Derived.Test.YtfmpibmhhfmajaaGreatDoorPSc
import Derived.Test.YtfmpibmhhfmajaaGreatDoorPOr
import Derived.Test.YtfmpibmhhfmajaaGreatDoorPBt
import Derived.Test.YtfmpibmhhfmajaaGreatDoorPOb
import Derived.Test.YtfmpibmhhfmajaaGreatDoorSnPlain
import Derived.Test.YtfmpibmhhfmajaaGreatDoorSnLay
import Derived.Test.YtfmpibmhhfmajaaGreatDoorSnPlain2
import Derived.Test.YtfmpibmhhfmajaaGreatDoorSnRef3
import Derived.Test.YtfmpibmhhfmajaaGreatDoorSnRef4
import Derived.Test.YtfmpibmhhfmajaaGreatDoorSnKinds
import Derived.Test.YtfmpibmhhfmajaaGreatDoorSnLines
import Derived.Test.YtfmpibmhhfmajaaGreatDoorSnTold
import Derived.Test.YtfmpibmhhfmajaaGreatDoorSnRight
import Derived.Test.YtfmpibmhhfmajaaGreatDoorSnCon
import Derived.Test.YtfmpibmhhfmajaaGreatDoorSnRow
import Derived.Test.YtfmpibmhhfmajaaGreatDoorSnOwn
import Derived.Test.YtfmpibmhhfmajaaGreatDoorSnRead0
import Derived.Test.YtfmpibmhhfmajaaGreatDoorSnReadP
import Derived.Test.YtfmpibmhhfmajaaGreatDoorSnReadP2
import Derived.Test.YtfmpibmhhfmajaaGreatDoorSnReadP3
import Derived.Test.YtfmpibmhhfmajaaGreatDoorSnReadD
import Derived.Test.YtfmpibmhhfmajaaGreatDoorSnCmd
import Derived.Test.YtfmpibmhhfmajaaGreatDoorSnState
import Derived.Test.YtfmpibmhhfmajaaGreatDoorSnAlive
import Derived.Test.YtfmpibmhhfmajaaGreatDoorRSnapCutA
import Derived.Test.YtfmpibmhhfmajaaGreatDoorRows
import Derived.Test.YtfmpibmhhfmajaaGreatDoorCards
import Derived.Test.YtfmpibmhhfmajaaGreatDoorTie
import Derived.ProofKit
import Derived.Lay
import Derived.LaidOnce
import Derived.SevenTiedAt
import Derived.MakeChecks
namespace Go.Proofs.YtfmpibmhhfmajaaGreatDoor
open Go.ChangeShapes Go.WideShapes Go.ChangeAt Go.RowKit

set_option maxRecDepth 100000
attribute [local go_sem ↓] ldSt stSt alSt bxSt bdSt
attribute [local go_sem] al_sta bx_sta st_stnew bd_sta

theorem read_no {l : List Nat} (h : readO l = none) : readE l = 161 := by
  unfold readE
  rw [h]
  rfl

set_option maxHeartbeats 8000000 in
theorem cut_walk (HA : AliveC) (HQ : RightC) (HS : StateC) (HR : ReadC) (r : StR) (n : Int) (x : Nat) (w : World) (HK : Hid (KdAt w)) (h : StP w r) (hx : x < 256) :
    Calls Tryz.prog 9 #[stV r, .int .i64 n, .int .u8 (x : Int)] w (Tell true w) := by
  have I := Lib.hid (OnI.begin w r h)
  clear h
  go_enter Tryz.func9, Tryz.ntmps9
  go_wp2_with fail
  generalize w.alloc (.cells (stC r) 37) = W0 at *
  refine (HA _ (HK.out.below I.out.low)).mono ?_
  rintro e W1 ⟨rfl, b1⟩
  replace I := Lib.hid (I.out.below b1)
  clear b1
  have c9 := I.out.one.st.2.2.2.2.1
  have c10 := I.out.one.st.2.2.2.2.2.1
  have c11 := I.out.one.st.2.2.2.2.2.2
  have la := ld_sta I.out.one
  by_cases h1 : 60 < r.ords.length
  · have h1i : (60 : Int) < (r.ords.length : Int) := by omega
    go_wp2_with fail
    go_ret
    exact ⟨rfl, I.out.low⟩
  · have h1i : ¬ (60 : Int) < (r.ords.length : Int) := by omega
    by_cases h2 : 40 < r.bats.length
    · have h2i : (40 : Int) < (r.bats.length : Int) := by omega
      go_wp2_with fail
      go_ret
      exact ⟨rfl, I.out.low⟩
    · have h2i : ¬ (40 : Int) < (r.bats.length : Int) := by omega
      by_cases h3 : 100 < r.effs.length
      · have h3i : (100 : Int) < (r.effs.length : Int) := by omega
        go_wp2_with fail
        go_ret
        exact ⟨rfl, I.out.low⟩
      · have h3i : ¬ (100 : Int) < (r.effs.length : Int) := by omega
        have C1 := Lib.hid (HQ r W1 I.out.st ⟨by omega, by omega, by omega⟩)
        go_wp2_with fail
        refine C1.out.mono ?_
        rintro e W3 ⟨rfl, b3⟩
        replace I := Lib.hid (I.out.below b3)
        clear b3 C1 la c9 c10 c11
        cases hq : rightS r.st with
        | false =>
          go_wp2_with fail
          go_ret
          exact ⟨rfl, I.out.low⟩
        | true =>
          have hF : Hid (FitS r) := Lib.hid (fit_of hq (by omega) (by omega) (by omega))
          have HLen := Lib.hid (stR_len hq (by omega) (by omega) (by omega))
          by_cases hn : n < 0
          · go_wp2_with fail
            go_ret
            exact ⟨rfl, I.out.low⟩
          · have la := ld_sta I.out.one
            have C6 := Lib.hid (HS r W3 I.out.st hF.out)
            obtain ⟨k, rfl⟩ : ∃ k : Nat, n = (k : Int) := ⟨n.toNat, by omega⟩
            clear hq
            go_wp2_with fail
            refine C6.out.mono ?_
            rintro e W4 ⟨v4, rfl, o4, b4⟩
            obtain ⟨A, p4, rfl, h4⟩ := o4.bytes (stateL_bytes r.st)
            replace I := Lib.hid (I.out.below b4)
            have H4 := Lib.hid h4
            have hlen := HLen.out
            have HMore := Lib.hid (read_no (readO_more hF.out.1 (by omega) hx))
            have HCut := Lib.hid (fun hk : k < (stateL r.st).length => read_no (readO_cut hF.out.1 (by omega) hk))
            have HBy := Lib.hid (stateL_bytes r.st)
            clear la C6 o4 b4 h4 hn HLen
            generalize stateL r.st = l at *
            have OE := Lib.hid (own_fresh W4 W4.heap.size (Nat.le_refl _))
            have BE := Lib.hid ((Below.refl W4.heap.size W4).alloc (Nat.le_refl _) (.cells #[] 5))
            have HE4 := Lib.hid (H4.out.below BE.out)
            have hz4 : W4.heap.size ≤ (W4.alloc (.cells #[] 5)).heap.size := by simp
            go_wp2_with (at_builtin; go_must (refine wpList_append_bytes rfl _ _ rfl W4.heap.size _ [] l rfl OE.out A p4 rfl HE4.out (by simp; omega) hz4 ?_))
            rintro v5 w5 o5 g5
            have B5 := Lib.hid (BE.out.grown g5 hz4 OE.out.row)
            have O5 := Lib.hid o5
            obtain ⟨L, hL⟩ : ∃ L, l ++ [x] = L := ⟨_, rfl⟩
            have hLl : L.length ≤ 300000 := by rw [← hL, List.length_append]; simp; omega
            have HBL : Hid (Bytes L) := Lib.hid (by rw [← hL]; exact bytes_app HBy.out (fun z hz => by rw [List.mem_singleton.1 hz]; exact hx))
            have HL := Lib.hid hL
            have hz5 := B5.out.size
            have hz6 : W4.heap.size ≤ (w5.alloc (.cells #[.int .u8 (x : Int)] 5)).heap.size := by simp; omega
            have O6 := Lib.hid (O5.out.below ((Below.refl _ w5).alloc (Nat.le_refl _) (.cells #[.int .u8 (x : Int)] 5)))
            have B6 := Lib.hid (B5.out.alloc hz5 (.cells #[.int .u8 (x : Int)] 5))
            clear o5 g5 OE BE HE4 hz4 hL
            go_wp2_with (at_builtin; go_must (refine wpList_append_bytes rfl _ _ rfl W4.heap.size _ l [x] rfl O6.out _ 1 rfl (bytes_one _ x hx) (by simp; omega) hz6 ?_))
            rintro v7 w7 o7 g7
            rw [HL.out] at o7
            obtain ⟨A7, p7, e7, h7⟩ := o7.bytes HBL.out
            subst e7
            have B7 := Lib.hid (B6.out.grown g7 hz6 O6.out.row)
            have C8 := Lib.hid (HR A7 p7 L w7 h7 (by omega))
            clear o7 g7 h7 O5 O6 B5 B6 hz5 hz6
            go_wp2_with fail
            refine C8.out.mono ?_
            rintro e w8 ⟨t, rfl, _, _, b8⟩
            rw [← HL.out, HMore.out]
            have B8 := Lib.hid (B7.out.trans (b8.mono B7.out.size))
            have B9 := Lib.hid (B8.out.alloc B8.out.size (.cells (stC t) 37))
            clear b8 C8 B7 B8 HL HBL HMore
            by_cases hk : k < l.length
            · have hki : ¬ (l.length : Int) ≤ (k : Int) := by omega
              obtain ⟨a9, p9, s9, k9⟩ := slice_to (a := A) H4.out.cap k (k : Int) rfl (by omega)
              have H9 := Lib.hid (k9 _ (H4.out.below B9.out))
              have HV := Lib.hid (HCut.out hk)
              have hl9 : (l.take k).length ≤ 1000000 := by rw [List.length_take]; omega
              clear k9
              generalize l.take k = z at *
              have C9 := Lib.hid (HR a9 p9 z _ H9.out hl9)
              go_wp2_with fail
              refine C9.out.mono ?_
              rintro e w10 ⟨u, rfl, _, _, b10⟩
              rw [HV.out]
              have B10 := Lib.hid (I.out.low.trans ((B9.out.trans (b10.mono B9.out.size)).mono I.out.low.size))
              have B11 := Lib.hid (B10.out.alloc B10.out.size (.cells (stC u) 37))
              clear b10 C9
              go_wp2_with fail
              go_ret
              exact ⟨rfl, B11.out⟩
            · have hki : (l.length : Int) ≤ (k : Int) := by omega
              have B10 := Lib.hid (I.out.low.trans (B9.out.mono I.out.low.size))
              go_wp2_with fail
              go_ret
              exact ⟨rfl, B10.out⟩


set_option maxRecDepth 100000 in
set_option maxHeartbeats 1000000 in
theorem snapCut_lifted (os : Os) (started : os.Started) (H : Type) (enc : TypeId × Value → H) :
    ReturnsInHanded {} Tryz.checked os 9 .any (fun w args => (Rows.snapCutSpec.pre enc Tryz.prog Tryz.f9 [] false w args ∧ laidMetH Tryz.prog Rows.snapCutRow.laid w) ∧ sizedMet enc Tryz.prog Tryz.f9 (OpenSpec.ofChange Rows.snapCutSpec) false w args)
      (Rows.snapCutSpec.post enc Tryz.prog Tryz.f9 false true false false) := by
  refine returnsInHanded_of_change_and (C := Tryz.checked) (X := fun w _ => laidMetH Tryz.prog Rows.snapCutRow.laid w) (fun _ _ _ hh h => h.of_heap hh) own started (by kernel_rfl) Tryz.func9
    (ChangeSpec.witness_shaped (enc := enc) (C := Tryz.checked) (os := os) (X := fun w _ => laidMetH Tryz.prog Rows.snapCutRow.laid w) false (World.laidAll Tryz.prog os Rows.snapCutRow.laid) #[.agg #[.int .i64 0, .int .i64 0, .int .i64 0, .int .i64 0, .int .i64 0, .slice none 0 0, .int .i64 0, .int .i64 0, .int .i64 0, .slice none 0 0, .slice none 0 0, .slice none 0 0], .int .i64 0, .int .u8 0] 8 (World.laidAll_os _ _ _)
      (World.shaped_of_ZipB (by kernel_rfl) (by kernel_rfl)) (by kernel_rfl) (by kernel_rfl) (by kernel_rfl)
      (by rw [MakeChecks.laidMetH_plain _ _ _ (by kernel_rfl)]; exact laidMet_laidAll _ (by kernel_rfl) (by kernel_rfl))) ?_
  intro W base args ds gs before hval0 hW _ _ hL _
  have hval : ∀ (j : Nat) t v, Tryz.f9.params[j]? = some t → args[j]? = some v → Value.okWide Tryz.prog W .any base t v := hval0
  have hW' := hW
  obtain ⟨p, q, hA0, hV, rfl, _, _⟩ := hW
  have hA : DataW.TrodAll enc Tryz.prog W 0 (fun _ => true) true Tryz.f9.params.toList args.toList ds p := hA0
  rw [Tryz.params9] at hA hval
  obtain ⟨v0, vs0, d0, ds0, p0, q_0, hargs, rfl, rfl, h0, r0⟩ := trodAll_cons hA
  obtain ⟨v1, vs1, d1, ds1, p1, q_1, rfl, rfl, rfl, h1, r1⟩ := trodAll_cons r0
  obtain ⟨v2, vs2, d2, ds2, p2, q_2, rfl, rfl, rfl, h2, r2⟩ := trodAll_cons r1
  obtain ⟨rfl, rfl, rfl⟩ := trodAll_nil r2
  obtain rfl : args = #[v0, v1, v2] := by cases args; simp_all
  obtain ⟨rfl, rfl⟩ := trodVars_none hV
  clear hA0 hval0
  simp only [List.append_nil] at hW'
  obtain ⟨st0, rfl, hS0, hw0⟩ := state_of_trod (hval 0 37 v0 rfl rfl) h0
  have hlt0 : ∀ x ∈ p0, x.block < W.heap.size := fun x hx => by simpa using hW'.lt x (by simpa using (by simp [hx]))
  obtain ⟨a1, rfl, rfl, rfl, w1⟩ := open_int Tryz.underlying3 (hval 1 3 v1 rfl rfl) h1
  obtain ⟨i2, rfl, rfl, rfl, w2⟩ := open_int Tryz.underlying5 (hval 2 5 v2 rfl rfl) h2
  obtain ⟨a2, rfl, hn2⟩ := nat_of_u8 w2
  refine (cut_walk (snapAlive_of new_of state_of read_of command_of same_of) right_of state_of read_of st0 a1 a2 W (Lib.hid (kinds_of_laid hL)) hS0 hn2).mono fun e W' ⟨he, hb⟩ => ?_
  subst he
  have hT : DataW.TrodAll enc Tryz.prog W' 0 (fun b => decide (b < W.heap.size)) true _ _ _ _ := (trodAll_cons_mk (Below.trod laidOut (by kernel_rfl) (of_decide_eq_true (by kernel_rfl)) h0 hb hlt0) (trodAll_cons_mk (shut_int Tryz.underlying3 w1) (trodAll_cons_mk (shut_int Tryz.underlying5 w2) trodAll_mk0)))
  simp only [List.append_nil] at hT
  exact ⟨_, rfl, _, _, _, [], p0, [], hW', trodAll_mk1 (shut_bool Tryz.underlying4 _), hT, rfl, hb.frame _, fun h => by cases h⟩

theorem snapCut_rowsaid : Rows.SnapCutSaid :=
  OpenClaim.holds_of_wide 9 Tryz.f9 rfl rfl rfl rfl rfl rfl rfl ⟨rfl, rfl, rfl, rfl, rfl⟩ rfl rfl rfl rfl rfl (by kernel_rfl) Tryz.func9 (by kernel_rfl)
    (of_decide_eq_true (by kernel_rfl)) (by unfold Func.isWrapper; first | (rw [if_pos (by decide +kernel)]; kernel_rfl) | (rw [if_neg (by decide +kernel)]; exact ⟨rfl, rfl⟩))
    (fun os started H enc _ => snapCut_lifted os started H enc)

theorem snapCut_holds : Rows.SnapCutCardSaid :=
  Claim7.holds_tied_plain_at .later [] [.data] true _ false snapCut_rowsaid (fun _ h => by cases h) (by kernel_rfl) (fun _ h => by cases h) snapCut_row_tie rfl ⟨rfl, rfl⟩ (by kernel_rfl) rfl
    (fun f fn hf hfn => by
      obtain rfl : f = 9 := Option.some.inj ((show Tryz.prog.funcNamed Rows.snapCutRow.func = some 9 by kernel_rfl).symm.trans hf) |>.symm
      obtain rfl : fn = Tryz.f9 := (Option.some.inj (Tryz.func9.symm.trans hfn)).symm
      exact ⟨by kernel_rfl, fun j t ht => by
        rw [Tryz.params9] at ht
        have hm : t ∈ [37, 3, 5] := by simpa using Array.mem_of_getElem? ht
        have hall : ([37, 3, 5].all fun u => !Tryz.prog.wantsStandIn u) = true := by kernel_rfl
        exact (show Tryz.prog.wantsStandIn t = false by simpa using List.all_eq_true.1 hall t hm)⟩)
    (by kernel_rfl)
#print axioms snapCut_holds


end Go.Proofs.YtfmpibmhhfmajaaGreatDoor
