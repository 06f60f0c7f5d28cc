/- LabelTells: the law returns true for every text and every number: Right, Signs, Cut and Next of package label answer as the document's own words do, wherever the text has at most 200 bytes. The conditions are those of its row: the listed tables of package unicode/utf8 lie as the program's text lays them. -/
import Derived.Test.YtobicfkbpoimnaaDoorRefNext
import Derived.Test.YtobicfkbpoimnaaDoorRows
import Derived.Test.YtobicfkbpoimnaaDoorCards
import Derived.Test.YtobicfkbpoimnaaDoorTie
import Derived.ProofKit
import Derived.Lay
import Derived.LaidOnce
import Derived.SevenTiedAt
namespace Go.Proofs.YtobicfkbpoimnaaDoor
open Go.RowKit Go.ChangeShapes Go.WideShapes Go.ChangeAt

theorem signs_many (l : List UInt8) : signsI l = if (csL l).length = 0 then -1 else ((csL l).length : Int) := by
  unfold signsI csL
  cases h : labOf l with
  | none => rfl
  | some cs =>
    obtain ⟨_, h1, _⟩ := labOf_some.1 h
    have : 0 < cs.length := List.length_pos_iff.2 h1
    show (cs.length : Int) = if cs.length = 0 then -1 else (cs.length : Int)
    rw [if_neg (by omega)]

set_option maxHeartbeats 4000000 in
theorem tells_walk (s : ByteArray) (n : Int) (w : World) (hs : s.size ≤ maxLen) (hn : -9223372036854775808 ≤ n ∧ n ≤ 9223372036854775807) : Calls Tryd.prog 4 #[.string s, .int .i64 n] w fun e w' => e = .returned (.bool true) ∧ Below w.heap.size w w' := by
  by_cases hz : s.size ≤ 200
  · have hzz : s.size ≤ 1000000 := by omega
    have C1 := Lib.hid (fun w => refSigns_any s w hzz)
    have C2 := Lib.hid (fun w => next_any s w hs)
    have C3 := Lib.hid (fun w => refNext_any s w hzz)
    have C4 := Lib.hid (fun w => right_any s w hs)
    have C5 := Lib.hid (fun w => refRight_any s w hzz)
    have C6 := Lib.hid (fun w => signs_any s w hs)
    have C7 := Lib.hid (fun w => cut_any s n w hs)
    have C8 := Lib.hid (fun w => refCut_any s n w hzz)
    have HM := Lib.hid (signs_many s.data.toList)
    have hcl := csL_len s.data.toList
    generalize nextE s.data.toList = ne at *
    generalize (⟨(nextS s.data.toList).toArray⟩ : ByteArray) = nx at *
    generalize (⟨(cutN s.data.toList n).toArray⟩ : ByteArray) = ct at *
    generalize signsI s.data.toList = si at *
    generalize rightB s.data.toList = rb at *
    by_cases hk0 : (csL s.data.toList).length = 0
    · have hsi : si = -1 := by rw [HM.out, if_pos hk0]
      subst hsi
      go_enter Tryd.func4, Tryd.ntmps4
      go_wp2_with fail
      refine (alive_any _).mono ?_
      rintro e w1 ⟨rfl, b1⟩
      go_wp2_with fail
      refine (C1.out _).mono ?_
      rintro e w2 ⟨v, rfl, o2, b2⟩
      obtain ⟨a, cap, rfl⟩ := own_shape o2
      rw [hk0]
      clear o2
      go_wp2_with fail
      refine (C2.out _).mono ?_
      rintro e w3 ⟨rfl, b3⟩
      go_wp2_with fail
      refine (C3.out _).mono ?_
      rintro e w4 ⟨rfl, b4⟩
      go_wp2_with fail
      refine (C4.out _).mono ?_
      rintro e w5 ⟨rfl, b5⟩
      go_wp2_with fail
      refine (C5.out _).mono ?_
      rintro e w6 ⟨rfl, b6⟩
      go_wp2_with fail
      refine (C6.out _).mono ?_
      rintro e w7 ⟨rfl, b7⟩
      go_wp2_with fail
      refine (C7.out _).mono ?_
      rintro e w8 ⟨rfl, b8⟩
      go_wp2_with fail
      refine (C8.out _).mono ?_
      rintro e w9 ⟨rfl, b9⟩
      go_wp2_with fail
      go_ret
      have a2 := b1.trans (b2.mono b1.size)
      have a3 := a2.trans (b3.mono a2.size)
      have a4 := a3.trans (b4.mono a3.size)
      have a5 := a4.trans (b5.mono a4.size)
      have a6 := a5.trans (b6.mono a5.size)
      have a7 := a6.trans (b7.mono a6.size)
      have a8 := a7.trans (b8.mono a7.size)
      exact ⟨rfl, a8.trans (b9.mono a8.size)⟩
    · obtain ⟨K, hK⟩ : ∃ K, (csL s.data.toList).length = K := ⟨_, rfl⟩
      rw [hK] at hk0 hcl
      have hsi : si = (K : Int) := by rw [HM.out, hK, if_neg hk0]
      subst hsi
      have d0 : ((K : Int) == 0) = false := by simp; omega
      have HK := Lib.hid hK
      clear HM hK hk0
      go_enter Tryd.func4, Tryd.ntmps4
      go_wp2_with fail
      refine (alive_any _).mono ?_
      rintro e w1 ⟨rfl, b1⟩
      go_wp2_with fail
      refine (C1.out _).mono ?_
      rintro e w2 ⟨v, rfl, o2, b2⟩
      obtain ⟨a, cap, rfl⟩ := own_shape o2
      rw [HK.out]
      clear o2
      go_wp2_with fail
      refine (C2.out _).mono ?_
      rintro e w3 ⟨rfl, b3⟩
      go_wp2_with fail
      refine (C3.out _).mono ?_
      rintro e w4 ⟨rfl, b4⟩
      go_wp2_with fail
      refine (C4.out _).mono ?_
      rintro e w5 ⟨rfl, b5⟩
      go_wp2_with fail
      refine (C5.out _).mono ?_
      rintro e w6 ⟨rfl, b6⟩
      go_wp2_with fail
      refine (C6.out _).mono ?_
      rintro e w7 ⟨rfl, b7⟩
      go_wp2_with fail
      refine (C7.out _).mono ?_
      rintro e w8 ⟨rfl, b8⟩
      go_wp2_with fail
      refine (C8.out _).mono ?_
      rintro e w9 ⟨rfl, b9⟩
      go_wp2_with fail
      go_ret
      have a2 := b1.trans (b2.mono b1.size)
      have a3 := a2.trans (b3.mono a2.size)
      have a4 := a3.trans (b4.mono a3.size)
      have a5 := a4.trans (b5.mono a4.size)
      have a6 := a5.trans (b6.mono a5.size)
      have a7 := a6.trans (b7.mono a6.size)
      have a8 := a7.trans (b8.mono a7.size)
      exact ⟨rfl, a8.trans (b9.mono a8.size)⟩
  · go_enter Tryd.func4, Tryd.ntmps4
    go_wp2_with fail
    refine (alive_any _).mono ?_
    rintro e w1 ⟨rfl, b1⟩
    go_wp2_with fail
    go_ret
    exact ⟨rfl, b1⟩

theorem own : ownKnob Tryd.prog.godebug = none := by kernel_rfl

set_option maxRecDepth 100000 in
theorem tells_lifted (os : Os) (started : os.Started) (H : Type) (enc : TypeId × Value → H) :
    ReturnsInHanded {} Tryd.checked os 4 .any (fun w args => (Rows.labelTellsSpec.pre enc Tryd.prog Tryd.f4 [] false w args ∧ laidMetH Tryd.prog Rows.labelTellsRow.laid w) ∧ sizedMet enc Tryd.prog Tryd.f4 (OpenSpec.ofChange Rows.labelTellsSpec) false w args)
      (Rows.labelTellsSpec.post enc Tryd.prog Tryd.f4 false true false false) := by
  refine returnsInHanded_of_change_and (C := Tryd.checked) (X := fun w _ => laidMetH Tryd.prog Rows.labelTellsRow.laid w) (fun _ _ _ hh h => h.of_heap hh) own started (by kernel_rfl) Tryd.func4
    (ChangeSpec.witness_shaped (enc := enc) (C := Tryd.checked) (os := os) (X := fun w _ => laidMetH Tryd.prog Rows.labelTellsRow.laid w) false (World.laidAll Tryd.prog os Rows.labelTellsRow.laid) #[.string ⟨#[]⟩, .int .i64 0] 8 (World.laidAll_os _ _ _)
      (World.shaped_of_ZipB (by kernel_rfl) (by kernel_rfl)) (by kernel_rfl) (by kernel_rfl) (by kernel_rfl)
      (by rw [MakeChecks.laidMetH_plain _ _ _ (by kernel_rfl)]; exact laidMet_laidAll _ (by kernel_rfl) (by kernel_rfl))) ?_
  intro W base args ds gs before hval0 hW _ _ hL _
  have hval : ∀ (j : Nat) t v, Tryd.f4.params[j]? = some t → args[j]? = some v → Value.okWide Tryd.prog W .any base t v := hval0
  have hW' := hW
  obtain ⟨p, q, hA0, hV, rfl, _, _⟩ := hW
  have hA : DataW.TrodAll enc Tryd.prog W 0 (fun _ => true) true Tryd.f4.params.toList args.toList ds p := hA0
  rw [Tryd.params4] at hA hval
  obtain ⟨v0, v1, d0, d1, p0, p1, rfl, rfl, rfl, h0, h1⟩ := trodAll_two hA
  obtain ⟨rfl, rfl⟩ := trodVars_none hV
  obtain ⟨s0, rfl, rfl, rfl, hs0⟩ := Go.ChangeMaps.open_string Tryd.underlying9 (hval 0 9 v0 rfl rfl) h0
  obtain ⟨x1, rfl, rfl, rfl, wx1⟩ := open_int Tryd.underlying3 (hval 1 3 v1 rfl rfl) h1
  simp only [List.append_nil] at hW'
  refine (tells_walk s0 x1 W hs0 (by simpa [Lit.wf, IntKind.min, IntKind.max, IntKind.signed, IntKind.bits] using wx1)).mono fun e W' ⟨he, hb⟩ => ?_
  subst he
  exact ⟨_, rfl, _, _, _, [], [], [], hW', trodAll_mk1 (shut_bool Tryd.underlying4 _), trodAll_mk2 (Go.ChangeMaps.shut_string Tryd.underlying9 hs0) (shut_int Tryd.underlying3 wx1), rfl, hb.frame _, fun h => by cases h⟩

theorem tells_row : Rows.LabelTellsSaid :=
  OpenClaim.holds_of_wide 4 Tryd.f4 rfl rfl rfl rfl rfl rfl rfl ⟨rfl, rfl, rfl, rfl, rfl⟩ rfl rfl rfl rfl rfl (by kernel_rfl) Tryd.func4 (by kernel_rfl)
    (of_decide_eq_true (by kernel_rfl)) (by unfold Func.isWrapper; first | (rw [if_pos (by decide +kernel)]; kernel_rfl) | (rw [if_neg (by decide +kernel)]; exact ⟨rfl, rfl⟩))
    (fun os started H enc _ => tells_lifted os started H enc)

theorem labelTells_holds : Rows.LabelTellsCardSaid :=
  Claim7.holds_tied_plain_at .later [] [.data, .pinned] true _ false tells_row (fun _ h => by cases h) (by kernel_rfl) (fun _ h => by cases h) labelTells_row_tie rfl ⟨rfl, rfl⟩ (by kernel_rfl) rfl
    (fun f fn hf hfn => by
      obtain rfl : f = 4 := Option.some.inj ((show Tryd.prog.funcNamed Rows.labelTellsRow.func = some 4 by kernel_rfl).symm.trans hf) |>.symm
      obtain rfl : fn = Tryd.f4 := (Option.some.inj (Tryd.func4.symm.trans hfn)).symm
      exact ⟨by kernel_rfl, fun j t ht => by
        rw [Tryd.params4] at ht
        have hm : t ∈ [9, 3] := by simpa using Array.mem_of_getElem? ht
        have hall : ([9, 3].all fun u => !Tryd.prog.wantsStandIn u) = true := by kernel_rfl
        exact (show Tryd.prog.wantsStandIn t = false by simpa using List.all_eq_true.1 hall t hm)⟩)
    (by kernel_rfl)
#print axioms labelTells_holds
end Go.Proofs.YtobicfkbpoimnaaDoor
