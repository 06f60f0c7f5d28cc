/- LabelBytes: the law returns true for every two texts: a label has at least one and at most two bytes for each sign, and labels that are joined are split again into themselves. The conditions are those of its row: the listed tables of package unicode/utf8 lie as the program's text lays them. -/
import Derived.Test.YtobicfkbpoimnaaDoorCmp
import Derived.Test.YtobicfkbpoimnaaDoorJoin
import Derived.Test.YtobicfkbpoimnaaDoorRows
import Derived.Test.YtobicfkbpoimnaaDoorCards
import Derived.Test.YtobicfkbpoimnaaDoorTie
import Derived.ProofKit
import Derived.Lay
import Derived.LaidOnce
import Derived.SevenTiedAt
namespace Go.Proofs.YtobicfkbpoimnaaDoor
open Go.RowKit Go.ChangeShapes Go.WideShapes Go.ChangeAt

theorem three_cells (s t : ByteArray) (W : World) (b : Nat) (T : TypeId) : ∀ (j : Nat) x, [s, t, s][j]? = some x → (W.alloc (.cells #[.string s, .string t, .string s] T)).cell? ⟨W.heap.size, 0 + j, none⟩ = some (.string x) := by
  intro j x hx
  match j, hx with
  | 0, hx => simp at hx; subst hx; simp
  | 1, hx => simp at hx; subst hx; simp
  | 2, hx => simp at hx; subst hx; simp
  | _ + 3, hx => simp at hx

theorem three_join (s t : ByteArray) (hs : s.size ≤ 32) (ht : t.size ≤ 32) : (Lib.join ([s, t, s].map (·.data.toList)) [32]).length ≤ 98 := by
  simp only [List.map_cons, List.map_nil, join_two, Lib.join_one, List.length_append, List.length_cons, ← Lib.size_eq]
  omega

set_option maxHeartbeats 2000000 in
theorem bytes_walk (s t : ByteArray) (w : World) (hs : s.size ≤ maxLen) (ht : t.size ≤ maxLen) : Calls Tryd.prog 8 #[.string s, .string t] w fun e w' => e = .returned (.bool true) ∧ Below w.heap.size w w' := by
  cases hr : rightB s.data.toList with
  | false =>
    have HR := Lib.hid hr
    clear hr
    go_enter Tryd.func8, Tryd.ntmps8
    go_wp2_with fail
    refine (alive_any _).mono ?_
    rintro e w1 ⟨rfl, b1⟩
    go_wp2_with fail
    refine (right_any _ _ hs).mono ?_
    rintro e w2 ⟨rfl, b2⟩
    rw [HR.out]
    go_wp2_with fail
    go_ret
    exact ⟨rfl, b1.trans (b2.mono b1.size)⟩
  | true =>
    cases hr2 : rightB t.data.toList with
    | false =>
      have HR := Lib.hid hr
      have HR2 := Lib.hid hr2
      clear hr hr2
      go_enter Tryd.func8, Tryd.ntmps8
      go_wp2_with fail
      refine (alive_any _).mono ?_
      rintro e w1 ⟨rfl, b1⟩
      go_wp2_with fail
      refine (right_any _ _ hs).mono ?_
      rintro e w2 ⟨rfl, b2⟩
      rw [HR.out]
      go_wp2_with fail
      refine (right_any _ _ ht).mono ?_
      rintro e w3 ⟨rfl, b3⟩
      rw [HR2.out]
      go_wp2_with fail
      go_ret
      have a2 := b1.trans (b2.mono b1.size)
      exact ⟨rfl, a2.trans (b3.mono a2.size)⟩
    | true =>
      have hl := signs_len hr
      have hsz := right_len hr
      have htz := right_len hr2
      rw [← Lib.size_eq] at hl hsz htz
      have hsp := split_join (ls := [s, t, s].map (·.data.toList)) (by
        intro x hx
        simp only [List.map_cons, List.map_nil, List.mem_cons, List.mem_nil_iff, or_false] at hx
        rcases hx with rfl | rfl | rfl <;> assumption)
      have hjl := three_join s t hsz.2 htz.2
      obtain ⟨jt, hjt⟩ : ∃ jt : ByteArray, (⟨(Lib.join ([s, t, s].map (·.data.toList)) [32]).toArray⟩ : ByteArray) = jt := ⟨_, rfl⟩
      have hjd : jt.data.toList = Lib.join ([s, t, s].map (·.data.toList)) [32] := by rw [← hjt]
      have hjs : jt.size ≤ 98 := by rw [Lib.size_eq, hjd]; exact hjl
      have cJ : ∀ W : World, Calls Tryd.prog 21 #[.slice (some ⟨W.heap.size, 0, none⟩) 3 3] (W.alloc (.cells #[.string s, .string t, .string s] 9)) fun e w' => e = .returned (.string jt) ∧ Below (W.heap.size + 1) (W.alloc (.cells #[.string s, .string t, .string s] 9)) w' := by
        intro W
        have := join_any W.heap.size 0 3 [s, t, s] (W.alloc (.cells #[.string s, .string t, .string s] 9)) (three_cells s t W 0 9) (by simp) (by simp) (by simp) (by omega)
        rw [hjt] at this
        simpa using this
      have CS := Lib.hid (fun W => split_any jt W (by omega))
      rw [← hjd] at hsp
      have HSP := Lib.hid hsp
      have CJ := Lib.hid cJ
      have HR := Lib.hid hr
      have HR2 := Lib.hid hr2
      have hz := cmpL_zero s.data.toList t.data.toList
      have C4 := Lib.hid (fun w => compare_any s t w)
      have heq : (s.toList == t.toList) = decide (cmpL s.data.toList t.data.toList = 0) := by
        rw [Lib.toList_data, Lib.toList_data, Bool.eq_iff_iff]
        simp only [beq_iff_eq, decide_eq_true_eq]
        exact hz.symm
      generalize cmpL s.data.toList t.data.toList = X at *
      have C5 := Lib.hid (fun w => signs_any s w hs)
      generalize signsI s.data.toList = n at *
      obtain ⟨l1, l2, l3, l4⟩ := hl
      have d2 : decide (n ≤ (s.size : Int)) = true := by simpa using l2
      have d3 : decide ((s.size : Int) ≤ 2 * n) = true := by simpa using l3
      clear hz cJ hsp hr hr2 hjt hjd hjl
      go_enter Tryd.func8, Tryd.ntmps8
      go_wp2_with fail
      refine (alive_any _).mono ?_
      rintro e w1 ⟨rfl, b1⟩
      go_wp2_with fail
      refine (right_any _ _ hs).mono ?_
      rintro e w2 ⟨rfl, b2⟩
      rw [HR.out]
      go_wp2_with fail
      refine (right_any _ _ ht).mono ?_
      rintro e w3 ⟨rfl, b3⟩
      rw [HR2.out]
      go_wp2_with fail
      refine (C5.out _).mono ?_
      rintro e w4 ⟨rfl, b4⟩
      go_wp2_with fail
      refine (CJ.out _).mono ?_
      rintro e w5 ⟨rfl, b5⟩
      go_wp2_with fail
      refine (CS.out _).mono ?_
      rintro e w6 ⟨v, rfl, o6, b6⟩
      rw [HSP.out.1] at o6
      rw [HSP.out.2]
      obtain ⟨g, cap, rfl, hcap, hcm, hcl⟩ := own_strs o6 (by simp)
      have k0 : w6.cell? ⟨g, 0, none⟩ = some (.string s) := by
        have := hcl 0 s.data.toList (by simp)
        unfold strV at this
        rw [Lib.mk_data] at this
        exact this
      have k1 : w6.cell? ⟨g, 1, none⟩ = some (.string t) := by
        have := hcl 1 t.data.toList (by simp)
        unfold strV at this
        rw [Lib.mk_data] at this
        exact this
      have k2 : w6.cell? ⟨g, 2, none⟩ = some (.string s) := by
        have := hcl 2 s.data.toList (by simp)
        unfold strV at this
        rw [Lib.mk_data] at this
        exact this
      have hlen3 : (([s, t, s] : List ByteArray).map (·.data.toList)).length = 3 := rfl
      rw [hlen3] at hcap
      rw [hlen3]
      have a2 := b1.trans (b2.mono b1.size)
      have a3 := a2.trans (b3.mono a2.size)
      have a4 := a3.trans (b4.mono a3.size)
      have a5 := (a4.alloc a4.size (.cells #[.string s, .string t, .string s] 9)).trans (b5.mono (by have := a4.size; omega))
      have B6 := Lib.hid (a5.trans (b6.mono a5.size))
      clear o6 hcl b1 b2 b3 b4 b5 b6 a2 a3 a4 a5 hlen3 HSP CS CJ C5 HR HR2
      cases hX : decide (X = 0) with
      | true =>
        rw [hX] at heq
        have hx0 : X = 0 := by simpa using hX
        subst hx0
        clear hX
        go_wp2_with fail
        refine (C4.out _).mono ?_
        rintro e w7 ⟨rfl, rfl⟩
        go_wp2_with fail
        go_ret
        exact ⟨rfl, B6.out⟩
      | false =>
        rw [hX] at heq
        have hx0 : ((X : Int) == 0) = false := by simpa using hX
        clear hX
        go_wp2_with fail
        refine (C4.out _).mono ?_
        rintro e w7 ⟨rfl, rfl⟩
        go_wp2_with fail
        go_ret
        exact ⟨rfl, B6.out⟩

theorem own : ownKnob Tryd.prog.godebug = none := by kernel_rfl

set_option maxRecDepth 100000 in
theorem bytes_lifted (os : Os) (started : os.Started) (H : Type) (enc : TypeId × Value → H) :
    ReturnsInHanded {} Tryd.checked os 8 .any (fun w args => (Rows.labelBytesSpec.pre enc Tryd.prog Tryd.f8 [] false w args ∧ laidMetH Tryd.prog Rows.labelBytesRow.laid w) ∧ sizedMet enc Tryd.prog Tryd.f8 (OpenSpec.ofChange Rows.labelBytesSpec) false w args)
      (Rows.labelBytesSpec.post enc Tryd.prog Tryd.f8 false true false false) := by
  refine returnsInHanded_of_change_and (C := Tryd.checked) (X := fun w _ => laidMetH Tryd.prog Rows.labelBytesRow.laid w) (fun _ _ _ hh h => h.of_heap hh) own started (by kernel_rfl) Tryd.func8
    (ChangeSpec.witness_shaped (enc := enc) (C := Tryd.checked) (os := os) (X := fun w _ => laidMetH Tryd.prog Rows.labelBytesRow.laid w) false (World.laidAll Tryd.prog os Rows.labelBytesRow.laid) #[.string ⟨#[]⟩, .string ⟨#[]⟩] 8 (World.laidAll_os _ _ _)
      (World.shaped_of_ZipB (by kernel_rfl) (by kernel_rfl)) (by kernel_rfl) (by kernel_rfl) (by kernel_rfl)
      (by rw [MakeChecks.laidMetH_plain _ _ _ (by kernel_rfl)]; exact laidMet_laidAll _ (by kernel_rfl) (by kernel_rfl))) ?_
  intro W base args ds gs before hval0 hW _ _ hL _
  have hval : ∀ (j : Nat) t v, Tryd.f8.params[j]? = some t → args[j]? = some v → Value.okWide Tryd.prog W .any base t v := hval0
  have hW' := hW
  obtain ⟨p, q, hA0, hV, rfl, _, _⟩ := hW
  have hA : DataW.TrodAll enc Tryd.prog W 0 (fun _ => true) true Tryd.f8.params.toList args.toList ds p := hA0
  rw [Tryd.params8] at hA hval
  obtain ⟨v0, v1, d0, d1, p0, p1, rfl, rfl, rfl, h0, h1⟩ := trodAll_two hA
  obtain ⟨rfl, rfl⟩ := trodVars_none hV
  obtain ⟨s0, rfl, rfl, rfl, hs0⟩ := Go.ChangeMaps.open_string Tryd.underlying9 (hval 0 9 v0 rfl rfl) h0
  obtain ⟨s1, rfl, rfl, rfl, hs1⟩ := Go.ChangeMaps.open_string Tryd.underlying9 (hval 1 9 v1 rfl rfl) h1
  simp only [List.append_nil] at hW'
  refine (bytes_walk s0 s1 W hs0 hs1).mono fun e W' ⟨he, hb⟩ => ?_
  subst he
  exact ⟨_, rfl, _, _, _, [], [], [], hW', trodAll_mk1 (shut_bool Tryd.underlying4 _), trodAll_mk2 (Go.ChangeMaps.shut_string Tryd.underlying9 hs0) (Go.ChangeMaps.shut_string Tryd.underlying9 hs1), rfl, hb.frame _, fun h => by cases h⟩

theorem bytes_row : Rows.LabelBytesSaid :=
  OpenClaim.holds_of_wide 8 Tryd.f8 rfl rfl rfl rfl rfl rfl rfl ⟨rfl, rfl, rfl, rfl, rfl⟩ rfl rfl rfl rfl rfl (by kernel_rfl) Tryd.func8 (by kernel_rfl)
    (of_decide_eq_true (by kernel_rfl)) (by unfold Func.isWrapper; first | (rw [if_pos (by decide +kernel)]; kernel_rfl) | (rw [if_neg (by decide +kernel)]; exact ⟨rfl, rfl⟩))
    (fun os started H enc _ => bytes_lifted os started H enc)

theorem labelBytes_holds : Rows.LabelBytesCardSaid :=
  Claim7.holds_tied_plain_at .later [] [.data, .pinned] true _ false bytes_row (fun _ h => by cases h) (by kernel_rfl) (fun _ h => by cases h) labelBytes_row_tie rfl ⟨rfl, rfl⟩ (by kernel_rfl) rfl
    (fun f fn hf hfn => by
      obtain rfl : f = 8 := Option.some.inj ((show Tryd.prog.funcNamed Rows.labelBytesRow.func = some 8 by kernel_rfl).symm.trans hf) |>.symm
      obtain rfl : fn = Tryd.f8 := (Option.some.inj (Tryd.func8.symm.trans hfn)).symm
      exact ⟨by kernel_rfl, fun j t ht => by
        rw [Tryd.params8] at ht
        have hm : t ∈ [9, 9] := by simpa using Array.mem_of_getElem? ht
        have hall : ([9, 9].all fun u => !Tryd.prog.wantsStandIn u) = true := by kernel_rfl
        exact (show Tryd.prog.wantsStandIn t = false by simpa using List.all_eq_true.1 hall t hm)⟩)
    (by kernel_rfl)
#print axioms labelBytes_holds
end Go.Proofs.YtobicfkbpoimnaaDoor
