/- LabelSplits: the law returns true for every text and every slice of texts: Split and Join of package label answer as the document's own words do, and labels that are joined are split again into themselves, wherever the text has at most 500 bytes and the slice at most 20 texts of at most 60 bytes. The conditions are those of its row: the listed tables of package unicode/utf8 lie as the program's text lays them. -/
import Derived.Test.YtobicfkbpoimnaaDoorRefSplit
import Derived.Test.YtobicfkbpoimnaaDoorRows
import Derived.Test.YtobicfkbpoimnaaDoorCards
import Derived.Test.YtobicfkbpoimnaaDoorTie
import Derived.ProofKit
import Derived.SliceStrings
import Derived.Lay
import Derived.LaidOnce
import Derived.SevenTiedAt
namespace Go.Proofs.YtobicfkbpoimnaaDoor
open Go.RowKit Go.ChangeShapes Go.WideShapes Go.ChangeAt

theorem joinNone_any (a : Option Addr) (c : Nat) (w : World) : Calls Tryd.prog 21 #[.slice a 0 c] w fun e w' => e = .returned (.string ⟨#[]⟩) ∧ w = w' := by
  go_enter Tryd.func21, Tryd.ntmps21
  go_wp2_with fail
  refine (Tryd.strings_Join_none _ _ _ _).mono ?_
  rintro e w' ⟨rfl, hw⟩
  subst hw
  go_wp2_with fail
  go_ret
  exact ⟨rfl, rfl⟩

/-- label.Join, at a slice of few texts. -/
theorem joinS_any (a : Option Addr) (c : Nat) (ls : List ByteArray) (w : World) (h : StrsP w a c ls) (hl : ls.length ≤ 20) (hx : ∀ x ∈ ls, x.size ≤ 60) :
    Calls Tryd.prog 21 #[.slice a ls.length c] w fun e w' => e = .returned (.string ⟨(Lib.join (ls.map (·.data.toList)) [32]).toArray⟩) ∧ Below w.heap.size w w' := by
  by_cases hne : ls = []
  · subst hne
    exact (joinNone_any a c w).mono fun e w' ⟨he, hw⟩ => ⟨he, hw ▸ Below.refl _ _⟩
  · obtain ⟨b, o, rfl, hb, hc⟩ := h.cell hne
    have hj := joinTo_len hx hl ls.length
    unfold joinTo at hj
    rw [List.take_length] at hj
    exact join_any b o c ls w hc hb (by omega) h.cap (by omega)

theorem map_mk (ls : List ByteArray) : (ls.map (·.data.toList)).map mkS = ls := by
  induction ls with
  | nil => rfl
  | cons x r ih =>
    simp only [List.map_cons, ih]
    unfold mkS
    rw [Lib.mk_data]

theorem strs_own {w : World} {base : Nat} {v : Value} {ls : List (List UInt8)} (h : w.ownsRow base 9 1 v ls.length (ls.map strV)) :
    ∃ a cap, v = .slice a (ls.map mkS).length cap ∧ StrsP w a cap (ls.map mkS) := by
  obtain ⟨a, cap, e, h2⟩ := strs_of_own h
  exact ⟨a, cap, by rw [e]; simp, h2⟩

theorem split_few (l : List UInt8) : (splitW l).length ≤ l.length + 1 := by
  have := words_len l
  unfold splitW splitO
  split
  · simp
  · split
    · simpa using this
    · simp

set_option maxHeartbeats 4000000 in
theorem splits_walk (s : ByteArray) (a : Option Addr) (cap : Nat) (ls : List ByteArray) (w : World) (hs : s.size ≤ maxLen) (hS : StrsP w a cap ls) (hm : ls.length ≤ maxLen) :
    Calls Tryd.prog 5 #[.string s, .slice a ls.length cap] w fun e w' => e = .returned (.bool true) ∧ Below w.heap.size w w' := by
  unfold maxLen at hm
  by_cases h500 : 500 < s.size
  · have d1 : decide ((500 : Int) < (s.size : Int)) = true := by simp; omega
    clear hS
    go_enter Tryd.func5, Tryd.ntmps5
    go_wp2_with fail
    refine (alive_any _).mono ?_
    rintro e w1 ⟨rfl, b1⟩
    go_wp2_with fail
    go_ret
    exact ⟨rfl, b1⟩
  · have d1 : decide ((500 : Int) < (s.size : Int)) = false := by simp; omega
    by_cases h20 : 20 < ls.length
    · have d2 : decide ((20 : Int) < (ls.length : Int)) = true := by simp; omega
      clear hS
      go_enter Tryd.func5, Tryd.ntmps5
      go_wp2_with fail
      refine (alive_any _).mono ?_
      rintro e w1 ⟨rfl, b1⟩
      go_wp2_with fail
      go_ret
      exact ⟨rfl, b1⟩
    · have d2 : decide ((20 : Int) < (ls.length : Int)) = false := by simp; omega
      have hl20 : ls.length ≤ 20 := by omega
      have C1 := Lib.hid (fun w => split_any s w (by omega))
      have C2 := Lib.hid (fun w => refSplit_any s w (by omega))
      have hfew := split_few s.data.toList
      rw [← Lib.size_eq] at hfew
      have HW := Lib.hid hS
      clear hS
      obtain ⟨LS, hLS⟩ : ∃ LS, (splitW s.data.toList).map mkS = LS := ⟨_, rfl⟩
      have hfew2 : LS.length ≤ 1000 := by rw [← hLS, List.length_map]; omega
      have HLS := Lib.hid hLS
      obtain ⟨E, hE⟩ : ∃ E, splitE s.data.toList = E := ⟨_, rfl⟩
      have HEE := Lib.hid hE
      clear hfew hLS hE h500 h20
      go_enter Tryd.func5, Tryd.ntmps5
      go_wp2_with fail
      refine (alive_any _).mono ?_
      rintro e w1 ⟨rfl, b1⟩
      go_wp2_with fail
      refine (C1.out _).mono ?_
      rintro e w2 ⟨v1, rfl, o2, b2⟩
      obtain ⟨a1, c1, rfl, s1⟩ := strs_own o2
      rw [HLS.out] at s1
      rw [HLS.out, HEE.out]
      have S1 := Lib.hid s1
      clear o2 s1
      go_wp2_with fail
      refine (C2.out _).mono ?_
      rintro e w3 ⟨v2, rfl, o3, b3⟩
      obtain ⟨a2, c2, rfl, s2⟩ := strs_own o3
      rw [HLS.out] at s2
      rw [HLS.out, HEE.out]
      have SM := Lib.hid (same_any a1 a2 c1 c2 LS w3 (S1.out.below b3) s2 (by omega))
      clear o3 s2
      go_wp2_with fail
      refine SM.out.mono ?_
      rintro e w4 ⟨rfl, b4⟩
      have k2 := b1.trans (b2.mono b1.size)
      have k3 := k2.trans (b3.mono k2.size)
      have k4 := k3.trans (b4.mono k3.size)
      have HW4 := Lib.hid (HW.out.below k4)
      clear b1 b2 b3 b4 k2 k3 HLS HEE S1 SM C2
      go_wp2_with fail
      go_loop [47] (fun i => ∃ k : Nat, k ≤ ls.length ∧ i = .int .i64 k ∧ Hid (∀ (j : Nat) x, j < k → ls[j]? = some x → x.size ≤ 60)) (fun i => ls.length - (intOf i).toNat)
      case atStart => exact ⟨0, Nat.zero_le _, rfl, fun j x h => absurd h (Nat.not_lt_zero _)⟩
      case round =>
        obtain ⟨k, hk, rfl, HK⟩ := hrel
        by_cases hlt : k < ls.length
        · have hne : ls ≠ [] := by intro e; subst e; simp at hlt
          obtain ⟨b1, o1, rfl, q1, r1⟩ := HW4.out.cell hne
          have g1 := r1 k _ (List.getElem?_eq_getElem hlt)
          have p1 := HW4.out.cap
          have HX := Lib.hid (List.getElem?_eq_getElem hlt)
          generalize ls[k] = x at *
          clear r1 hne
          by_cases h60 : 60 < x.size
          · have d3 : decide ((60 : Int) < (x.size : Int)) = true := by simp; omega
            go_wp2_with fail
            go_ret
            exact ⟨rfl, k4⟩
          · have d3 : decide ((60 : Int) < (x.size : Int)) = false := by simp; omega
            go_wp2_with fail
            go_round
            case rel =>
              refine ⟨k + 1, by omega, by go_num, fun j y hj hy => ?_⟩
              by_cases e : j = k
              · subst e
                rw [HX.out] at hy
                cases hy
                omega
              · exact HK.out j y (by omega) hy
            case measure => simp [intOf]; omega
        · have hkk : k = ls.length := by omega
          have HXX := Lib.hid (show ∀ x ∈ ls, x.size ≤ 60 by
            intro x hx
            obtain ⟨j, hj⟩ := List.getElem?_of_mem hx
            exact HK.out j x (by have := (List.getElem?_eq_some_iff.1 hj).1; omega) hj)
          clear hkk
          have CJ := Lib.hid (joinS_any a cap ls w4 HW4.out hl20 HXX.out)
          have CR := Lib.hid (fun w5 (b5 : Below w4.heap.size w4 w5) => refJoin_any a cap ls w5 (HW4.out.below b5) hl20 HXX.out)
          obtain ⟨jt, hjt⟩ : ∃ jt : ByteArray, (⟨(Lib.join (ls.map (·.data.toList)) [32]).toArray⟩ : ByteArray) = jt := ⟨_, rfl⟩
          rw [hjt] at CJ CR
          have HJD := Lib.hid (show jt.data.toList = Lib.join (ls.map (·.data.toList)) [32] by rw [← hjt])
          have hjs : jt.size ≤ 1220 := by
            have := joinTo_len HXX.out hl20 ls.length
            unfold joinTo at this
            rw [List.take_length] at this
            rw [Lib.size_eq, HJD.out]
            exact this
          clear hjt
          go_wp2_with fail
          refine CJ.out.mono ?_
          rintro e w5 ⟨rfl, b5⟩
          have CR5 := Lib.hid (CR.out w5 b5)
          have k5 := k4.trans (b5.mono k4.size)
          have HW5 := Lib.hid (HW4.out.below b5)
          clear b5 CR CJ
          go_wp2_with fail
          refine CR5.out.mono ?_
          rintro e w6 ⟨rfl, rfl⟩
          go_wp2_with fail
          go_loopw [63] (fun i wr => ∃ k : Nat, k ≤ ls.length ∧ i = .int .i64 k ∧ Hid (∀ (j : Nat) x, j < k → ls[j]? = some x → rightB x.data.toList = true) ∧ Below w5.heap.size w5 wr) (fun i _ => ls.length - (intOf i).toNat)
          case atStart => exact ⟨0, Nat.zero_le _, rfl, (fun j x h => absurd h (Nat.not_lt_zero _)), Below.refl _ _⟩
          case round =>
            obtain ⟨k', hk', rfl, HK', hbw⟩ := hrel
            by_cases hlt' : k' < ls.length
            · have hne : ls ≠ [] := by intro e; subst e; simp at hlt'
              obtain ⟨b1, o1, rfl, q1, r1⟩ := (HW5.out.below hbw).cell hne
              have g1 := r1 k' _ (List.getElem?_eq_getElem hlt')
              have p1 := HW5.out.cap
              have HX := Lib.hid (List.getElem?_eq_getElem hlt')
              have hx60 := HXX.out _ (List.getElem_mem hlt')
              generalize ls[k'] = x at *
              clear r1 hne
              cases hr : rightB x.data.toList with
              | false =>
                have HR := Lib.hid hr
                clear hr
                go_wp2_with fail
                refine (refRight_any _ _ (by omega)).mono ?_
                rintro e w7 ⟨rfl, b7⟩
                rw [HR.out]
                go_wp2_with fail
                go_ret
                have k6 := k5.trans (hbw.mono k5.size)
                exact ⟨rfl, k6.trans (b7.mono k6.size)⟩
              | true =>
                have HR := Lib.hid hr
                clear hr
                go_wp2_with fail
                refine (refRight_any _ _ (by omega)).mono ?_
                rintro e w7 ⟨rfl, b7⟩
                rw [HR.out]
                go_wp2_with fail
                go_roundw
                case rel =>
                  refine ⟨k' + 1, by omega, by go_num, (fun j y hj hy => ?_), hbw.trans (b7.mono hbw.size)⟩
                  by_cases e : j = k'
                  · subst e
                    rw [HX.out] at hy
                    cases hy
                    exact HR.out
                  · exact HK'.out j y (by omega) hy
                case measure => simp [intOf]; omega
            · have HAR := Lib.hid (show ∀ x ∈ ls.map (·.data.toList), rightB x = true by
                intro x hx
                obtain ⟨y, hy, rfl⟩ := List.mem_map.1 hx
                obtain ⟨j, hj⟩ := List.getElem?_of_mem hy
                exact HK'.out j y (by have := (List.getElem?_eq_some_iff.1 hj).1; omega) hj)
              have HSJ := Lib.hid (split_join HAR.out)
              rw [← HJD.out] at HSJ
              have k6 := k5.trans (hbw.mono k5.size)
              have HW6 := Lib.hid (HW5.out.below hbw)
              have C3 := Lib.hid (fun w => split_any jt w (by omega))
              clear HK' HK hbw
              go_wp2_with fail
              refine (C3.out _).mono ?_
              rintro e w8 ⟨v8, rfl, o8, b8⟩
              rw [HSJ.out.1] at o8
              rw [HSJ.out.2]
              obtain ⟨a8, c8, rfl, s8⟩ := strs_own o8
              rw [map_mk] at s8
              rw [map_mk]
              have SM2 := Lib.hid (same_any a8 a c8 cap ls w8 s8 (HW6.out.below b8) (by omega))
              clear o8 s8
              go_wp2_with fail
              refine SM2.out.mono ?_
              rintro e w9 ⟨rfl, b9⟩
              have k8 := k6.trans (b8.mono k6.size)
              have k9 := k8.trans (b9.mono k8.size)
              clear b8 b9 k8
              go_wp2_with fail
              go_ret
              exact ⟨rfl, k9⟩

theorem Tryd.cells9 : Tryd.prog.cellsOf 9 = 1 := by kernel_rfl
theorem Tryd.laidOut : laidOutB Tryd.prog = true := by kernel_rfl
theorem own : ownKnob Tryd.prog.godebug = none := by kernel_rfl

set_option maxRecDepth 100000 in
theorem splits_lifted (os : Os) (started : os.Started) (H : Type) (enc : TypeId × Value → H) :
    ReturnsInHanded {} Tryd.checked os 5 .any (fun w args => (Rows.labelSplitsSpec.pre enc Tryd.prog Tryd.f5 [] false w args ∧ laidMetH Tryd.prog Rows.labelSplitsRow.laid w) ∧ sizedMet enc Tryd.prog Tryd.f5 (OpenSpec.ofChange Rows.labelSplitsSpec) false w args)
      (Rows.labelSplitsSpec.post enc Tryd.prog Tryd.f5 false true false false) := by
  refine returnsInHanded_of_change_and (C := Tryd.checked) (X := fun w _ => laidMetH Tryd.prog Rows.labelSplitsRow.laid w) (fun _ _ _ hh h => h.of_heap hh) own started (by kernel_rfl) Tryd.func5
    (ChangeSpec.witness_shaped (enc := enc) (C := Tryd.checked) (os := os) (X := fun w _ => laidMetH Tryd.prog Rows.labelSplitsRow.laid w) false (World.laidAll Tryd.prog os Rows.labelSplitsRow.laid) #[.string ⟨#[]⟩, .slice none 0 0] 8 (World.laidAll_os _ _ _)
      (World.shaped_of_ZipB (by kernel_rfl) (by kernel_rfl)) (by kernel_rfl) (by kernel_rfl) (by kernel_rfl)
      (by rw [MakeChecks.laidMetH_plain _ _ _ (by kernel_rfl)]; exact laidMet_laidAll _ (by kernel_rfl) (by kernel_rfl))) ?_
  intro W base args ds gs before hval0 hW _ _ hL _
  have hval : ∀ (j : Nat) t v, Tryd.f5.params[j]? = some t → args[j]? = some v → Value.okWide Tryd.prog W .any base t v := hval0
  have hW' := hW
  obtain ⟨p, q, hA0, hV, rfl, _, _⟩ := hW
  have hA : DataW.TrodAll enc Tryd.prog W 0 (fun _ => true) true Tryd.f5.params.toList args.toList ds p := hA0
  rw [Tryd.params5] at hA hval
  obtain ⟨v0, v1, d0, d1, p0, p1, rfl, rfl, rfl, h0, h1⟩ := trodAll_two hA
  obtain ⟨rfl, rfl⟩ := trodVars_none hV
  obtain ⟨s0, rfl, rfl, rfl, hs0⟩ := Go.ChangeMaps.open_string Tryd.underlying9 (hval 0 9 v0 rfl rfl) h0
  obtain ⟨a0, len, cap, rfl⟩ := okWide_slice Tryd.underlying25 (hval 1 25 v1 rfl rfl)
  have h1k := h1
  obtain ⟨fuel, hf⟩ := h1
  simp only [List.append_nil, List.nil_append] at hW'
  have hlt : ∀ x ∈ p1, x.block < W.heap.size := fun x hx => by simpa using hW'.lt x (by simpa using hx)
  have fin : ∀ ls : List ByteArray, len = ls.length → ls.length ≤ maxLen → StrsP W a0 cap ls → Calls Tryd.checked.prog 5 #[.string s0, .slice a0 len cap] W fun e W' => ∃ v, e = Ending.returned v ∧ Rows.labelSplitsSpec.post enc Tryd.checked.prog Tryd.f5 false true false false W #[.string s0, .slice a0 len cap] v W' := by
    intro ls hlen hm hS
    subst hlen
    refine (splits_walk s0 a0 cap ls W hs0 hS hm).mono fun e W' ⟨he, hb⟩ => ?_
    subst he
    exact ⟨_, rfl, _, _, _, [], p1, [], hW', trodAll_mk1 (shut_bool Tryd.underlying4 _), trodAll_mk2 (Go.ChangeMaps.shut_string Tryd.underlying9 hs0) (Below.trod Tryd.laidOut (by kernel_rfl) (of_decide_eq_true (by kernel_rfl)) h1k hb hlt), rfl, hb.frame _, fun h => by cases h⟩
  rcases open_strings Tryd.underlying25 Tryd.underlying9 Tryd.cells9 hf with ⟨hcs, hx⟩ | ⟨a, len', cap', ss, hcs, _, hl, hm, hz, hx, hcell, hws⟩
  · simp [Value.cells] at hcs
    obtain ⟨rfl, rfl, rfl⟩ := hcs
    exact fin [] rfl (by simp) ⟨by simp, fun h => absurd rfl h⟩
  · simp [Value.cells] at hcs
    obtain ⟨rfl, rfl, rfl⟩ := hcs
    simp only [if_true] at hz
    have hlen : (ss.take len).length = len := by rw [List.length_take]; omega
    refine fin (ss.take len) hlen.symm (by omega) ⟨by omega, fun hne => ?_⟩
    have hpos : 0 < len := by
      rcases Nat.eq_zero_or_pos len with h | h
      · subst h; simp at hne
      · exact h
    obtain ⟨b, off, spot⟩ := a
    have hspot : spot = none := by simpa [Addr.add] using World.cell?_spot (hcell 0 (by omega))
    subst hspot
    have hc0 := hcell 0 (by omega)
    refine ⟨b, off, rfl, ?_, fun j x hj => ?_⟩
    · have := World.block_lt_of_cell? W _ hc0
      simpa [Addr.add] using this
    · have hj2 := (List.getElem?_eq_some_iff.1 hj).1
      rw [List.length_take] at hj2
      rw [← Go.WideShapes.add_plain, hcell j (by omega)]
      rw [List.getElem?_take] at hj
      split at hj
      · rw [List.getD_eq_getElem?_getD, hj]; rfl
      · cases hj

theorem splits_row : Rows.LabelSplitsSaid :=
  OpenClaim.holds_of_wide 5 Tryd.f5 rfl rfl rfl rfl rfl rfl rfl ⟨rfl, rfl, rfl, rfl, rfl⟩ rfl rfl rfl rfl rfl (by kernel_rfl) Tryd.func5 (by kernel_rfl)
    (of_decide_eq_true (by kernel_rfl)) (by unfold Func.isWrapper; first | (rw [if_pos (by decide +kernel)]; kernel_rfl) | (rw [if_neg (by decide +kernel)]; exact ⟨rfl, rfl⟩))
    (fun os started H enc _ => splits_lifted os started H enc)

theorem labelSplits_holds : Rows.LabelSplitsCardSaid :=
  Claim7.holds_tied_plain_at .later [] [.data, .pinned] true _ false splits_row (fun _ h => by cases h) (by kernel_rfl) (fun _ h => by cases h) labelSplits_row_tie rfl ⟨rfl, rfl⟩ (by kernel_rfl) rfl
    (fun f fn hf hfn => by
      obtain rfl : f = 5 := Option.some.inj ((show Tryd.prog.funcNamed Rows.labelSplitsRow.func = some 5 by kernel_rfl).symm.trans hf) |>.symm
      obtain rfl : fn = Tryd.f5 := (Option.some.inj (Tryd.func5.symm.trans hfn)).symm
      exact ⟨by kernel_rfl, fun j t ht => by
        rw [Tryd.params5] at ht
        have hm : t ∈ [9, 25] := by simpa using Array.mem_of_getElem? ht
        have hall : ([9, 25].all fun u => !Tryd.prog.wantsStandIn u) = true := by kernel_rfl
        exact (show Tryd.prog.wantsStandIn t = false by simpa using List.all_eq_true.1 hall t hm)⟩)
    (by kernel_rfl)
#print axioms labelSplits_holds
end Go.Proofs.YtobicfkbpoimnaaDoor
