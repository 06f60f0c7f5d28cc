/- The document's own words: what Next of package packhorseref01 answers. -/
import Derived.Test.YtobicfkbpoimnaaDoorRefCut
import Derived.Test.YtobicfkbpoimnaaDoorPlain6
namespace Go.Proofs.YtobicfkbpoimnaaDoor
open Go.RowKit

/-- Head and tail together are what follows. -/
theorem nextRaw_of (s hdb F : ByteArray) (m : Nat) (hm : td s.data.toList s.size = m) (hh : s.extract 0 (s.size - m) = hdb) (hF : F.data.toList = oneMoreL (tailL s.data.toList)) : (hdb ++ F).data.toList = nextRaw s.data.toList := by
  rw [← hh, Lib.extract_upto]
  unfold nextRaw headL
  rw [← Lib.size_eq, hm, ← hF]
  simp

theorem tail_of (s : ByteArray) (m : Nat) (hm : td s.data.toList s.size = m) : tailL s.data.toList = s.data.toList.drop (s.size - m) := by
  unfold tailL
  rw [← Lib.size_eq, hm]

theorem app_size (a b : ByteArray) : (a ++ b).size = a.size + b.size := by simp

theorem next_bad {l : List UInt8} (hr : rightB (nextRaw l) = false) : nextS l = [] ∧ nextE l = 11 := by simp [nextS, nextE, nextO, hr]
theorem next_good {l : List UInt8} (h : rightB l = true) (hr : rightB (nextRaw l) = true) : nextS l = nextRaw l ∧ nextE l = 0 := by simp [nextS, nextE, nextO, h, hr]

set_option maxHeartbeats 4000000 in
theorem refNext_any (s : ByteArray) (w : World) (hs : s.size ≤ 1000000) :
    Calls Tryd.prog 15 #[.string s] w fun e w' => e = .returned (.tuple #[.string ⟨(nextS s.data.toList).toArray⟩, .int .i64 (nextE s.data.toList)]) ∧ Below w.heap.size w w' := by
  cases hr : rightB s.data.toList with
  | false =>
    have h1 := Lib.hid (show nextS s.data.toList = [] ∧ nextE s.data.toList = 11 by simp [nextS, nextE, nextO, hr])
    have HR := Lib.hid hr
    clear hr
    go_enter Tryd.func15, Tryd.ntmps15
    go_wp2_with fail
    refine (refRight_any _ _ hs).mono ?_
    rintro e w1 ⟨rfl, b1⟩
    rw [HR.out]
    go_wp2_with fail
    go_ret2
    exact ⟨by rw [h1.out.1, h1.out.2]; rfl, b1⟩
  | true =>
    have HR := Lib.hid hr
    have hlen := right_len hr
    rw [← Lib.size_eq] at hlen
    clear hr
    have HL := Lib.hid (Lib.size_eq s)
    have hm := td_le s.data.toList s.size
    have HTI := Lib.hid (td_in s.data.toList s.size)
    have HTO := Lib.hid (td_out s.data.toList s.size)
    obtain ⟨m, hmd⟩ : ∃ m, td s.data.toList s.size = m := ⟨_, rfl⟩
    rw [hmd] at hm HTI HTO
    have hms : m < s.size := by
      obtain ⟨hcs, h1, h2, h3, _⟩ := lab_parts HR.out
      have hp : 0 < hcs.flatten.length := by
        have := (flatten_len h2).1
        have : 0 < hcs.length := List.length_pos_iff.2 h1
        omega
      rw [h3] at hp
      unfold headL at hp
      rw [← Lib.size_eq, hmd, List.length_take, ← Lib.size_eq] at hp
      omega
    have HMD := Lib.hid hmd
    clear hmd
    obtain ⟨hdb, hhb⟩ : ∃ hdb : ByteArray, s.extract 0 (s.size - m) = hdb := ⟨_, rfl⟩
    have hbs : hdb.size = s.size - m := by rw [← hhb, ByteArray.size_extract]; omega
    have hb1 : hdb.size + m ≤ s.size := by omega
    have hb2 : s.size ≤ hdb.size + m := by omega
    clear hbs
    go_enter Tryd.func15, Tryd.ntmps15
    go_wp2_with fail
    refine (refRight_any _ _ hs).mono ?_
    rintro e w1 ⟨rfl, b1⟩
    rw [HR.out]
    go_wp2_with fail
    go_loop [4] (fun i => ∃ k : Nat, k ≤ m ∧ i = .int .i64 k) (fun i => m - (intOf i).toNat)
    case atStart => exact ⟨0, Nat.zero_le _, rfl⟩
    case round =>
      obtain ⟨k, hk, rfl⟩ := hrel
      by_cases hks : k < s.size
      · have hb := run_byte s (s.size - 1 - k) (by omega)
        have e1 : ((s.size - 1 - k : Nat) : Int) = (s.size : Int) - 1 - (k : Int) := by omega
        rw [e1] at hb
        clear e1
        by_cases hkm : k < m
        · have hd := HTI.out k hkm
          have hcb : 48 ≤ (s.data.toList.getD (s.size - 1 - k) 0).toNat ∧ (s.data.toList.getD (s.size - 1 - k) 0).toNat ≤ 57 := by
            unfold isDg at hd
            generalize s.data.toList.getD (s.size - 1 - k) 0 = c at *
            simpa using hd
          clear hd
          generalize (s.data.toList.getD (s.size - 1 - k) 0).toNat = c at *
          obtain ⟨c1, c2⟩ := hcb
          go_wp2_with fail
          go_round
          case rel => exact ⟨k + 1, by omega, by go_num⟩
          case measure => simp [intOf]; omega
        · have hkm' : k = m := by omega
          subst hkm'
          have hd := HTO.out hks
          have hcb : ¬ (48 ≤ (s.data.toList.getD (s.size - 1 - k) 0).toNat ∧ (s.data.toList.getD (s.size - 1 - k) 0).toNat ≤ 57) := by
            unfold isDg at hd
            generalize s.data.toList.getD (s.size - 1 - k) 0 = c at *
            simpa using hd
          clear hd
          generalize (s.data.toList.getD (s.size - 1 - k) 0).toNat = c at *
          have hcc : c < 48 ∨ 57 < c := by omega
          clear hcb
          rcases hcc with hcc | hcc
          · have d48 : decide ((48 : Int) ≤ (c : Int)) = false := by simp; omega
            go_wp2_with fail
            go_loop [6, 7, 8] (fun tl cy i => ∃ (j kc : Nat) (tb : ByteArray), s.size ≤ j + k ∧ j ≤ s.size ∧ i = .int .i64 ((j : Int) - 1) ∧ tl = .string tb ∧ Hid (tb.size + j = s.size) ∧ cy = .int .i64 kc ∧ kc ≤ 1 ∧ Hid (rt (s.data.toList.drop j) = (tb.data.toList, kc))) (fun _ _ i => (intOf i + 1).toNat)
            case atStart => exact ⟨s.size, 1, ⟨#[]⟩, by omega, Nat.le_refl _, rfl, rfl, Nat.zero_add _, rfl, Nat.le_refl _, by rw [HL.out, List.drop_length]; rfl⟩
            case round =>
              obtain ⟨j, kc, tb, hj1, hj2, rfl, rfl, HTB, rfl, hkc, HRT⟩ := hrel
              by_cases hjm : s.size - k < j
              · have hbj := run_byte s (j - 1) (by omega)
                have e1 : ((j - 1 : Nat) : Int) = (j : Int) - 1 := by omega
                rw [e1] at hbj
                have hdg := HTI.out (s.size - j) (by omega)
                rw [show s.size - 1 - (s.size - j) = j - 1 from by omega] at hdg
                have HRD := Lib.hid (rt_drop s.data.toList (j - 1) (by rw [← HL.out]; omega))
                rw [show j - 1 + 1 = j from by omega, HRT.out] at HRD
                have hcb2 : 48 ≤ (s.data.toList.getD (j - 1) 0).toNat ∧ (s.data.toList.getD (j - 1) 0).toNat ≤ 57 := by
                  unfold isDg at hdg
                  generalize s.data.toList.getD (j - 1) 0 = c2 at *
                  simpa using hdg
                clear hdg e1
                generalize (s.data.toList.getD (j - 1) 0).toNat = c2 at *
                obtain ⟨g1, g2⟩ := hcb2
                have htbs : tb.size ≤ 1000000 := by have := HTB.out; omega
                go_wp2_with fail
                go_round
                case rel =>
                  have ht := ten_cut ⟨(c2 - 48 + kc) % 10, by omega⟩
                  simp only at ht
                  refine ⟨j - 1, (c2 - 48 + kc) / 10, _, by omega, by omega, ?_, rfl, ?_, ?_, by omega, ?_⟩
                  · congr 1; omega
                  · have h1 := HTB.out
                    show _ = _
                    rw [app_size, ht]
                    show 1 + _ + _ = _
                    omega
                  · congr 1; omega
                  · show _ = _
                    rw [HRD.out, ht]
                    simp
                case measure => simp [intOf]; omega
              · have hj : j = s.size - k := by omega
                have HTL := Lib.hid (tail_of s k HMD.out)
                rw [← hj] at HTL
                have HTM := Lib.hid (tailL_mem s.data.toList)
                rw [HTL.out] at HTM
                have HFT := Lib.hid (fun hne => rt_more HTM.out hne)
                rw [HRT.out] at HFT
                have hts := HTB.out
                have htbs : tb.size ≤ 1000000 := by omega
                clear hts hj
                by_cases hk0 : k = 0
                · have d0 : ((k : Int) == 0) = true := by simp; omega
                  have HF := Lib.hid (show (⟨#[48]⟩ : ByteArray).data.toList = oneMoreL (tailL s.data.toList) by
                    rw [HTL.out, List.drop_of_length_le (by rw [← HL.out]; omega)]; rfl)
                  have HF2 := Lib.hid (show (⟨#[48]⟩ : ByteArray).size ≤ 100 by decide)
                  clear hk0
                  obtain ⟨nx, hnx⟩ : ∃ nx : ByteArray, hdb ++ ⟨#[48]⟩ = nx := ⟨_, rfl⟩
                  have HND := Lib.hid (show nx.data.toList = nextRaw s.data.toList by rw [← hnx]; exact nextRaw_of s hdb _ k HMD.out hhb HF.out)
                  have hns : nx.size ≤ 1000000 := by rw [← hnx, app_size]; have := HF2.out; omega
                  cases hrn : rightB (nextRaw s.data.toList) with
                  | false =>
                    have HQ := Lib.hid (next_bad hrn)
                    have HRN := Lib.hid hrn
                    clear hrn
                    go_wp2_with fail
                    refine (refRight_any _ _ hns).mono ?_
                    rintro e w2 ⟨rfl, b2⟩
                    rw [HND.out, HRN.out]
                    go_wp2_with fail
                    go_ret2
                    exact ⟨by rw [HQ.out.1, HQ.out.2]; rfl, b1.trans (b2.mono b1.size)⟩
                  | true =>
                    have HQ := Lib.hid (next_good HR.out hrn)
                    have HRN := Lib.hid hrn
                    clear hrn
                    go_wp2_with fail
                    refine (refRight_any _ _ hns).mono ?_
                    rintro e w2 ⟨rfl, b2⟩
                    rw [HND.out, HRN.out]
                    go_wp2_with fail
                    go_ret2
                    exact ⟨by rw [HQ.out.1, HQ.out.2, ← HND.out, Lib.mk_data]; rfl, b1.trans (b2.mono b1.size)⟩
                · have d0 : ((k : Int) == 0) = false := by simp; omega
                  have hne : s.data.toList.drop j ≠ [] := by
                    intro e
                    have := congrArg List.length e
                    rw [List.length_drop, ← HL.out] at this
                    simp at this
                    omega
                  have hkk : kc = 0 ∨ kc = 1 := by omega
                  rcases hkk with rfl | rfl
                  · have HF := Lib.hid (show tb.data.toList = oneMoreL (tailL s.data.toList) by
                      rw [HTL.out, ← HFT.out hne]; rfl)
                    have HF2 := Lib.hid (show tb.size ≤ 100 by have := HTB.out; omega)
                    clear hk0 hne
                    obtain ⟨nx, hnx⟩ : ∃ nx : ByteArray, hdb ++ tb = nx := ⟨_, rfl⟩
                    have HND := Lib.hid (show nx.data.toList = nextRaw s.data.toList by rw [← hnx]; exact nextRaw_of s hdb _ k HMD.out hhb HF.out)
                    have hns : nx.size ≤ 1000000 := by rw [← hnx, app_size]; have := HF2.out; omega
                    cases hrn : rightB (nextRaw s.data.toList) with
                    | false =>
                      have HQ := Lib.hid (next_bad hrn)
                      have HRN := Lib.hid hrn
                      clear hrn
                      go_wp2_with fail
                      refine (refRight_any _ _ hns).mono ?_
                      rintro e w2 ⟨rfl, b2⟩
                      rw [HND.out, HRN.out]
                      go_wp2_with fail
                      go_ret2
                      exact ⟨by rw [HQ.out.1, HQ.out.2]; rfl, b1.trans (b2.mono b1.size)⟩
                    | true =>
                      have HQ := Lib.hid (next_good HR.out hrn)
                      have HRN := Lib.hid hrn
                      clear hrn
                      go_wp2_with fail
                      refine (refRight_any _ _ hns).mono ?_
                      rintro e w2 ⟨rfl, b2⟩
                      rw [HND.out, HRN.out]
                      go_wp2_with fail
                      go_ret2
                      exact ⟨by rw [HQ.out.1, HQ.out.2, ← HND.out, Lib.mk_data]; rfl, b1.trans (b2.mono b1.size)⟩
                  · have HF := Lib.hid (show (⟨#[49]⟩ ++ tb : ByteArray).data.toList = oneMoreL (tailL s.data.toList) by
                      rw [HTL.out, ← HFT.out hne]; simp)
                    have HF2 := Lib.hid (show (⟨#[49]⟩ ++ tb : ByteArray).size ≤ 100 by
                      rw [app_size]
                      have := HTB.out
                      show 1 + _ ≤ _
                      omega)
                    clear hk0 hne
                    obtain ⟨nx, hnx⟩ : ∃ nx : ByteArray, hdb ++ (⟨#[49]⟩ ++ tb) = nx := ⟨_, rfl⟩
                    have HND := Lib.hid (show nx.data.toList = nextRaw s.data.toList by rw [← hnx]; exact nextRaw_of s hdb _ k HMD.out hhb HF.out)
                    have hns : nx.size ≤ 1000000 := by rw [← hnx, app_size]; have := HF2.out; omega
                    cases hrn : rightB (nextRaw s.data.toList) with
                    | false =>
                      have HQ := Lib.hid (next_bad hrn)
                      have HRN := Lib.hid hrn
                      clear hrn
                      go_wp2_with fail
                      refine (refRight_any _ _ hns).mono ?_
                      rintro e w2 ⟨rfl, b2⟩
                      rw [HND.out, HRN.out]
                      go_wp2_with fail
                      go_ret2
                      exact ⟨by rw [HQ.out.1, HQ.out.2]; rfl, b1.trans (b2.mono b1.size)⟩
                    | true =>
                      have HQ := Lib.hid (next_good HR.out hrn)
                      have HRN := Lib.hid hrn
                      clear hrn
                      go_wp2_with fail
                      refine (refRight_any _ _ hns).mono ?_
                      rintro e w2 ⟨rfl, b2⟩
                      rw [HND.out, HRN.out]
                      go_wp2_with fail
                      go_ret2
                      exact ⟨by rw [HQ.out.1, HQ.out.2, ← HND.out, Lib.mk_data]; rfl, b1.trans (b2.mono b1.size)⟩
          · have d48 : decide ((48 : Int) ≤ (c : Int)) = true := by simp; omega
            have d57 : decide ((c : Int) ≤ (57 : Int)) = false := by simp; omega
            go_wp2_with fail
            go_loop [6, 7, 8] (fun tl cy i => ∃ (j kc : Nat) (tb : ByteArray), s.size ≤ j + k ∧ j ≤ s.size ∧ i = .int .i64 ((j : Int) - 1) ∧ tl = .string tb ∧ Hid (tb.size + j = s.size) ∧ cy = .int .i64 kc ∧ kc ≤ 1 ∧ Hid (rt (s.data.toList.drop j) = (tb.data.toList, kc))) (fun _ _ i => (intOf i + 1).toNat)
            case atStart => exact ⟨s.size, 1, ⟨#[]⟩, by omega, Nat.le_refl _, rfl, rfl, Nat.zero_add _, rfl, Nat.le_refl _, by rw [HL.out, List.drop_length]; rfl⟩
            case round =>
              obtain ⟨j, kc, tb, hj1, hj2, rfl, rfl, HTB, rfl, hkc, HRT⟩ := hrel
              by_cases hjm : s.size - k < j
              · have hbj := run_byte s (j - 1) (by omega)
                have e1 : ((j - 1 : Nat) : Int) = (j : Int) - 1 := by omega
                rw [e1] at hbj
                have hdg := HTI.out (s.size - j) (by omega)
                rw [show s.size - 1 - (s.size - j) = j - 1 from by omega] at hdg
                have HRD := Lib.hid (rt_drop s.data.toList (j - 1) (by rw [← HL.out]; omega))
                rw [show j - 1 + 1 = j from by omega, HRT.out] at HRD
                have hcb2 : 48 ≤ (s.data.toList.getD (j - 1) 0).toNat ∧ (s.data.toList.getD (j - 1) 0).toNat ≤ 57 := by
                  unfold isDg at hdg
                  generalize s.data.toList.getD (j - 1) 0 = c2 at *
                  simpa using hdg
                clear hdg e1
                generalize (s.data.toList.getD (j - 1) 0).toNat = c2 at *
                obtain ⟨g1, g2⟩ := hcb2
                have htbs : tb.size ≤ 1000000 := by have := HTB.out; omega
                go_wp2_with fail
                go_round
                case rel =>
                  have ht := ten_cut ⟨(c2 - 48 + kc) % 10, by omega⟩
                  simp only at ht
                  refine ⟨j - 1, (c2 - 48 + kc) / 10, _, by omega, by omega, ?_, rfl, ?_, ?_, by omega, ?_⟩
                  · congr 1; omega
                  · have h1 := HTB.out
                    show _ = _
                    rw [app_size, ht]
                    show 1 + _ + _ = _
                    omega
                  · congr 1; omega
                  · show _ = _
                    rw [HRD.out, ht]
                    simp
                case measure => simp [intOf]; omega
              · have hj : j = s.size - k := by omega
                have HTL := Lib.hid (tail_of s k HMD.out)
                rw [← hj] at HTL
                have HTM := Lib.hid (tailL_mem s.data.toList)
                rw [HTL.out] at HTM
                have HFT := Lib.hid (fun hne => rt_more HTM.out hne)
                rw [HRT.out] at HFT
                have hts := HTB.out
                have htbs : tb.size ≤ 1000000 := by omega
                clear hts hj
                by_cases hk0 : k = 0
                · have d0 : ((k : Int) == 0) = true := by simp; omega
                  have HF := Lib.hid (show (⟨#[48]⟩ : ByteArray).data.toList = oneMoreL (tailL s.data.toList) by
                    rw [HTL.out, List.drop_of_length_le (by rw [← HL.out]; omega)]; rfl)
                  have HF2 := Lib.hid (show (⟨#[48]⟩ : ByteArray).size ≤ 100 by decide)
                  clear hk0
                  obtain ⟨nx, hnx⟩ : ∃ nx : ByteArray, hdb ++ ⟨#[48]⟩ = nx := ⟨_, rfl⟩
                  have HND := Lib.hid (show nx.data.toList = nextRaw s.data.toList by rw [← hnx]; exact nextRaw_of s hdb _ k HMD.out hhb HF.out)
                  have hns : nx.size ≤ 1000000 := by rw [← hnx, app_size]; have := HF2.out; omega
                  cases hrn : rightB (nextRaw s.data.toList) with
                  | false =>
                    have HQ := Lib.hid (next_bad hrn)
                    have HRN := Lib.hid hrn
                    clear hrn
                    go_wp2_with fail
                    refine (refRight_any _ _ hns).mono ?_
                    rintro e w2 ⟨rfl, b2⟩
                    rw [HND.out, HRN.out]
                    go_wp2_with fail
                    go_ret2
                    exact ⟨by rw [HQ.out.1, HQ.out.2]; rfl, b1.trans (b2.mono b1.size)⟩
                  | true =>
                    have HQ := Lib.hid (next_good HR.out hrn)
                    have HRN := Lib.hid hrn
                    clear hrn
                    go_wp2_with fail
                    refine (refRight_any _ _ hns).mono ?_
                    rintro e w2 ⟨rfl, b2⟩
                    rw [HND.out, HRN.out]
                    go_wp2_with fail
                    go_ret2
                    exact ⟨by rw [HQ.out.1, HQ.out.2, ← HND.out, Lib.mk_data]; rfl, b1.trans (b2.mono b1.size)⟩
                · have d0 : ((k : Int) == 0) = false := by simp; omega
                  have hne : s.data.toList.drop j ≠ [] := by
                    intro e
                    have := congrArg List.length e
                    rw [List.length_drop, ← HL.out] at this
                    simp at this
                    omega
                  have hkk : kc = 0 ∨ kc = 1 := by omega
                  rcases hkk with rfl | rfl
                  · have HF := Lib.hid (show tb.data.toList = oneMoreL (tailL s.data.toList) by
                      rw [HTL.out, ← HFT.out hne]; rfl)
                    have HF2 := Lib.hid (show tb.size ≤ 100 by have := HTB.out; omega)
                    clear hk0 hne
                    obtain ⟨nx, hnx⟩ : ∃ nx : ByteArray, hdb ++ tb = nx := ⟨_, rfl⟩
                    have HND := Lib.hid (show nx.data.toList = nextRaw s.data.toList by rw [← hnx]; exact nextRaw_of s hdb _ k HMD.out hhb HF.out)
                    have hns : nx.size ≤ 1000000 := by rw [← hnx, app_size]; have := HF2.out; omega
                    cases hrn : rightB (nextRaw s.data.toList) with
                    | false =>
                      have HQ := Lib.hid (next_bad hrn)
                      have HRN := Lib.hid hrn
                      clear hrn
                      go_wp2_with fail
                      refine (refRight_any _ _ hns).mono ?_
                      rintro e w2 ⟨rfl, b2⟩
                      rw [HND.out, HRN.out]
                      go_wp2_with fail
                      go_ret2
                      exact ⟨by rw [HQ.out.1, HQ.out.2]; rfl, b1.trans (b2.mono b1.size)⟩
                    | true =>
                      have HQ := Lib.hid (next_good HR.out hrn)
                      have HRN := Lib.hid hrn
                      clear hrn
                      go_wp2_with fail
                      refine (refRight_any _ _ hns).mono ?_
                      rintro e w2 ⟨rfl, b2⟩
                      rw [HND.out, HRN.out]
                      go_wp2_with fail
                      go_ret2
                      exact ⟨by rw [HQ.out.1, HQ.out.2, ← HND.out, Lib.mk_data]; rfl, b1.trans (b2.mono b1.size)⟩
                  · have HF := Lib.hid (show (⟨#[49]⟩ ++ tb : ByteArray).data.toList = oneMoreL (tailL s.data.toList) by
                      rw [HTL.out, ← HFT.out hne]; simp)
                    have HF2 := Lib.hid (show (⟨#[49]⟩ ++ tb : ByteArray).size ≤ 100 by
                      rw [app_size]
                      have := HTB.out
                      show 1 + _ ≤ _
                      omega)
                    clear hk0 hne
                    obtain ⟨nx, hnx⟩ : ∃ nx : ByteArray, hdb ++ (⟨#[49]⟩ ++ tb) = nx := ⟨_, rfl⟩
                    have HND := Lib.hid (show nx.data.toList = nextRaw s.data.toList by rw [← hnx]; exact nextRaw_of s hdb _ k HMD.out hhb HF.out)
                    have hns : nx.size ≤ 1000000 := by rw [← hnx, app_size]; have := HF2.out; omega
                    cases hrn : rightB (nextRaw s.data.toList) with
                    | false =>
                      have HQ := Lib.hid (next_bad hrn)
                      have HRN := Lib.hid hrn
                      clear hrn
                      go_wp2_with fail
                      refine (refRight_any _ _ hns).mono ?_
                      rintro e w2 ⟨rfl, b2⟩
                      rw [HND.out, HRN.out]
                      go_wp2_with fail
                      go_ret2
                      exact ⟨by rw [HQ.out.1, HQ.out.2]; rfl, b1.trans (b2.mono b1.size)⟩
                    | true =>
                      have HQ := Lib.hid (next_good HR.out hrn)
                      have HRN := Lib.hid hrn
                      clear hrn
                      go_wp2_with fail
                      refine (refRight_any _ _ hns).mono ?_
                      rintro e w2 ⟨rfl, b2⟩
                      rw [HND.out, HRN.out]
                      go_wp2_with fail
                      go_ret2
                      exact ⟨by rw [HQ.out.1, HQ.out.2, ← HND.out, Lib.mk_data]; rfl, b1.trans (b2.mono b1.size)⟩
      · exact absurd (show k < s.size by omega) hks

end Go.Proofs.YtobicfkbpoimnaaDoor
