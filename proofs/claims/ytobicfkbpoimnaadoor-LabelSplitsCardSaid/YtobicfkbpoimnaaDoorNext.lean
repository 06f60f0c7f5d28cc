/- What digitsAt, oneMore and Next of package label answer. -/
import Derived.Test.YtobicfkbpoimnaaDoorLeaf
import Derived.Test.YtobicfkbpoimnaaDoorPlain2
import Derived.Test.YtobicfkbpoimnaaDoorShelf
import Derived.RegionTactic
import Derived.Deep.QuietTactic
import Derived.BigQuiet
import Derived.Deep.RegionWith
import Derived.ChangeAlike
namespace Go.Proofs.YtobicfkbpoimnaaDoor
open Go.RowKit

set_option maxHeartbeats 1000000 in
theorem digitsAt_any (s : ByteArray) (w : World) (hs : s.size ≤ maxLen) :
    Calls Tryd.prog 25 #[.string s] w fun e w' => e = .returned (.int .i64 ((s.size - td s.data.toList s.size : Nat) : Int)) ∧ Below w.heap.size w w' := by
  unfold maxLen at hs
  go_enter Tryd.func25, Tryd.ntmps25
  go_wp2
  go_loopw [3] (fun n w' => ∃ (pos k : Nat), w' = w.iter s pos ∧ pos ≤ s.size ∧ n = .int .i64 k ∧ k ≤ s.size ∧ Hid (k = begB s.data.toList s.size pos)) (fun _ w' => s.size - w'.iterPos w.heap.size)
  case atStart => exact ⟨0, s.size, rfl, by omega, rfl, by omega, (begB_no rfl).symm⟩
  case round =>
    obtain ⟨pos, k, rfl, hps, rfl, hks, HK⟩ := hrel
    by_cases hp : pos < s.size
    · have hnx : ∀ ty, (Instr.next (.pointer (some ⟨w.heap.size, 0, none⟩)) true ty).run Tryd.prog (w.iter s pos) = _ := fun ty => run_next_any w s pos ty hp
      have hd := Lib.hid (dig_step s pos hp)
      have hw := Lib.hid (decode_wd s pos hp)
      generalize (Utf8.decode s pos).1 = r at *
      generalize (Utf8.decode s pos).2 = wd at *
      go_wp2_with (go_at_call 33; refine (isDigit_any _ _).mono ?_; rintro e w' ⟨rfl, rfl⟩)
      · have h1 : (!isDigB (r : Int)) = true := by assumption
        go_roundw
        case rel =>
          have hd := hd.out
          have hn : isDg (s.data.toList.getD pos 0) = false := by rw [← hd.1]; simpa using h1
          exact ⟨pos + wd, s.size, rfl, hd.2.1, rfl, Nat.le_refl _, (begB_no (hd.2.2.2 hn)).symm⟩
        case measure => have := hw.out; simp; omega
      · have h1 : (!isDigB (r : Int)) = false := by assumption
        have h2 : ((k : Int) == (s.size : Int)) = true := by assumption
        go_roundw
        case rel =>
          have hd := hd.out
          have hn : isDg (s.data.toList.getD pos 0) = true := by rw [← hd.1]; simpa using h1
          have hk : k = s.size := by simp at h2; omega
          have e := hd.2.2.1 hn
          subst e
          exact ⟨pos + 1, pos, rfl, hd.2.1, rfl, by omega, (begB_first hn (by rw [← HK.out, hk]) hp).symm⟩
        case measure => have := hw.out; simp; omega
      · have h1 : (!isDigB (r : Int)) = false := by assumption
        have h2 : ((k : Int) == (s.size : Int)) = false := by assumption
        go_roundw
        case rel =>
          have hd := hd.out
          have hn : isDg (s.data.toList.getD pos 0) = true := by rw [← hd.1]; simpa using h1
          have hk : k ≠ s.size := by intro h; subst h; simp at h2
          have e := hd.2.2.1 hn
          subst e
          exact ⟨pos + 1, k, rfl, hd.2.1, rfl, hks, (HK.out.trans (begB_on hn (by rw [← HK.out]; exact hk)).symm)⟩
        case measure => have := hw.out; simp; omega
    · have hnx : ∀ ty, (Instr.next (.pointer (some ⟨w.heap.size, 0, none⟩)) true ty).run Tryd.prog (w.iter s pos) = _ := fun ty => run_next_end w s pos ty hp
      go_wp2
      go_ret
      have e : pos = s.size := by omega
      subst e
      exact ⟨ret_int (by rw [HK.out, begB_fin]), (Below.refl _ w).alloc (Nat.le_refl _) _⟩

theorem kept_size (s : ByteArray) : (⟨(Lib.trimRightB s.data.toList 57).toArray⟩ : ByteArray).size ≤ s.size := by
  rw [Lib.size_mk, Lib.size_eq]; exact keptL_le _

theorem mk_toList (l : List UInt8) : (⟨l.toArray⟩ : ByteArray).toList = l := by rw [Lib.toList_data]

set_option maxHeartbeats 1000000 in
/-- label.oneMore, at digits that are few. -/
theorem oneMore_any (s : ByteArray) (w : World) (hs : s.size ≤ 1000) (hd : ∀ c ∈ s.data.toList, isDg c = true) :
    Calls Tryd.prog 26 #[.string s] w fun e w' => e = .returned (.string ⟨(oneMoreL s.data.toList).toArray⟩) ∧ Below w.heap.size w w' := by
  by_cases he : s.data.toList = []
  · have he' : s.toList.isEmpty = true := by rw [Lib.toList_data, he]; rfl
    have HF := Lib.hid (show oneMoreL s.data.toList = [48] by simp [oneMoreL, he])
    clear hd he
    go_enter Tryd.func26, Tryd.ntmps26
    go_wp2_with fail
    go_ret
    exact ⟨by rw [HF.out]; rfl, Below.refl _ _⟩
  · have he' : s.toList.isEmpty = false := by rw [Lib.toList_data]; simpa using he
    have HE := Lib.hid he
    have HD := Lib.hid hd
    clear hd he
    have cT := Tryd.strings_TrimRight_one s 57 (by decide) w (by omega)
    have hk := kept_size s
    obtain ⟨kp, hkp⟩ : ∃ kp : ByteArray, (⟨(Lib.trimRightB s.data.toList 57).toArray⟩ : ByteArray) = kp := ⟨_, rfl⟩
    rw [hkp] at cT hk
    have hkl : kp.data.toList = keptL s.data.toList := by rw [← hkp]; rfl
    have cR := Tryd.strings_Repeat ⟨#[48]⟩ (s.size - kp.size) w (by omega) (by show 1 * _ ≤ _; omega)
    obtain ⟨nz, hnz⟩ : ∃ nz : ByteArray, (⟨(Lib.repeatL [48] (s.size - kp.size)).toArray⟩ : ByteArray) = nz := ⟨_, rfl⟩
    have cR : Calls Tryd.prog 35 #[.string ⟨#[48]⟩, .int .i64 ((s.size - kp.size : Nat) : Int)] w fun e w' => e = .returned (.string nz) ∧ Below w.heap.size w w' := by rw [← hnz]; exact cR
    have hnl : nz.data.toList = noughts s.data.toList := by rw [← hnz]; unfold noughts; rw [← hkl, Lib.size_eq, Lib.size_eq]
    have hnn : nz.size ≤ 1000 := by rw [← hnz, Lib.size_mk, repeat_len]; omega
    have HNL := Lib.hid hnl
    have HKL := Lib.hid hkl
    clear hkp hkl hnl hnz
    have hz : ((s.size : Int) - (kp.size : Int)) = ((s.size - kp.size : Nat) : Int) := by omega
    have HZ := Lib.hid hz
    clear hz
    have HT := Lib.hid cT
    have HR := Lib.hid cR
    clear cT cR
    by_cases h2 : kp.data.toList = []
    · have h2' : kp.toList.isEmpty = true := by rw [Lib.toList_data, h2]; rfl
      have HF := Lib.hid (show oneMoreL s.data.toList = 49 :: nz.data.toList by
        unfold oneMoreL; rw [if_neg HE.out, ← HKL.out, if_pos h2, HNL.out])
      clear h2
      go_enter Tryd.func26, Tryd.ntmps26
      go_wp2_with fail
      refine HT.out.mono ?_
      rintro e w' ⟨rfl, rfl⟩
      go_wp2_with fail
      rw [HZ.out]
      refine HR.out.mono ?_
      rintro e w1 ⟨rfl, hb⟩
      go_wp2_with fail
      go_ret
      refine ⟨?_, hb⟩
      rw [HF.out]
      show Ending.returned (Value.string _) = Ending.returned (Value.string _)
      refine congrArg (fun l => Ending.returned (Value.string l)) ?_
      apply ByteArray.ext
      apply Array.ext'
      simp
    · have h2' : kp.toList.isEmpty = false := by rw [Lib.toList_data]; simpa using h2
      have h3 : 0 < kp.size := by rw [Lib.size_eq]; exact List.length_pos_iff.2 h2
      have i1 : (1 : Int) ≤ (kp.size : Int) := by omega
      have i2 : (kp.size : Int) - 1 ≤ (kp.size : Int) := by omega
      have i3 : (kp.size : Int) - 1 < (kp.size : Int) := by omega
      obtain ⟨c, hc⟩ : ∃ c, (keptL s.data.toList).getLastD 0 = c := ⟨_, rfl⟩
      have hix : ∀ W, (Instr.index 9 (.string kp) (.int .i64 ((kp.size : Int) - 1))).run Tryd.prog W = .ok (.int .u8 c.toNat) W := by
        intro W
        rw [run_index_string W 9 kp .i64 _ Tryd.underlying9, dif_pos ⟨by omega, by omega⟩]
        have hq : ((kp.size : Int) - 1).toNat = kp.size - 1 := by omega
        have hl : kp.data.toList.length = kp.size := (Lib.size_eq kp).symm
        have : ∀ (i : Nat) (hi : i < kp.size), i = kp.size - 1 → kp[i]'hi = c := by
          intro i hi e
          have g := get_bang kp i hi
          have g1 := get_at kp i hi
          simp only [Nat.add_zero] at g1
          rw [← g1, g, ← hc, ← HKL.out, e, List.getD_eq_getElem?_getD, ← hl, ← List.getLast?_eq_getElem?, List.getLastD_eq_getLast?]
        rw [this _ _ hq]
      have hcd : isDg c = true := by
        rw [← hc, List.getLastD_eq_getLast?, List.getLast?_eq_some_getLast (by rw [← HKL.out]; exact h2)]
        exact keptL_mem HD.out _ (List.getLast_mem _)
      have hc9 : c ≠ 57 := by rw [← hc]; exact keptL_last _ (by rw [← HKL.out]; exact h2)
      have hc56 : 48 ≤ c.toNat ∧ c.toNat ≤ 56 := by
        unfold isDg at hcd
        have h9 : c.toNat ≠ 57 := fun e => hc9 (UInt8.toNat_inj.1 e)
        simp at hcd
        omega
      obtain ⟨ec, hec⟩ : ∃ ec : ByteArray, (⟨#[UInt8.ofNat c.toNat.succ]⟩ : ByteArray) = ec := ⟨_, rfl⟩
      have hes : ec.size ≤ 1 := by rw [← hec]; exact Nat.le_refl _
      have henc : Utf8.encode (((c.toNat : Int) + 1) % 256) = ec := by
        rw [← hec]
        have hn : (((c.toNat : Int) + 1) % 256).toNat = c.toNat + 1 := by omega
        have hv : Utf8.valid (((c.toNat : Int) + 1) % 256) = true := by
          unfold Utf8.valid; simp; omega
        unfold Utf8.encode
        simp only [hv, if_true, hn]
        rw [if_pos (by omega)]
      have HF := Lib.hid (show oneMoreL s.data.toList = kp.data.toList.dropLast ++ (ec.data.toList ++ nz.data.toList) by
        unfold oneMoreL; rw [if_neg HE.out, ← HKL.out, if_neg h2, HNL.out, HKL.out, hc, ← hec]; rfl)
      clear hc hec hcd hc9 hc56 h2
      go_enter Tryd.func26, Tryd.ntmps26
      go_wp2_with fail
      refine HT.out.mono ?_
      rintro e w' ⟨rfl, rfl⟩
      go_wp2_with fail
      rw [HZ.out]
      refine HR.out.mono ?_
      rintro e w1 ⟨rfl, hb⟩
      go_wp2_with fail
      go_region
      go_wp2
      go_ret
      refine ⟨?_, ?_⟩
      · rw [HF.out]
        show Ending.returned (Value.string _) = Ending.returned (Value.string _)
        refine congrArg (fun l => Ending.returned (Value.string l)) ?_
        apply ByteArray.ext
        apply Array.ext'
        have hl : kp.data.toList.dropLast = kp.data.toList.take (kp.size - 1) := by rw [List.dropLast_eq_take, ← Lib.size_eq]
        rw [Lib.extract_upto, hl]
        simp
      · exact hb.drew


theorem head_size (l : List UInt8) (n : Nat) (h : l.length = n) : n - td l n ≤ n := by omega

set_option maxHeartbeats 1000000 in
/-- label.Next, at every text. -/
theorem next_any (s : ByteArray) (w : World) (hs : s.size ≤ maxLen) :
    Calls Tryd.prog 9 #[.string s] w fun e w' => e = .returned (.tuple #[.string ⟨(nextS s.data.toList).toArray⟩, .int .i64 (nextE s.data.toList)]) ∧ Below w.heap.size w w' := by
  cases hr : rightB s.data.toList with
  | false =>
    have h1 := Lib.hid (show nextS s.data.toList = [] ∧ nextE s.data.toList = 11 by simp [nextS, nextE, nextO, hr])
    have HR := Lib.hid hr
    clear hr
    go_enter Tryd.func9, Tryd.ntmps9
    go_wp2_with (go_at_call 13; refine (right_any _ _ hs).mono ?_; rintro e w' ⟨rfl, hb⟩; rw [HR.out])
    go_ret2
    exact ⟨by rw [h1.out.1, h1.out.2]; rfl, hb⟩
  | true =>
    have hlen := right_len hr
    rw [← Lib.size_eq] at hlen
    have HR := Lib.hid hr
    clear hr
    have ht := td_le s.data.toList s.size
    obtain ⟨at', hat⟩ : ∃ a : Nat, s.size - td s.data.toList s.size = a := ⟨_, rfl⟩
    have ha : at' ≤ s.size := by omega
    have cD := fun w => digitsAt_any s w hs
    rw [hat] at cD
    have HD := Lib.hid cD
    clear cD
    obtain ⟨tl, htl⟩ : ∃ tl : ByteArray, s.extract at' s.size = tl := ⟨_, rfl⟩
    have htl' : tl.data.toList = tailL s.data.toList := by
      rw [← htl, Lib.extract_from]
      unfold tailL
      rw [← Lib.size_eq, hat]
    have htn : tl.size ≤ 1000 := by rw [← htl, ByteArray.size_extract]; omega
    have cO := fun w => oneMore_any tl w htn (by rw [htl']; exact tailL_mem _)
    obtain ⟨om, hom⟩ : ∃ om : ByteArray, (⟨(oneMoreL tl.data.toList).toArray⟩ : ByteArray) = om := ⟨_, rfl⟩
    rw [hom] at cO
    have HO := Lib.hid cO
    clear cO
    have hon : om.size ≤ 1001 := by
      rw [← hom, Lib.size_mk]
      have := oneMoreL_len tl.data.toList
      rw [← Lib.size_eq] at this
      omega
    have hnx : (s.extract 0 at' ++ om).data.toList = nextRaw s.data.toList := by
      rw [Lib.extract_upto, ← hom, htl']
      unfold nextRaw headL
      rw [← Lib.size_eq, hat]
      simp
    have hsum : (s.extract 0 at' ++ om).size ≤ maxLen := by
      have : (s.extract 0 at' ++ om).size = at' + om.size := by
        rw [Lib.extract_upto, Lib.size_eq]
        have := Lib.size_eq om
        have := Lib.size_eq s
        simp
        omega
      rw [this]; unfold maxLen; omega
    obtain ⟨nx, hnn⟩ : ∃ nx : ByteArray, s.extract 0 at' ++ om = nx := ⟨_, rfl⟩
    rw [hnn] at hnx hsum
    have HNX := Lib.hid hnx
    clear hom htl' hat hnx
    have hbool : ∀ w1 w2 w3 : World, Below w.heap.size w w1 → Below w1.heap.size w1 w2 → Below w2.heap.size w2 w3 → Below w.heap.size w w3 := fun w1 w2 w3 h1 h2 h3 => (h1.trans (h2.mono h1.size)).trans (h3.mono (Nat.le_trans h1.size h2.size))
    have HB := Lib.hid hbool
    clear hbool
    go_enter Tryd.func9, Tryd.ntmps9
    go_wp2_with fail
    refine (right_any _ _ hs).mono ?_; rintro e w1 ⟨rfl, hb⟩; rw [HR.out]
    go_wp2_with fail
    refine (HD.out _).mono ?_; rintro e w2 ⟨rfl, hb2⟩
    go_wp2_with fail
    go_region_with (go_at_call 26; refine (HO.out _).mono ?_; rintro e w3 ⟨rfl, hb3⟩)
    go_wp2_with fail
    refine (right_any _ _ hsum).mono ?_; rintro e w4 ⟨rfl, hb4⟩
    have hb5 := HB.out w1 w2 w3 hb hb2 ((Below.refl _ w2).drew.trans hb3)
    have hb6 := hb5.trans (hb4.mono hb5.size)
    clear hb hb2 hb3 hb4 hb5
    cases hrn : rightB nx.data.toList with
    | false =>
      have h1 := Lib.hid (show nextS s.data.toList = [] ∧ nextE s.data.toList = 11 by
        have h2 := hrn
        rw [HNX.out] at h2
        simp [nextS, nextE, nextO, h2])
      clear hrn
      go_wp2_with fail
      go_ret2
      exact ⟨by rw [h1.out.1, h1.out.2]; rfl, hb6⟩
    | true =>
      have h1 := Lib.hid (show nextS s.data.toList = nx.data.toList ∧ nextE s.data.toList = 0 by
        have h2 := hrn
        rw [HNX.out] at h2
        simp [nextS, nextE, nextO, h2, HR.out, HNX.out])
      clear hrn
      go_wp2_with fail
      go_ret2
      exact ⟨by rw [h1.out.1, h1.out.2]; rfl, hb6⟩

end Go.Proofs.YtobicfkbpoimnaaDoor
