/- The document's own words on texts that are labels with blanks between: what Split of package packhorseref01 answers. -/
import Derived.Test.YtobicfkbpoimnaaDoorStrs
namespace Go.Proofs.YtobicfkbpoimnaaDoor
open Go.RowKit

/-- What holds at each round's head. -/
def RefSplitRel (l : List UInt8) (w : World) (v wd i : Value) (wr : World) : Prop :=
  ∃ (k : Nat) (pre : List (List UInt8)) (wb : ByteArray), i = .int .i64 k ∧ wd = .string wb ∧ k ≤ l.length + 1 ∧ wb.size ≤ k ∧ no32 wb.data.toList ∧
    (k ≤ l.length → words l = pre ++ words (wb.data.toList ++ l.drop k)) ∧ (k = l.length + 1 → words l = pre) ∧ (∀ x ∈ pre, rightB x = true) ∧
    wr.ownsRow w.heap.size 9 1 v pre.length (pre.map strV) ∧ Below w.heap.size w wr

theorem getD_ne {l : List UInt8} {k : Nat} (h : (l.getD k 0).toNat ≠ 32) : l.getD k 0 ≠ 32 := by
  intro e; rw [e] at h; exact h rfl
theorem getD_eq32 {l : List UInt8} {k : Nat} (h : (l.getD k 0).toNat = 32) : l.getD k 0 = 32 := UInt8.toNat_inj.1 h

theorem one_byte (s : ByteArray) (k : Nat) (h : k < s.size) : (s.extract k (k + 1)).data.toList = [s.data.toList.getD k 0] := by
  rw [Lib.extract_eq]
  have e := drop_cons s.data.toList k (by rw [← Lib.size_eq]; exact h)
  simp only [e, Nat.add_sub_cancel_left]
  simp

set_option maxHeartbeats 4000000 in
theorem refSplit_any (s : ByteArray) (w : World) (hs : s.size ≤ 1000000) : Calls Tryd.prog 19 #[.string s] w (SplitPost s.data.toList w) := by
  by_cases he : s.data.toList = []
  · have he' : s.toList.isEmpty = true := by rw [Lib.toList_data, he]; rfl
    have HE := Lib.hid he
    clear he
    go_enter Tryd.func19, Tryd.ntmps19
    go_wp2_with fail
    go_ret2
    refine ⟨.slice (some ⟨w.heap.size, 0, none⟩) 0 0, ?_, ?_, (Below.refl _ _).alloc (Nat.le_refl _) _⟩
    · rw [HE.out]; rfl
    · rw [HE.out]; exact World.ownsRow_made w #[] 0 (Nat.le_refl _) (by unfold maxLen; omega) rfl
  · have he' : s.toList.isEmpty = false := by rw [Lib.toList_data]; simpa using he
    have HE := Lib.hid he
    clear he
    obtain ⟨i0, hi, hz0, hz1, hz2⟩ := info_parts Tryd.info9
    have HL := Lib.hid (Lib.size_eq s)
    have HM := Lib.hid (words_len s.data.toList)
    go_enter Tryd.func19, Tryd.ntmps19
    go_wp2_with fail
    go_loopw [4, 5, 6] (fun v wd i wr => RefSplitRel s.data.toList w v wd i wr) (fun _ _ i _ => s.size + 1 - (intOf i).toNat)
    case atStart => exact ⟨0, [], ⟨#[]⟩, rfl, rfl, Nat.zero_le _, Nat.le_refl _, (fun x hx => by cases hx), fun _ => rfl, (fun h => by cases h), (fun x hx => by cases hx), World.ownsRow_made w #[] 0 (Nat.le_refl _) (by unfold maxLen; omega) rfl, (Below.refl _ _).alloc (Nat.le_refl _) _⟩
    case round =>
      obtain ⟨k, pre, wb, rfl, rfl, hk, hwk, hno, hm1, hm2, hpre, hown, hbw⟩ := hrel
      rw [← HL.out] at hk hm1 hm2
      by_cases hks : k ≤ s.size
      · have H1 := Lib.hid (hm1 hks)
        have H2 := Lib.hid hpre
        have H3 := Lib.hid hown
        have HNO := Lib.hid hno
        have hwb : wb.size ≤ 1000000 := by omega
        have hwm : wb.size ≤ maxLen := by unfold maxLen; omega
        have hpl : pre.length + 1 ≤ 1000001 := by
          have h := HM.out
          rw [H1.out, ← HL.out] at h
          have := List.length_pos_iff.2 (words_ne (wb.data.toList ++ s.data.toList.drop k))
          simp only [List.length_append] at h
          omega
        clear hm1 hm2 hpre hown hno
        by_cases hkl : k < s.size
        · have hby := run_byte s k hkl
          have HDC := Lib.hid (drop_cons s.data.toList k (by rw [← HL.out]; exact hkl))
          have HOB := Lib.hid (one_byte s k hkl)
          have hcb := (s.data.toList.getD k 0).toNat_lt
          by_cases h32 : (s.data.toList.getD k 0).toNat = 32
          · have HC := Lib.hid (getD_eq32 h32)
            rw [h32] at hby
            clear h32 hcb
            have HWD := Lib.hid (show words s.data.toList = (pre ++ [wb.data.toList]) ++ words ([] ++ s.data.toList.drop (k + 1)) by
              rw [H1.out, HDC.out, HC.out, words_app HNO.out]; simp)
            have HMEM := Lib.hid (show wb.data.toList ∈ words s.data.toList by rw [HWD.out]; simp)
            cases hr : rightB wb.data.toList with
            | false =>
              have HB := Lib.hid (split_bad HE.out HMEM.out hr)
              have HR := Lib.hid hr
              clear hr
              go_wp2_with fail
              refine (refRight_any _ _ hwb).mono ?_
              rintro e w2 ⟨rfl, b2⟩
              rw [HR.out]
              go_wp2_with fail
              go_ret2
              refine ⟨.slice none 0 0, ?_, ?_, hbw.trans (b2.mono hbw.size)⟩
              · rw [HB.out.2]; rfl
              · rw [HB.out.1]; exact World.ownsRow_nil _ _ _ _
            | true =>
              have HR := Lib.hid hr
              clear hr
              go_wp2_with fail
              refine (refRight_any _ _ hwb).mono ?_
              rintro e w2 ⟨rfl, b2⟩
              rw [HR.out]
              have hb4 := hbw.trans (b2.mono hbw.size)
              have H6 := Lib.hid (own_below H3.out b2)
              clear b2
              go_wp2_with (at_builtin; go_must (refine wpList_append_own _ rfl _ _ 25 rfl w.heap.size 9 i0 (.string ByteArray.empty) 1 16 Tryd.underlying25 hi hz0 hz1 hz2 rfl (by decide) _ _ _ rfl (H6.out.alloc _) ⟨w2.heap.size, 0, none⟩ 1 1 [.string wb] rfl rfl (cell_one_new _ _ _) (fun x hx => by simp at hx; subst hx; rfl) (by unfold maxLen; omega) (by omega) (by have := hb4.size; simp; omega) ?_; intro v' w3 hown' hgrow3 hnil3))
              go_roundw
              case rel =>
                refine ⟨k + 1, pre ++ [wb.data.toList], ⟨#[]⟩, by go_num, rfl, by rw [← HL.out]; omega, Nat.zero_le _, (fun x hx => by cases hx), fun _ => HWD.out, (fun h => by rw [← HL.out] at h; omega), ?_, ?_, ?_⟩
                · intro x hx
                  simp only [List.mem_append, List.mem_singleton] at hx
                  rcases hx with hx | rfl
                  · exact H2.out x hx
                  · exact HR.out
                · rw [List.length_append, List.map_append]
                  have e : strV wb.data.toList = .string wb := by unfold strV; rw [Lib.mk_data]
                  simp only [List.length_singleton, List.map_cons, List.map_nil, e]
                  exact hown'
                · exact ((hb4.alloc hb4.size _).grown hgrow3 (by have := hb4.size; simp; omega) (fun k hk => (H6.out.lt k hk).1))
              case measure => simp [intOf]; omega
          · have HC := Lib.hid (getD_ne h32)
            have d1 : (((s.data.toList.getD k 0).toNat : Int) == 32) = false := by
              generalize (s.data.toList.getD k 0).toNat = c at *
              simp; omega
            have d2 : (((s.data.toList.getD k 0).toNat : Int) != 32) = true := by rw [bne, d1]; rfl
            clear h32
            generalize (s.data.toList.getD k 0).toNat = c at *
            have c1 : (0 : Int) ≤ (k : Int) := by omega
            have c2 : (k : Int) + 1 ≤ (s.size : Int) := by omega
            go_wp2_with fail
            go_roundw
            case rel =>
              refine ⟨k + 1, pre, wb ++ s.extract k (k + 1), by go_num, rfl, by rw [← HL.out]; omega, ?_, ?_, ?_, ?_, H2.out, H3.out, hbw⟩
              · rw [Lib.size_eq] at hwk ⊢
                have := congrArg List.length HOB.out
                simp only [ByteArray.data_append, Array.toList_append, List.length_append, this, List.length_cons, List.length_nil]
                omega
              · intro x hx
                simp only [ByteArray.data_append, Array.toList_append, List.mem_append, HOB.out, List.mem_singleton] at hx
                rcases hx with hx | rfl
                · exact HNO.out x hx
                · exact HC.out
              · intro _
                rw [H1.out, HDC.out]
                simp only [ByteArray.data_append, Array.toList_append, HOB.out, List.append_assoc, List.singleton_append]
              · intro h
                rw [← HL.out] at h
                omega
            case measure => simp [intOf]; omega
        · have hkk : k = s.size := by omega
          have HWD := Lib.hid (show words s.data.toList = pre ++ [wb.data.toList] by
            rw [H1.out, List.drop_of_length_le (by rw [← HL.out]; omega), List.append_nil, words_one HNO.out])
          have HMEM := Lib.hid (show wb.data.toList ∈ words s.data.toList by rw [HWD.out]; simp)
          clear hkk
          cases hr : rightB wb.data.toList with
          | false =>
            have HB := Lib.hid (split_bad HE.out HMEM.out hr)
            have HR := Lib.hid hr
            clear hr
            go_wp2_with fail
            refine (refRight_any _ _ hwb).mono ?_
            rintro e w2 ⟨rfl, b2⟩
            rw [HR.out]
            go_wp2_with fail
            go_ret2
            refine ⟨.slice none 0 0, ?_, ?_, hbw.trans (b2.mono hbw.size)⟩
            · rw [HB.out.2]; rfl
            · rw [HB.out.1]; exact World.ownsRow_nil _ _ _ _
          | true =>
            have HR := Lib.hid hr
            clear hr
            go_wp2_with fail
            refine (refRight_any _ _ hwb).mono ?_
            rintro e w2 ⟨rfl, b2⟩
            rw [HR.out]
            have hb4 := hbw.trans (b2.mono hbw.size)
            have H6 := Lib.hid (own_below H3.out b2)
            clear b2
            go_wp2_with (at_builtin; go_must (refine wpList_append_own _ rfl _ _ 25 rfl w.heap.size 9 i0 (.string ByteArray.empty) 1 16 Tryd.underlying25 hi hz0 hz1 hz2 rfl (by decide) _ _ _ rfl (H6.out.alloc _) ⟨w2.heap.size, 0, none⟩ 1 1 [.string wb] rfl rfl (cell_one_new _ _ _) (fun x hx => by simp at hx; subst hx; rfl) (by unfold maxLen; omega) (by omega) (by have := hb4.size; simp; omega) ?_; intro v' w3 hown' hgrow3 hnil3))
            go_roundw
            case rel =>
              refine ⟨k + 1, pre ++ [wb.data.toList], ⟨#[]⟩, by go_num, rfl, by rw [← HL.out]; omega, Nat.zero_le _, (fun x hx => by cases hx), (fun h => by rw [← HL.out] at h; omega), fun _ => HWD.out, ?_, ?_, ?_⟩
              · intro x hx
                simp only [List.mem_append, List.mem_singleton] at hx
                rcases hx with hx | rfl
                · exact H2.out x hx
                · exact HR.out
              · rw [List.length_append, List.map_append]
                have e : strV wb.data.toList = .string wb := by unfold strV; rw [Lib.mk_data]
                simp only [List.length_singleton, List.map_cons, List.map_nil, e]
                exact hown'
              · exact ((hb4.alloc hb4.size _).grown hgrow3 (by have := hb4.size; simp; omega) (fun k hk => (H6.out.lt k hk).1))
            case measure => simp [intOf]; omega
      · have hkk : k = s.size + 1 := by omega
        have HG := Lib.hid (split_good HE.out (by rw [hm2 hkk]; exact hpre))
        have H1 := Lib.hid (hm2 hkk)
        have H3 := Lib.hid hown
        clear hm1 hm2 hpre hown hno hkk
        go_wp2_with fail
        go_ret2
        refine ⟨u4, ?_, ?_, hbw⟩
        · rw [HG.out.2]; rfl
        · rw [HG.out.1, H1.out]; exact H3.out

end Go.Proofs.YtobicfkbpoimnaaDoor
