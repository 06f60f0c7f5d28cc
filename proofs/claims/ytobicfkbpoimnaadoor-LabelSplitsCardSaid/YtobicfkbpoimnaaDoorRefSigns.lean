/- The document's own words on signs: what Signs and Right of package packhorseref01 answer. -/
import Derived.Test.YtobicfkbpoimnaaDoorRef
import Derived.Test.YtobicfkbpoimnaaDoorJoin
namespace Go.Proofs.YtobicfkbpoimnaaDoor
open Go.RowKit

def csL (l : List UInt8) : List (List UInt8) := (labOf l).getD []
theorem csL_none {l : List UInt8} (h : labOf l = none) : csL l = [] := by simp [csL, h]
theorem csL_fin {l : List UInt8} {pos k pre} (h : Pre l pos k pre) (hp : ¬ pos < l.length) : csL l = pre := by
  have := h.fin hp
  unfold csL
  rw [this]
  split
  · rename_i hk
    have : pre = [] := List.eq_nil_of_length_eq_zero (by rw [h.len, hk])
    rw [this]; rfl
  · rfl
theorem csL_right (l : List UInt8) : decide (0 < (csL l).length) = rightB l := by
  unfold csL rightB
  cases h : labOf l with
  | none => simp
  | some cs =>
    obtain ⟨_, h1, _⟩ := labOf_some.1 h
    have : 0 < cs.length := List.length_pos_iff.2 h1
    simpa using this

theorem own_shape {w : World} {base : Nat} {v : Value} {n : Nat} {xs : List Value} (h : w.ownsRow base 9 1 v n xs) : ∃ a cap, v = .slice a n cap := by
  rcases h.2 with ⟨rfl, rfl⟩ | ⟨g, cap, cur, rfl, _⟩
  · exact ⟨none, 0, rfl⟩
  · exact ⟨_, _, rfl⟩

/-- What Signs leaves: the signs, one by one. -/
def RefSigns (l : List UInt8) (w : World) (e : Ending) (w' : World) : Prop :=
  ∃ v, e = .returned v ∧ w'.ownsRow w.heap.size 9 1 v (csL l).length ((csL l).map strV) ∧ Below w.heap.size w w'

def RefRel (l : List UInt8) (w : World) (v i : Value) (wr : World) : Prop :=
  ∃ (pos k : Nat) (pre : List (List UInt8)), i = .int .i64 pos ∧ Pre l pos k pre ∧ wr.ownsRow w.heap.size 9 1 v k (pre.map strV) ∧ Below w.heap.size w wr

set_option maxHeartbeats 2000000 in
theorem refSigns_any (s : ByteArray) (w : World) (hs : s.size ≤ 1000000) : Calls Tryd.prog 14 #[.string s] w (RefSigns s.data.toList w) := by
  obtain ⟨i0, hi, hz0, hz1, hz2⟩ := info_parts Tryd.info9
  have HL := Lib.hid (Lib.size_eq s)
  go_enter Tryd.func14, Tryd.ntmps14
  go_wp2_with fail
  go_loopw [3, 4] (fun v i wr => RefRel s.data.toList w v i wr) (fun _ i _ => s.size - (intOf i).toNat)
  case atStart => exact ⟨0, 0, [], rfl, Pre.nil _, World.ownsRow_made w #[] 0 (Nat.le_refl _) (by unfold maxLen; omega) rfl, (Below.refl _ _).alloc (Nat.le_refl _) _⟩
  case round =>
    obtain ⟨pos, k, pre, rfl, hP, hown, hbw⟩ := hrel
    obtain ⟨ao, cv, rfl⟩ := own_shape hown
    have h16 := hP.most
    have hps : pos ≤ s.size := by rw [HL.out]; exact hP.le
    by_cases hp : pos < s.size
    · have C := Lib.hid (fun w => sign_any s pos w hs hp)
      have HP := Lib.hid hP
      have HO := Lib.hid hown
      have hpl : pos < s.data.toList.length := by rw [← HL.out]; exact hp
      have HB := Lib.hid (fun hb => hP.bad hpl hb)
      have HST := Lib.hid (fun hz hk h16 => hP.step hz hk h16)
      obtain ⟨sgv, hsgv⟩ : ∃ sgv, sg (s.data.toList.drop pos) = sgv := ⟨_, rfl⟩
      rw [hsgv] at C HB HST
      obtain ⟨wd, lt⟩ := sgv
      have hwl : wd ≠ 0 → pos + wd ≤ s.size := by
        intro h
        have := (sg_pos (t := s.data.toList.drop pos) (by rw [hsgv]; exact h)).1
        rw [hsgv, List.length_drop, ← HL.out] at this
        simp only at this
        omega
      have HW := Lib.hid hwl
      clear hwl hsgv hP hown hpl
      by_cases hw0 : wd = 0
      · subst hw0
        have HF := Lib.hid (csL_none (HB.out (Or.inl rfl)))
        go_wp2_with fail
        refine (C.out _).mono ?_
        rintro e w' ⟨rfl, rfl⟩
        go_wp2_with fail
        go_ret
        refine ⟨.slice none 0 0, rfl, ?_, hbw⟩
        rw [HF.out]; exact World.ownsRow_nil _ _ _ _
      · have d0 : ((wd : Int) == 0) = false := by simpa using hw0
        have hw1 := HW.out hw0
        by_cases hk0 : k = 0
        · subst hk0
          cases lt with
          | false =>
            have HF := Lib.hid (csL_none (HB.out (Or.inr (Or.inl ⟨rfl, rfl⟩))))
            go_wp2_with fail
            refine (C.out _).mono ?_
            rintro e w' ⟨rfl, rfl⟩
            go_wp2_with fail
            go_ret
            refine ⟨.slice none 0 0, rfl, ?_, hbw⟩
            rw [HF.out]; exact World.ownsRow_nil _ _ _ _
          | true =>
            have HF := Lib.hid (HST.out hw0 (fun _ => rfl) (by omega))
            go_wp2_with fail
            refine (C.out _).mono ?_
            rintro e w' ⟨rfl, rfl⟩
            go_wp2_with (at_builtin; go_must (refine wpList_append_own _ rfl _ _ 25 rfl w.heap.size 9 i0 (.string ByteArray.empty) 1 16 Tryd.underlying25 hi hz0 hz1 hz2 rfl (by decide) _ _ _ rfl (HO.out.alloc _) ⟨wr.heap.size, 0, none⟩ 1 1 [.string (s.extract pos (pos + wd))] rfl rfl (cell_one_new _ _ _) (fun x hx => by simp at hx; subst hx; rfl) (by unfold maxLen; omega) (by omega) (by have := hbw.size; simp; omega) ?_; intro v' w3 hown' hgrow3 hnil3))
            go_roundw
            case rel =>
              refine ⟨pos + wd, 1, _, by go_num, HF.out, ?_, ?_⟩
              · rw [List.map_append]
                have e : strV ((s.data.toList.drop pos).take wd) = .string (s.extract pos (pos + wd)) := by
                  unfold strV; rw [Lib.extract_eq]; simp
                simp only [List.map_cons, List.map_nil, e]
                exact hown'
              · exact ((hbw.alloc hbw.size _).grown hgrow3 (by have := hbw.size; simp; omega) (fun k hk => (HO.out.lt k hk).1))
            case measure => simp [intOf]; omega
        · have d1 : ((k : Int) == 0) = false := by simpa using hk0
          by_cases hk16 : k = 16
          · have d2 : ((k : Int) == 16) = true := by simp; omega
            have HF := Lib.hid (csL_none (HB.out (Or.inr (Or.inr hk16))))
            clear hk16
            go_wp2_with fail
            refine (C.out _).mono ?_
            rintro e w' ⟨rfl, rfl⟩
            go_wp2_with fail
            go_ret
            refine ⟨.slice none 0 0, rfl, ?_, hbw⟩
            rw [HF.out]; exact World.ownsRow_nil _ _ _ _
          · have d2 : ((k : Int) == 16) = false := by simp; omega
            have HF := Lib.hid (HST.out hw0 (fun h => absurd h hk0) hk16)
            go_wp2_with fail
            refine (C.out _).mono ?_
            rintro e w' ⟨rfl, rfl⟩
            go_wp2_with (at_builtin; go_must (refine wpList_append_own _ rfl _ _ 25 rfl w.heap.size 9 i0 (.string ByteArray.empty) 1 16 Tryd.underlying25 hi hz0 hz1 hz2 rfl (by decide) _ _ _ rfl (HO.out.alloc _) ⟨wr.heap.size, 0, none⟩ 1 1 [.string (s.extract pos (pos + wd))] rfl rfl (cell_one_new _ _ _) (fun x hx => by simp at hx; subst hx; rfl) (by unfold maxLen; omega) (by omega) (by have := hbw.size; simp; omega) ?_; intro v' w3 hown' hgrow3 hnil3))
            go_roundw
            case rel =>
              refine ⟨pos + wd, k + 1, _, by go_num, HF.out, ?_, ?_⟩
              · rw [List.map_append]
                have e : strV ((s.data.toList.drop pos).take wd) = .string (s.extract pos (pos + wd)) := by
                  unfold strV; rw [Lib.extract_eq]; simp
                simp only [List.map_cons, List.map_nil, e]
                exact hown'
              · exact ((hbw.alloc hbw.size _).grown hgrow3 (by have := hbw.size; simp; omega) (fun k hk => (HO.out.lt k hk).1))
            case measure => simp [intOf]; omega
    · have HF := Lib.hid (csL_fin hP (by rw [← HL.out]; exact hp))
      have HO := Lib.hid hown
      have HN := Lib.hid hP.len
      clear hP hown
      go_wp2_with fail
      go_ret
      refine ⟨_, rfl, ?_, hbw⟩
      rw [HF.out, HN.out]
      exact HO.out

end Go.Proofs.YtobicfkbpoimnaaDoor
