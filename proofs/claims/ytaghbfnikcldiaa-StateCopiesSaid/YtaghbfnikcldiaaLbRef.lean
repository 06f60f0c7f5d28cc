/- The document's own words on signs: what sign, Signs and Right of package packhorseref01 answer. -/
import Derived.Test.YtaghbfnikcldiaaLbLeaf
namespace Go.Proofs.Ytaghbfnikcldiaa
set_option maxRecDepth 100000
open Go.RowKit

/-- Rows that a call owns stand, where nothing that was there has turned. -/
theorem own_below {w w' : World} {base : Nat} {e : TypeId} {size : Nat} {v : Value} {n : Nat} {xs : List Value} (h : w.ownsRow base e size v n xs) (hb : Below w.heap.size w w') : w'.ownsRow base e size v n xs := by
  refine ⟨h.1, ?_⟩
  rcases h.2 with hn | ⟨g, cap, cur, rfl, hbb, hgg, rest⟩
  · exact .inl hn
  · refine .inr ⟨g, cap, cur, rfl, hbb, ?_, rest⟩
    have hlt : g < w.heap.size := by
      by_cases hl : g < w.heap.size
      · exact hl
      · rw [Array.getElem?_eq_none (by omega)] at hgg
        cases hgg
    rw [hb.block g hlt]
    exact hgg

def strV (x : List UInt8) : Value := .string ⟨x.toArray⟩
theorem Try.info9 : (Try.prog.info? 9).map (fun i => (i.zero, i.size, i.bytes)) = some (some (.string ByteArray.empty), 1, 16) := by kernel_rfl


/-- The sign at the head, by its first byte and the one behind it. -/
def sgN (c : Nat) (more : Bool) (d : Nat) : Nat × Bool :=
  if 97 ≤ c ∧ c ≤ 122 then (1, true) else if 48 ≤ c ∧ c ≤ 57 ∨ c = 45 then (1, false) else if more = false then (0, false)
  else if c = 206 ∧ 177 ≤ d ∧ d ≤ 191 ∨ c = 207 ∧ 128 ≤ d ∧ d ≤ 137 then (2, true) else (0, false)

theorem sg_N (l : List UInt8) (k : Nat) (h : k < l.length) : sg (l.drop k) = sgN (l.getD k 0).toNat (decide (k + 1 < l.length)) (l.getD (k + 1) 0).toNat := by
  rw [drop_cons l k h]
  generalize l.getD k 0 = c
  simp only [sg, sgN]
  by_cases h1 : let1 c = true
  · have : 97 ≤ c.toNat ∧ c.toNat ≤ 122 := by simpa [let1] using h1
    rw [if_pos h1, if_pos this]
  · have : ¬ (97 ≤ c.toNat ∧ c.toNat ≤ 122) := by simpa [let1] using h1
    rw [if_neg h1, if_neg this]
    by_cases h2 : one c = true
    · have h2' : 48 ≤ c.toNat ∧ c.toNat ≤ 57 ∨ c.toNat = 45 := by
        simp only [one, Bool.or_eq_true, h1, decide_eq_true_eq] at h2
        rcases h2 with h2 | h2
        · cases h2
        · exact h2
      rw [if_pos h2, if_pos h2']
    · have h2' : ¬ (48 ≤ c.toNat ∧ c.toNat ≤ 57 ∨ c.toNat = 45) := by
        intro h3
        exact h2 (by simp only [one, Bool.or_eq_true, decide_eq_true_eq]; exact Or.inr h3)
      rw [if_neg h2, if_neg h2']
      by_cases h3 : k + 1 < l.length
      · rw [drop_cons l (k + 1) h3]
        generalize l.getD (k + 1) 0 = d
        have h4 : decide (k + 1 < l.length) = true := by simpa using h3
        simp only [h4, Bool.true_eq_false, if_false]
        unfold two
        simp only [decide_eq_true_eq]
      · rw [List.drop_of_length_le (by omega)]
        have h4 : decide (k + 1 < l.length) = false := by simpa using h3
        simp only [h4, if_true]

theorem ret_pair {a b : Int} {x y : Bool} (h : a = b ∧ x = y) : Ending.returned (.tuple #[.int .i64 a, .bool x]) = .returned (.tuple #[.int .i64 b, .bool y]) := by rw [h.1, h.2]

set_option maxHeartbeats 2000000 in
theorem sign_any (s : ByteArray) (k : Nat) (w : World) (hs : s.size ≤ maxLen) (hk : k < s.size) :
    Calls Try.prog 122 #[.string s, .int .i64 k] w fun e w' => e = .returned (.tuple #[.int .i64 ((sg (s.data.toList.drop k)).1 : Nat), .bool (sg (s.data.toList.drop k)).2]) ∧ w = w' := by
  unfold maxLen at hs
  have hl : s.data.toList.length = s.size := (Lib.size_eq s).symm
  have HS := Lib.hid (sg_N s.data.toList k (by omega))
  rw [hl] at HS
  have hx := run_byte s k hk
  clear hl
  by_cases h1 : k + 1 < s.size
  · have hy := run_byte s (k + 1) h1
    have e1 : ((k + 1 : Nat) : Int) = (k : Int) + 1 := by omega
    rw [e1] at hy
    have hd : decide (k + 1 < s.size) = true := by simpa using h1
    rw [hd] at HS
    have hcb := (s.data.toList.getD k 0).toNat_lt
    have hdb := (s.data.toList.getD (k + 1) 0).toNat_lt
    generalize (s.data.toList.getD k 0).toNat = c at *
    generalize (s.data.toList.getD (k + 1) 0).toNat = d at *
    clear hd e1
    go_enter Try.func122, Try.ntmps122
    go_wp2
    all_goals
      go_ret2
      refine ⟨?_, rfl⟩
      rw [HS.out]
      simp only [beq_iff_eq, beq_eq_false_iff_ne, ne_eq] at *
      simp only [sgN, Bool.true_eq_false, if_false]
      repeat' split
      all_goals first | rfl | (exfalso; omega)
  · have hd : decide (k + 1 < s.size) = false := by simpa using h1
    rw [hd] at HS
    have hcb := (s.data.toList.getD k 0).toNat_lt
    generalize (s.data.toList.getD k 0).toNat = c at *
    generalize (s.data.toList.getD (k + 1) 0).toNat = d at *
    clear hd
    go_enter Try.func122, Try.ntmps122
    go_wp2
    all_goals
      go_ret2
      refine ⟨?_, rfl⟩
      rw [HS.out]
      simp only [beq_iff_eq, beq_eq_false_iff_ne, ne_eq] at *
      simp only [sgN, if_true]
      repeat' split
      all_goals first | rfl | (exfalso; omega)


def csL (l : List UInt8) : List (List UInt8) := (labOf l).getD []
theorem csL_none {l : List UInt8} (h : labOf l = none) : csL l = [] := by simp [csL, h]
theorem csL_fin {l : List UInt8} {pos k pre} (h : Pre l pos k pre) (hp : ¬ pos < l.length) : csL l = pre := by
  have := h.fin hp
  unfold csL
  rw [this]
  split
  · rename_i hk
    have : pre = [] := List.eq_nil_of_length_eq_zero (by rw [h.len, hk])
    rw [this]; rfl
  · rfl
theorem csL_right (l : List UInt8) : decide (0 < (csL l).length) = rightB l := by
  unfold csL rightB
  cases h : labOf l with
  | none => simp
  | some cs =>
    obtain ⟨_, h1, _⟩ := labOf_some.1 h
    have : 0 < cs.length := List.length_pos_iff.2 h1
    simpa using this

theorem own_shape {w : World} {base : Nat} {v : Value} {n : Nat} {xs : List Value} (h : w.ownsRow base 9 1 v n xs) : ∃ a cap, v = .slice a n cap := by
  rcases h.2 with ⟨rfl, rfl⟩ | ⟨g, cap, cur, rfl, _⟩
  · exact ⟨none, 0, rfl⟩
  · exact ⟨_, _, rfl⟩

/-- What Signs leaves: the signs, one by one. -/
def RefSigns (l : List UInt8) (w : World) (e : Ending) (w' : World) : Prop :=
  ∃ v, e = .returned v ∧ w'.ownsRow w.heap.size 9 1 v (csL l).length ((csL l).map strV) ∧ Below w.heap.size w w'

def RefRel (l : List UInt8) (w : World) (v i : Value) (wr : World) : Prop :=
  ∃ (pos k : Nat) (pre : List (List UInt8)), i = .int .i64 pos ∧ Pre l pos k pre ∧ wr.ownsRow w.heap.size 9 1 v k (pre.map strV) ∧ Below w.heap.size w wr

set_option maxHeartbeats 2000000 in
theorem refSigns_any (s : ByteArray) (w : World) (hs : s.size ≤ maxLen) : Calls Try.prog 107 #[.string s] w (RefSigns s.data.toList w) := by
  obtain ⟨i0, hi, hz0, hz1, hz2⟩ := info_parts Try.info9
  have HL := Lib.hid (Lib.size_eq s)
  have HM := Lib.hid hs
  unfold maxLen at hs
  go_enter Try.func107, Try.ntmps107
  go_wp2_with fail
  go_loopw [3, 4] (fun v i wr => RefRel s.data.toList w v i wr) (fun _ i _ => s.size - (intOf i).toNat)
  case atStart => exact ⟨0, 0, [], rfl, Pre.nil _, World.ownsRow_made w #[] 0 (Nat.le_refl _) (by unfold maxLen; omega) rfl, (Below.refl _ _).alloc (Nat.le_refl _) _⟩
  case round =>
    obtain ⟨pos, k, pre, rfl, hP, hown, hbw⟩ := hrel
    obtain ⟨ao, cv, rfl⟩ := own_shape hown
    have h16 := hP.most
    have hps : pos ≤ s.size := by rw [HL.out]; exact hP.le
    by_cases hp : pos < s.size
    · have C := Lib.hid (fun w => sign_any s pos w HM.out hp)
      have HP := Lib.hid hP
      have HO := Lib.hid hown
      have hpl : pos < s.data.toList.length := by rw [← HL.out]; exact hp
      have HB := Lib.hid (fun hb => hP.bad hpl hb)
      have HST := Lib.hid (fun hz hk h16 => hP.step hz hk h16)
      obtain ⟨sgv, hsgv⟩ : ∃ sgv, sg (s.data.toList.drop pos) = sgv := ⟨_, rfl⟩
      rw [hsgv] at C HB HST
      obtain ⟨wd, lt⟩ := sgv
      have hwl : wd ≠ 0 → pos + wd ≤ s.size := by
        intro h
        have := (sg_pos (t := s.data.toList.drop pos) (by rw [hsgv]; exact h)).1
        rw [hsgv, List.length_drop, ← HL.out] at this
        simp only at this
        omega
      have HW := Lib.hid hwl
      clear hwl hsgv hP hown hpl
      by_cases hw0 : wd = 0
      · subst hw0
        have HF := Lib.hid (csL_none (HB.out (Or.inl rfl)))
        go_wp2_with fail
        refine (C.out _).mono ?_
        rintro e w' ⟨rfl, rfl⟩
        go_wp2_with fail
        go_ret
        refine ⟨.slice none 0 0, rfl, ?_, hbw⟩
        rw [HF.out]; exact World.ownsRow_nil _ _ _ _
      · have d0 : ((wd : Int) == 0) = false := by simpa using hw0
        have hw1 := HW.out hw0
        by_cases hk0 : k = 0
        · subst hk0
          cases lt with
          | false =>
            have HF := Lib.hid (csL_none (HB.out (Or.inr (Or.inl ⟨rfl, rfl⟩))))
            go_wp2_with fail
            refine (C.out _).mono ?_
            rintro e w' ⟨rfl, rfl⟩
            go_wp2_with fail
            go_ret
            refine ⟨.slice none 0 0, rfl, ?_, hbw⟩
            rw [HF.out]; exact World.ownsRow_nil _ _ _ _
          | true =>
            have HF := Lib.hid (HST.out hw0 (fun _ => rfl) (by omega))
            go_wp2_with fail
            refine (C.out _).mono ?_
            rintro e w' ⟨rfl, rfl⟩
            go_wp2_with (at_builtin; go_must (refine wpList_append_own _ rfl _ _ 51 rfl w.heap.size 9 i0 (.string ByteArray.empty) 1 16 Try.underlying51 hi hz0 hz1 hz2 rfl (by decide) _ _ _ rfl (HO.out.alloc _) ⟨wr.heap.size, 0, none⟩ 1 1 [.string (s.extract pos (pos + wd))] rfl rfl (cell_one_new _ _ _) (fun x hx => by simp at hx; subst hx; rfl) (by unfold maxLen; omega) (by omega) (by have := hbw.size; simp; omega) ?_; intro v' w3 hown' hgrow3 hnil3))
            go_roundw
            case rel =>
              refine ⟨pos + wd, 1, _, by go_num, HF.out, ?_, ?_⟩
              · rw [List.map_append]
                have e : strV ((s.data.toList.drop pos).take wd) = .string (s.extract pos (pos + wd)) := by
                  unfold strV; rw [Lib.extract_eq]; simp
                simp only [List.map_cons, List.map_nil, e]
                exact hown'
              · exact ((hbw.alloc hbw.size _).grown hgrow3 (by have := hbw.size; simp; omega) (fun k hk => (HO.out.lt k hk).1))
            case measure => simp [intOf]; omega
        · have d1 : ((k : Int) == 0) = false := by simpa using hk0
          by_cases hk16 : k = 16
          · have d2 : ((k : Int) == 16) = true := by simp; omega
            have HF := Lib.hid (csL_none (HB.out (Or.inr (Or.inr hk16))))
            clear hk16
            go_wp2_with fail
            refine (C.out _).mono ?_
            rintro e w' ⟨rfl, rfl⟩
            go_wp2_with fail
            go_ret
            refine ⟨.slice none 0 0, rfl, ?_, hbw⟩
            rw [HF.out]; exact World.ownsRow_nil _ _ _ _
          · have d2 : ((k : Int) == 16) = false := by simp; omega
            have HF := Lib.hid (HST.out hw0 (fun h => absurd h hk0) hk16)
            go_wp2_with fail
            refine (C.out _).mono ?_
            rintro e w' ⟨rfl, rfl⟩
            go_wp2_with (at_builtin; go_must (refine wpList_append_own _ rfl _ _ 51 rfl w.heap.size 9 i0 (.string ByteArray.empty) 1 16 Try.underlying51 hi hz0 hz1 hz2 rfl (by decide) _ _ _ rfl (HO.out.alloc _) ⟨wr.heap.size, 0, none⟩ 1 1 [.string (s.extract pos (pos + wd))] rfl rfl (cell_one_new _ _ _) (fun x hx => by simp at hx; subst hx; rfl) (by unfold maxLen; omega) (by omega) (by have := hbw.size; simp; omega) ?_; intro v' w3 hown' hgrow3 hnil3))
            go_roundw
            case rel =>
              refine ⟨pos + wd, k + 1, _, by go_num, HF.out, ?_, ?_⟩
              · rw [List.map_append]
                have e : strV ((s.data.toList.drop pos).take wd) = .string (s.extract pos (pos + wd)) := by
                  unfold strV; rw [Lib.extract_eq]; simp
                simp only [List.map_cons, List.map_nil, e]
                exact hown'
              · exact ((hbw.alloc hbw.size _).grown hgrow3 (by have := hbw.size; simp; omega) (fun k hk => (HO.out.lt k hk).1))
            case measure => simp [intOf]; omega
    · have HF := Lib.hid (csL_fin hP (by rw [← HL.out]; exact hp))
      have HO := Lib.hid hown
      have HN := Lib.hid hP.len
      clear hP hown
      go_wp2_with fail
      go_ret
      refine ⟨_, rfl, ?_, hbw⟩
      rw [HF.out, HN.out]
      exact HO.out


theorem csL_len (l : List UInt8) : (csL l).length ≤ 16 := by
  unfold csL
  cases h : labOf l with
  | none => simp
  | some cs =>
    obtain ⟨_, _, h2, _⟩ := labOf_some.1 h
    exact h2

theorem refRight_any (s : ByteArray) (w : World) (hs : s.size ≤ maxLen) : Calls Try.prog 72 #[.string s] w fun e w' => e = .returned (.bool (rightB s.data.toList)) ∧ Below w.heap.size w w' := by
  have C := Lib.hid (fun w => refSigns_any s w hs)
  have HR := Lib.hid (csL_right s.data.toList)
  go_enter Try.func72, Try.ntmps72
  go_wp2_with fail
  refine (C.out _).mono ?_
  rintro e w1 ⟨v, rfl, o1, b1⟩
  obtain ⟨a, cap, rfl⟩ := own_shape o1
  clear o1
  go_wp2_with fail
  go_ret
  exact ⟨ret_bool HR.out, b1⟩

end Go.Proofs.Ytaghbfnikcldiaa
