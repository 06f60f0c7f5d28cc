/- The tests on one sign: what isLetter, isDigit and isSign of package label answer, for every rune. -/
import Derived.Test.YtaghbfnikcldiaaGreatMgBase
import Derived.Test.YtaghbfnikcldiaaGreatLbSigns
import Derived.WalkKit
import Derived.Lib.Hide
namespace Go.Proofs.YtaghbfnikcldiaaGreat
set_option maxRecDepth 100000
open Go.RowKit

theorem ret_bool {a b : Bool} (h : a = b) : Ending.returned (.bool a) = .returned (.bool b) := by rw [h]
theorem ret_int {k : IntKind} {a b : Int} (h : a = b) : Ending.returned (.int k a) = .returned (.int k b) := by rw [h]

theorem isLetter_any (r : Int) (w : World) : Calls Tryz.prog 133 #[.int .i32 r] w fun e w' => e = .returned (.bool (isLetB r)) ∧ w = w' := by
  go_enter Tryz.func133, Tryz.ntmps133
  go_wp2
  all_goals
    go_ret
    refine ⟨ret_bool ?_, rfl⟩
    unfold isLetB
    rw [Bool.eq_iff_iff]
    simp
    try omega

theorem isDigit_any (r : Int) (w : World) : Calls Tryz.prog 138 #[.int .i32 r] w fun e w' => e = .returned (.bool (isDigB r)) ∧ w = w' := by
  go_enter Tryz.func138, Tryz.ntmps138
  go_wp2
  all_goals
    go_ret
    refine ⟨ret_bool ?_, rfl⟩
    unfold isDigB
    rw [Bool.eq_iff_iff]
    simp
    try omega

theorem isSign_any (r : Int) (w : World) : Calls Tryz.prog 132 #[.int .i32 r] w fun e w' => e = .returned (.bool (isSgnB r)) ∧ w = w' := by
  cases h1 : isLetB r <;> cases h2 : isDigB r
  all_goals
    go_enter Tryz.func132, Tryz.ntmps132
    go_wp2_with (first
      | (go_at_call 133; refine (isLetter_any _ _).mono ?_; rintro e w' ⟨rfl, rfl⟩; rw [h1])
      | (go_at_call 138; refine (isDigit_any _ _).mono ?_; rintro e w' ⟨rfl, rfl⟩; rw [h2]))
    go_ret
    refine ⟨ret_bool ?_, rfl⟩
    simp [isSgnB, h1, h2]
    try (rw [Bool.eq_iff_iff]; simp)


set_option maxHeartbeats 1000000 in
/-- label.Signs, at every text. -/
theorem signs_any (s : ByteArray) (w : World) (_hs : s.size ≤ maxLen) :
    Calls Tryz.prog 123 #[.string s] w fun e w' => e = .returned (.int .i64 (signsI s.data.toList)) ∧ Below w.heap.size w w' := by
  have hl : s.data.toList.length = s.size := (Lib.size_eq s).symm
  have HL := Lib.hid hl
  clear hl
  go_enter Tryz.func123, Tryz.ntmps123
  go_wp2
  go_loopw [3] (fun n w' => ∃ (pos k : Nat) (pre : List (List UInt8)), w' = w.iter s pos ∧ n = .int .i64 k ∧ Pre s.data.toList pos k pre) (fun _ w' => s.size - w'.iterPos w.heap.size)
  case atStart => exact ⟨0, 0, [], rfl, rfl, Pre.nil _⟩
  case round =>
    obtain ⟨pos, k, pre, rfl, rfl, hP⟩ := hrel
    have h16 := hP.most
    by_cases hp : pos < s.size
    · have hnx : ∀ ty, (Instr.next (.pointer (some ⟨w.heap.size, 0, none⟩)) true ty).run Tryz.prog (w.iter s pos) = _ := fun ty => run_next_any w s pos ty hp
      have hd := Lib.hid (show DecSg s.data.toList pos _ _ from decode_sg s pos hp)
      have hw := Lib.hid (decode_wd s pos hp)
      generalize (Utf8.decode s pos).1 = r at *
      generalize (Utf8.decode s pos).2 = wd at *
      have HP := Lib.hid hP
      clear hP
      go_wp2_with (first
      | (go_at_call 132; refine (isSign_any _ _).mono ?_; rintro e w' ⟨rfl, rfl⟩)
      | (go_at_call 133; refine (isLetter_any _ _).mono ?_; rintro e w' ⟨rfl, rfl⟩))
      · go_ret
        have h1 : (!isLetB (r : Int)) = true := by assumption
        exact ⟨ret_int (signs_bad HP.out (by rw [HL.out]; exact hp) hd.out (Or.inr (Or.inl ⟨by assumption, by simpa using h1⟩))).symm, (Below.refl _ w).alloc (Nat.le_refl _) _⟩
      · have h1 : (!isLetB (r : Int)) = false := by assumption
        have h2 : isSgnB (r : Int) = true := by assumption
        have hk : k = 0 := by assumption
        subst hk
        go_roundw
        case rel => exact ⟨pos + wd, 1, _, rfl, rfl, signs_step HP.out hd.out h2 (fun _ => by simpa using h1) (by omega)⟩
        case measure => have := hw.out; simp; omega
      · have h1 : ((k : Int) == 16) = true := by assumption
        go_ret
        exact ⟨ret_int (signs_bad HP.out (by rw [HL.out]; exact hp) hd.out (Or.inr (Or.inr (by simp at h1; omega)))).symm, (Below.refl _ w).alloc (Nat.le_refl _) _⟩
      · have h1 : ((k : Int) == 16) = false := by assumption
        have h2 : isSgnB (r : Int) = true := by assumption
        have hk : ¬ k = 0 := by assumption
        go_roundw
        case rel => exact ⟨pos + wd, k + 1, _, rfl, by go_num, signs_step HP.out hd.out h2 (fun h => absurd h hk) (by intro h; subst h; simp at h1)⟩
        case measure => have := hw.out; simp; omega
      · have h1 : ¬ isSgnB (r : Int) = true := by assumption
        go_ret
        exact ⟨ret_int (signs_bad HP.out (by rw [HL.out]; exact hp) hd.out (Or.inl (by simpa using h1))).symm, (Below.refl _ w).alloc (Nat.le_refl _) _⟩
    · have hnx : ∀ ty, (Instr.next (.pointer (some ⟨w.heap.size, 0, none⟩)) true ty).run Tryz.prog (w.iter s pos) = _ := fun ty => run_next_end w s pos ty hp
      have HF := Lib.hid (signs_fin hP (by rw [HL.out]; exact hp))
      clear hP
      go_wp2
      · have h1 : ((k : Int) == 0) = true := by assumption
        go_ret
        refine ⟨ret_int ?_, (Below.refl _ w).alloc (Nat.le_refl _) _⟩
        rw [HF.out, if_pos (by simp at h1; omega)]
      · have h1 : ((k : Int) == 0) = false := by assumption
        go_ret
        refine ⟨ret_int ?_, (Below.refl _ w).alloc (Nat.le_refl _) _⟩
        rw [HF.out, if_neg (by intro h; subst h; simp at h1)]

/-- label.Right, at every text. -/
theorem right_any (s : ByteArray) (w : World) (hs : s.size ≤ maxLen) :
    Calls Tryz.prog 98 #[.string s] w fun e w' => e = .returned (.bool (rightB s.data.toList)) ∧ Below w.heap.size w w' := by
  have hr := Lib.hid (right_signs s.data.toList)
  go_enter Tryz.func98, Tryz.ntmps98
  go_wp2_with (go_at_call 123; refine (signs_any _ _ hs).mono ?_; rintro e w' ⟨rfl, hb⟩)
  go_ret
  exact ⟨ret_bool hr.out, hb⟩

/-- A byte of a text, by its place. -/
theorem run_byte (s : ByteArray) (k : Nat) (h : k < s.size) (W : World) : (Instr.index 9 (.string s) (.int .i64 (k : Int))).run Tryz.prog W = .ok (.int .u8 ((s.data.toList.getD k 0).toNat : Int)) W := by
  rw [run_index_string W 9 s .i64 _ Tryz.underlying9, dif_pos ⟨by omega, by omega⟩]
  have g := get_bang s k h
  have g1 := get_at s k h
  simp only [Nat.add_zero] at g1
  have e : s[(k : Int).toNat]'(by simpa using h) = s[k]'h := rfl
  rw [e, ← g1, g]

end Go.Proofs.YtaghbfnikcldiaaGreat
