/- What Cut of package label answers, at every text and every number. -/
import Derived.Test.YtobicfkbpoimnaaDoorNext
import Derived.Test.YtobicfkbpoimnaaDoorPlain5
namespace Go.Proofs.YtobicfkbpoimnaaDoor
open Go.RowKit

def cutN (l : List UInt8) (n : Int) : List UInt8 := cutL l n.toNat

theorem cutN_none {l : List UInt8} (n : Int) (h : labOf l = none) : cutN l n = [] := by simp [cutN, cutL, h]
theorem cutN_low {l : List UInt8} {n : Int} (h : n < 1) : cutN l n = [] := by
  have : n.toNat = 0 := by omega
  unfold cutN cutL
  rw [this]
  split <;> simp

theorem right_none {l : List UInt8} (h : rightB l = false) : labOf l = none := by
  unfold rightB at h
  cases e : labOf l with
  | none => rfl
  | some cs => rw [e] at h; simp at h
theorem right_some {l : List UInt8} (h : rightB l = true) : ∃ cs, labOf l = some cs := by
  unfold rightB at h
  cases e : labOf l with
  | none => rw [e] at h; simp at h
  | some cs => exact ⟨cs, rfl⟩

set_option maxHeartbeats 2000000 in
theorem cut_any (s : ByteArray) (n : Int) (w : World) (hs : s.size ≤ maxLen) :
    Calls Tryd.prog 17 #[.string s, .int .i64 n] w fun e w' => e = .returned (.string ⟨(cutN s.data.toList n).toArray⟩) ∧ Below w.heap.size w w' := by
  cases hr : rightB s.data.toList with
  | false =>
    have HC := Lib.hid (cutN_none n (right_none hr))
    have HR := Lib.hid hr
    clear hr
    go_enter Tryd.func17, Tryd.ntmps17
    go_wp2_with fail
    refine (right_any _ _ hs).mono ?_
    rintro e w1 ⟨rfl, b1⟩
    rw [HR.out]
    go_wp2_with fail
    go_ret
    exact ⟨by rw [HC.out]; rfl, b1⟩
  | true =>
    by_cases hn : n < 1
    · have hd : decide (n < 1) = true := by simpa using hn
      have HC := Lib.hid (cutN_low (l := s.data.toList) hn)
      have HR := Lib.hid hr
      clear hr
      go_enter Tryd.func17, Tryd.ntmps17
      go_wp2_with fail
      refine (right_any _ _ hs).mono ?_
      rintro e w1 ⟨rfl, b1⟩
      rw [HR.out]
      go_wp2_with fail
      go_ret
      exact ⟨by rw [HC.out]; rfl, b1⟩
    · have hd : decide (n < 1) = false := by simpa using hn
      obtain ⟨cs, hcs⟩ := right_some hr
      have HS := Lib.hid hcs
      have HL := Lib.hid (Lib.size_eq s)
      have HR := Lib.hid hr
      have hsz := right_len hr
      rw [← Lib.size_eq] at hsz
      clear hr hcs
      go_enter Tryd.func17, Tryd.ntmps17
      go_wp2_with fail
      refine (right_any _ _ hs).mono ?_
      rintro e w1 ⟨rfl, b1⟩
      rw [HR.out]
      go_wp2_with fail
      go_loopw [5] (fun c wr => ∃ (pos k : Nat) (pre : List (List UInt8)), wr = w1.iter s pos ∧ c = .int .i64 k ∧ (k : Int) ≤ n ∧ k ≤ 16 ∧ pos ≤ s.size ∧ Hid (Pre s.data.toList pos k pre)) (fun _ wr => s.size - wr.iterPos w1.heap.size)
      case atStart => exact ⟨0, 0, [], rfl, rfl, by omega, by omega, by omega, Pre.nil _⟩
      case round =>
        obtain ⟨pos, k, pre, rfl, rfl, hkn, hk16, hps, HP⟩ := hrel
        by_cases hp : pos < s.size
        · have hnx : ∀ ty, (Instr.next (.pointer (some ⟨w1.heap.size, 0, none⟩)) true ty).run Tryd.prog (w1.iter s pos) = _ := fun ty => run_next_any w1 s pos ty hp
          have hd2 := Lib.hid (show DecSg s.data.toList pos _ _ from decode_sg s pos hp)
          have hw := Lib.hid (decode_wd s pos hp)
          have hp2 := Lib.hid (HP.out.stepLab (by rw [← HL.out]; exact hp) hd2.out HS.out)
          generalize (Utf8.decode s pos).1 = r at *
          generalize (Utf8.decode s pos).2 = wd at *
          by_cases hkn2 : (k : Int) = n
          · have hb : ((k : Int) == n) = true := by simpa using hkn2
            have c1 : (0 : Int) ≤ (pos : Int) := by omega
            have c2 : (pos : Int) ≤ (s.size : Int) := by omega
            have HF := Lib.hid (show cutN s.data.toList n = s.data.toList.take pos by
              unfold cutN cutL
              rw [HS.out, ← hkn2]
              show (cs.take (k : Int).toNat).flatten = _
              rw [Int.toNat_natCast, HP.out.take HS.out, HP.out.flat])
            clear hkn2
            go_wp2_with fail
            go_ret
            refine ⟨?_, b1.alloc b1.size _⟩
            rw [HF.out, ← Lib.extract_upto]
            rfl
          · have hb : ((k : Int) == n) = false := by simpa using hkn2
            clear hkn2
            go_wp2_with fail
            go_roundw
            case rel =>
              have hne : ¬ (k : Int) = n := by simpa using hb
              exact ⟨pos + wd, k + 1, _, rfl, by go_num, by omega, hp2.out.most, by rw [HL.out]; exact hp2.out.le, hp2⟩
            case measure => have := hw.out; simp; omega
        · have hnx : ∀ ty, (Instr.next (.pointer (some ⟨w1.heap.size, 0, none⟩)) true ty).run Tryd.prog (w1.iter s pos) = _ := fun ty => run_next_end w1 s pos ty hp
          have HF := Lib.hid (show cutN s.data.toList n = s.data.toList by
            have hf := HP.out.fin (by rw [← HL.out]; exact hp)
            rw [HS.out] at hf
            have hk0 : k ≠ 0 := by intro e; rw [if_pos e] at hf; cases hf
            rw [if_neg hk0] at hf
            cases hf
            have hlen := HP.out.len
            unfold cutN cutL
            rw [HS.out]
            show (cs.take n.toNat).flatten = _
            rw [List.take_of_length_le (by omega)]
            exact (chunks_some (labOf_some.1 HS.out).1).1)
          go_wp2_with fail
          go_ret
          refine ⟨?_, b1.alloc b1.size _⟩
          rw [HF.out, Lib.mk_data]
          rfl

end Go.Proofs.YtobicfkbpoimnaaDoor
