/- What Frame of package packet answers. -/
import Derived.Test.YtfdeeanoohopfaaWrite
import Derived.Test.YtfdeeanoohopfaaSeal
import Derived.Test.YtfdeeanoohopfaaConcat
import Derived.Deep.RegionLaw
namespace Go.Proofs.Ytfdeeanoohopfaa
open Go.ChangeShapes Go.WideShapes Go.ChangeAt Go.RowKit

theorem lists_two {W : World} {a b : Option Addr} {ca cb : Nat} {k l : List Nat} (h1 : BytesP W a ca k) (h2 : BytesP W b cb l) (T : TypeId) :
    ListsP (W.alloc (.cells #[.slice a k.length ca, .slice b l.length cb] T)) (some ⟨W.heap.size, 0, none⟩) 2 [⟨a, ca, k⟩, ⟨b, cb, l⟩] := by
  have hB := (Below.refl W.heap.size W).alloc (Nat.le_refl _) (.cells #[.slice a k.length ca, .slice b l.length cb] T)
  refine ⟨by simp, by simp, fun p hp => ?_, fun _ => ⟨_, _, rfl, by simp, fun j v hj => ?_⟩⟩
  · simp at hp
    rcases hp with rfl | rfl
    · exact h1.below hB
    · exact h2.below hB
  · match j, hj with
    | 0, hj => simp at hj; subst hj; simp
    | 1, hj => simp at hj; subst hj; simp
    | _ + 2, hj => simp at hj

/-- Four bytes are answered in new memory; all that was there stays. -/
def SealPost (n : Nat) (W : World) (e : Ending) (w' : World) : Prop := ∃ a c, e = .returned (.slice a 4 c) ∧ BytesP w' a c (four n) ∧ Below W.heap.size W w'

theorem seal_two {W : World} {a b : Option Addr} {ca cb : Nat} {k l : List Nat} (h1 : BytesP W a ca k) (h2 : BytesP W b cb l) (N : Nat) (hN : W.heap.size = N) :
    Calls Try.prog 24 #[.slice (some ⟨N, 0, none⟩) 2 2] (W.alloc (.cells #[.slice a k.length ca, .slice b l.length cb] 22)) (SealPost (crc (k ++ l)) W) := by
  subst hN
  have hf : flat [⟨a, ca, k⟩, ⟨b, cb, l⟩] = k ++ l := by simp [flat]
  refine (seal_any _ _ _ _ (lists_two h1 h2 22) (by rw [hf]; exact bytes_app h1.byte h2.byte)).mono ?_
  rintro e w' ⟨v, rfl, ho, hb⟩
  obtain ⟨a', c', rfl, hB⟩ := ho.bytes (four_bytes _)
  rw [hf] at hB
  exact ⟨a', c', rfl, hB, ((Below.refl W.heap.size W).alloc (Nat.le_refl _) _).trans (hb.mono (by simp))⟩

theorem seal_two_drew {W : World} {a b : Option Addr} {ca cb : Nat} {k l : List Nat} (h1 : BytesP W a ca k) (h2 : BytesP W b cb l) (N : Nat) (hN : W.heap.size = N) :
    Calls Try.prog 24 #[.slice (some ⟨N, 0, none⟩) 2 2] (W.alloc (.cells #[.slice a k.length ca, .slice b l.length cb] 22)).drew (SealPost (crc (k ++ l)) W) :=
  (seal_two (W := W.drew) (h1.below (Below.refl _ W).drew) (h2.below (Below.refl _ W).drew) N hN).mono fun _ _ ⟨a, c, he, hB, hb⟩ => ⟨a, c, he, hB, hb.os, hb.tape, hb.output, hb.size, hb.block⟩

theorem seal_one {W : World} {a : Option Addr} {ca : Nat} {k : List Nat} (h1 : BytesP W a ca k) (N : Nat) (hN : W.heap.size = N) :
    Calls Try.prog 24 #[.slice (some ⟨N, 0, none⟩) 1 1] (W.alloc (.cells #[.slice a k.length ca] 22)) (SealPost (crc k) W) := by
  subst hN
  have hf : flat [⟨a, ca, k⟩] = k := by simp [flat]
  refine (seal_any _ _ _ _ (lists_one h1 22) (by rw [hf]; exact h1.byte)).mono ?_
  rintro e w' ⟨v, rfl, ho, hb⟩
  obtain ⟨a', c', rfl, hB⟩ := ho.bytes (four_bytes _)
  rw [hf] at hB
  exact ⟨a', c', rfl, hB, ((Below.refl W.heap.size W).alloc (Nat.le_refl _) _).trans (hb.mono (by simp))⟩

theorem seal_one_drew {W : World} {a : Option Addr} {ca : Nat} {k : List Nat} (h1 : BytesP W a ca k) (N : Nat) (hN : W.heap.size = N) :
    Calls Try.prog 24 #[.slice (some ⟨N, 0, none⟩) 1 1] (W.alloc (.cells #[.slice a k.length ca] 22)).drew (SealPost (crc k) W) :=
  (seal_one (W := W.drew) (h1.below (Below.refl _ W).drew) N hN).mono fun _ _ ⟨a, c, he, hB, hb⟩ => ⟨a, c, he, hB, hb.os, hb.tape, hb.output, hb.size, hb.block⟩

theorem concat_three {W : World} {a b c : Option Addr} {ca cb cc : Nat} {k l m : List Nat} (h1 : BytesP W a ca k) (h2 : BytesP W b cb l) (h3 : BytesP W c cc m) (h0 : 0 < k.length) (hl : k.length + l.length + m.length ≤ 1000000) (N : Nat) (hN : W.heap.size = N) :
    Calls Try.prog 23 #[.slice (some ⟨N, 0, none⟩) 3 3] (W.alloc (.cells #[.slice a k.length ca, .slice b l.length cb, .slice c m.length cc] 22)) (OwnPost (k ++ (l ++ m)) W) := by
  subst hN
  have hf : flat [⟨a, ca, k⟩, ⟨b, cb, l⟩, ⟨c, cc, m⟩] = k ++ (l ++ m) := by simp [flat]
  have hfl : (flat [⟨a, ca, k⟩, ⟨b, cb, l⟩, ⟨c, cc, m⟩]).length = k.length + (l.length + m.length) := by rw [hf, List.length_append, List.length_append]
  refine (concat_any _ _ _ _ (lists_three h1 h2 h3 22) (by rw [hfl]; omega) (by rw [hfl]; omega)).mono ?_
  rintro e w' ⟨v, rfl, ho, hb⟩
  rw [hf] at ho
  exact ⟨v, rfl, ho.base (by simp), ((Below.refl W.heap.size W).alloc (Nat.le_refl _) _).trans (hb.mono (by simp))⟩

/-- A frame's bytes in memory of the call's own, and no error. -/
def FramePost (l : List Nat) (w : World) (e : Ending) (w' : World) : Prop := ∃ v, e = .returned (.tuple #[v, .int .i64 0]) ∧ OwnB w' w.heap.size v l ∧ Below w.heap.size w w'

theorem head_block (k : Nat) (hk : k < 256) (W : World) : BytesP (W.alloc (.cells #[.int .u8 167, .int .u8 1, .int .u8 (k : Int)] 5)) (some ⟨W.heap.size, 0, none⟩) 3 [167, 1, k] :=
  bytes_block [167, 1, k] (by intro b hb; simp at hb; omega) (by simp) W 5 (0, 0)

theorem head_number (k n : Nat) (hk : k < 256) (hn : n ≤ 65536) (W : World) (N : Nat) (hN : W.heap.size = N) :
    Calls Try.prog 12 #[.slice (some ⟨N, 0, none⟩) 3 3, .slice (some ⟨N + 1, 0, none⟩) 1 1] ((W.alloc (.cells #[.int .u8 167, .int .u8 1, .int .u8 (k : Int)] 5)).alloc (.cells #[.int .u64 (n : Int)] 33))
      (fun e w' => ∃ a c, e = .returned (.slice a (167 :: 1 :: k :: numL n).length c) ∧ BytesP w' a c (167 :: 1 :: k :: numL n) ∧ Below W.heap.size W w') := by
  subst hN
  have h1 := (head_block k hk W).below ((Below.refl _ _).alloc (Nat.le_refl _) (.cells #[.int .u64 (n : Int)] 33))
  have h2 := nums_one n (by omega) (W.alloc (.cells #[.int .u8 167, .int .u8 1, .int .u8 (k : Int)] 5))
  have hs : (W.alloc (.cells #[.int .u8 167, .int .u8 1, .int .u8 (k : Int)] 5)).heap.size = W.heap.size + 1 := by simp
  rw [hs] at h2
  refine (number_any _ _ _ _ _ _ _ h1 h2 (by simp) (by simp)).mono ?_
  rintro e w' ⟨v, rfl, ho, hb⟩
  have hf : [167, 1, k] ++ numsL [n] = 167 :: 1 :: k :: numL n := by simp [numsL]
  rw [hf] at ho
  obtain ⟨a', c', rfl, hB⟩ := ho.bytes (by
    intro b hb
    simp only [List.mem_cons] at hb
    rcases hb with rfl | rfl | rfl | hb
    · decide
    · decide
    · exact hk
    · exact numL_bytes _ b hb)
  exact ⟨a', c', rfl, hB, (((Below.refl W.heap.size W).alloc (Nat.le_refl _) _).alloc (by simp) _).trans (hb.mono (by simp; omega))⟩

set_option maxHeartbeats 4000000 in
theorem frame_any (k : Nat) (a : Option Addr) (cap : Nat) (l : List Nat) (w : World) (h : BytesP w a cap l) (hk : k < 256) (hl : l.length ≤ 65536) : Calls Try.prog 9 #[.agg #[.int .u8 (k : Int), .slice a l.length cap]] w (FramePost (frameL k l) w) := by
  have hwz : IntKind.u64.wrap (l.length : Int) = (l.length : Int) := by rw [IntKind.wrap_u64]; omega
  have hl' : decide (65536 < (l.length : Int)) = false := by simp; omega
  have b1 := (Below.refl w.heap.size w).alloc (Nat.le_refl _) (.cells #[.int .u8 (k : Int), .slice a l.length cap] 27)
  have H1 := Lib.hid (h.below b1)
  have C1 := Lib.hid (head_number k l.length hk hl (w.alloc (.cells #[.int .u8 (k : Int), .slice a l.length cap] 27)) (w.heap.size + 1) (by simp))
  have F1 := Lib.hid (show (w.alloc (.cells #[.int .u8 (k : Int), .slice a l.length cap] 27)).cell? ⟨w.heap.size, 1, none⟩ = some (.slice a l.length cap) by simp)
  have hsz := Lib.hid (show w.heap.size < (w.alloc (.cells #[.int .u8 (k : Int), .slice a l.length cap] 27)).heap.size by simp)
  have HF := Lib.hid (show frameL k l = (167 :: 1 :: k :: numL l.length) ++ (l ++ four (crc ((167 :: 1 :: k :: numL l.length) ++ l))) from rfl)
  have h0 := Lib.hid (show 0 < (167 :: 1 :: k :: numL l.length).length by simp)
  have hnl := Lib.hid (show (167 :: 1 :: k :: numL l.length).length ≤ 13 by have := numL_ten (show l.length < 18446744073709551616 by omega); simp; omega)
  clear h
  generalize 167 :: 1 :: k :: numL l.length = hd at *
  go_enter Try.func9, Try.ntmps9
  go_wp2_with fail
  refine C1.out.mono ?_
  rintro e w4 ⟨a4, c4, rfl, hB4, b4⟩
  have HB4 := Lib.hid hB4
  have HL4 := Lib.hid (H1.out.below b4)
  have f4 : w4.cell? ⟨w.heap.size, 1, none⟩ = some (.slice a l.length cap) := (b4.cell (p := ⟨w.heap.size, 1, none⟩) hsz.out).trans F1.out
  have hz4 := Lib.hid (Nat.lt_of_lt_of_le hsz.out b4.size)
  have f5 : (w4.alloc (.cells #[.slice a4 hd.length c4, .slice a l.length cap] 22)).cell? ⟨w.heap.size, 1, none⟩ = some (.slice a l.length cap) := (((Below.refl w4.heap.size w4).alloc (Nat.le_refl _) _).cell (p := ⟨w.heap.size, 1, none⟩) hz4.out).trans f4
  have bb4 := Lib.hid (b1.trans (b4.mono b1.size))
  clear hB4 b4 b1 C1 F1
  have C2 := Lib.hid (fun N hN => seal_two HB4.out HL4.out N hN)
  have C2d := Lib.hid (fun N hN => seal_two_drew HB4.out HL4.out N hN)
  have C3 := Lib.hid (fun W a6 c6 (b : Below w4.heap.size w4 W) (h : BytesP W a6 c6 (four (crc (hd ++ l)))) N hN => concat_three (HB4.out.below b) (HL4.out.below b) h h0.out (by rw [four_len]; have := hnl.out; omega) N hN)
  rw [show (four (crc (hd ++ l))).length = 4 from rfl] at C3
  go_wp2_with fail
  go_region_law (go_simp; first
    | (go_at_call 24; (first | refine (C2.out _ (by simp)).mono ?_ | refine (C2d.out _ (by simp)).mono ?_); rintro e w6 ⟨a6, c6, rfl, hB6, b6⟩; have HB6 := Lib.hid hB6; have BB6 := Lib.hid b6; have f6 : w6.cell? ⟨w.heap.size, 1, none⟩ = some (.slice a l.length cap) := (b6.cell (p := ⟨w.heap.size, 1, none⟩) hz4.out).trans f4; clear hB6 b6)
    | (go_at_call 23; refine (C3.out _ a6 c6 BB6.out HB6.out _ (by simp)).mono ?_; rintro e w7 ⟨v7, rfl, o7, b7⟩; have O7 := Lib.hid o7; have B7 := Lib.hid b7; clear o7 b7))
  all_goals
    go_wp2_with fail
    go_ret2
    have bw6 := bb4.out.trans (BB6.out.mono bb4.out.size)
    exact ⟨_, rfl, by rw [HF.out]; exact O7.out.base bw6.size, bw6.trans (B7.out.mono bw6.size)⟩

set_option maxHeartbeats 4000000 in
/-- A frame that is too long. -/
theorem frame_long (k : Int) (a : Option Addr) (n cap : Nat) (w : World) (hl : 65536 < n) : Calls Try.prog 9 #[.agg #[.int .u8 k, .slice a n cap]] w (fun e w' => e = .returned (.tuple #[.slice none 0 0, .int .i64 63]) ∧ Below w.heap.size w w') := by
  have hl' : decide (65536 < (n : Int)) = true := by simp; omega
  go_enter Try.func9, Try.ntmps9
  go_wp2_with fail
  go_ret2
  exact ⟨rfl, (Below.refl w.heap.size w).alloc (Nat.le_refl _) _⟩

end Go.Proofs.Ytfdeeanoohopfaa
