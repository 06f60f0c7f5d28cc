/- The chapter's example, and a frame: what packetAlive answers. -/
import Derived.Test.YtfdeeanoohopfaaOpen
namespace Go.Proofs.Ytfdeeanoohopfaa
open Go.ChangeShapes Go.WideShapes Go.ChangeAt Go.RowKit

/-- Bytes in new memory; all that was there stays. -/
def BytesPost (l : List Nat) (n : Nat) (W : World) (e : Ending) (w' : World) : Prop := ∃ a c, e = .returned (.slice a n c) ∧ BytesP w' a c l ∧ Below W.heap.size W w'

/-- One number behind nothing. -/
theorem number_nil (n : Nat) (i : Int) (hi : i = (n : Int)) (hn : n < 18446744073709551616) (W : World) (N : Nat) (hN : W.heap.size = N) :
    Calls Try.prog 12 #[.slice none 0 0, .slice (some ⟨N, 0, none⟩) 1 1] (W.alloc (.cells #[.int .u64 i] 33)) (BytesPost (numL n) (numL n).length W) := by
  subst hN hi
  have h2 := nums_one n hn W
  refine (number_any none _ 0 1 [] [n] _ (BytesP.nil _ _ _) h2 (by simp) (by simp)).mono ?_
  rintro e w' ⟨v, rfl, ho, hb⟩
  have hf : [] ++ numsL [n] = numL n := by simp [numsL]
  rw [hf] at ho
  obtain ⟨a', c', rfl, hB⟩ := ho.bytes (numL_bytes n)
  exact ⟨a', c', rfl, hB, ((Below.refl W.heap.size W).alloc (Nat.le_refl _) _).trans (hb.mono (by simp))⟩

theorem numL_300 : numL 300 = [172, 2] := by rw [numL_great (by decide), numL_small (by decide)]
theorem frame_ab_len : (frameL 3 [97, 98]).length = 10 := by
  rw [frameL_len, numL_small (by decide)]
  rfl
theorem bytes_ab : Bytes [97, 98] := by unfold Bytes; decide
theorem ab_block (W : World) : BytesP (W.alloc (.cells #[.int .u8 97, .int .u8 98] 5 (2, 3))) (some ⟨W.heap.size, 0, none⟩) 2 [97, 98] := bytes_block [97, 98] bytes_ab (by simp) W 5 (2, 3)

theorem frame_ab (W : World) (N : Nat) (hN : W.heap.size = N) : Calls Try.prog 9 #[.agg #[.int .u8 3, .slice (some ⟨N, 0, none⟩) 2 2]] (W.alloc (.cells #[.int .u8 97, .int .u8 98] 5 (2, 3)))
    (fun e w' => ∃ a c, e = .returned (.tuple #[.slice a 10 c, .int .i64 0]) ∧ BytesP w' a c (frameL 3 [97, 98]) ∧ Below W.heap.size W w') := by
  subst hN
  refine (frame_any 3 _ 2 [97, 98] _ (ab_block W) (by decide) (by decide)).mono ?_
  rintro e w' ⟨v, rfl, ho, hb⟩
  obtain ⟨a', c', rfl, hB⟩ := ho.bytes (frameL_bytes (by decide) bytes_ab)
  rw [frame_ab_len]
  exact ⟨a', c', rfl, hB, ((Below.refl W.heap.size W).alloc (Nat.le_refl _) _).trans (hb.mono (by simp))⟩

theorem open_ab (a : Option Addr) (c : Nat) (w : World) (h : BytesP w a c (frameL 3 [97, 98])) : Calls Try.prog 10 #[.slice a 10 c] w
    (fun e w' => ∃ a' c', e = .returned (.tuple #[.agg #[.int .u8 3, .slice a' 2 c'], .int .i64 10, .int .i64 0]) ∧ BytesP w' a' c' [97, 98] ∧ Below w.heap.size w w') := by
  have C := open_any a c _ w h (by rw [frame_ab_len]; decide)
  have e := open_frame 3 [97, 98] [] (by decide)
  rw [List.append_nil, frame_ab_len] at e
  rw [frame_ab_len, e] at C
  exact C

theorem row_keep {w w' : World} {g : Nat} {cs : Array Value} {T : TypeId} (h : w.heap[g]? = some (.cells cs T (0, 0))) (hb : Below w.heap.size w w') : w'.heap[g]? = some (.cells cs T (0, 0)) :=
  (hb.block g (Array.getElem?_eq_some_iff.1 h).1).trans h

/-- A call that answers true and leaves what was there. -/
def TrueB (w : World) (e : Ending) (w' : World) : Prop := e = .returned (.bool true) ∧ Below w.heap.size w w'

set_option maxHeartbeats 4000000 in
theorem alive_any (w : World) : Calls Try.prog 14 #[] w (TrueB w) := by
  have kc := fun (w : World) (C : Array Value) (n c : Nat) => Lib.run_convert_bytes_const (P := Try.prog) w 22 5 C n c Try.underlying22 Try.underlying5
  have C1 := Lib.hid (frame_ab w w.heap.size rfl)
  have C3 := Lib.hid (fun W N hN => number_nil 300 300 rfl (by decide) W N hN)
  rw [numL_300] at C3
  go_enter Try.func14, Try.ntmps14
  go_wp2_with fail
  refine C1.out.mono ?_
  rintro e w1 ⟨a1, c1, rfl, hB1, b1⟩
  have C2 := Lib.hid (open_ab a1 c1 w1 hB1)
  clear hB1 C1
  go_wp2_with fail
  refine C2.out.mono ?_
  rintro e w2 ⟨a2, c2, rfl, hB2, b2⟩
  have HB2 := Lib.hid hB2
  have B2 := Lib.hid (b1.trans (b2.mono b1.size))
  clear hB2 b1 b2
  have bx := (Below.refl w2.heap.size w2).alloc (Nat.le_refl _) (.cells #[.int .u8 3, .slice a2 2 c2] 27)
  have HG := Lib.hid (heap_alloc_new w2 (.cells #[.int .u8 3, .slice a2 2 c2] 27))
  go_wp2_with fail
  refine (C3.out _ (w2.heap.size + 1) (by simp)).mono ?_
  rintro e w3 ⟨a3, c3, rfl, hB3, b3⟩
  obtain ⟨y1, y2, _, _⟩ := row_cell (row_keep HG.out b3)
  have b4 := bx.trans (b3.mono bx.size)
  have t1 : (convert 22 9 (.slice a3 2 c3)).run Try.prog w3 = .ok (.string ⟨#[172, 2]⟩) w3 := run_text hB3
  have t2 : (convert 22 9 (.slice a2 2 c2)).run Try.prog w3 = .ok (.string ⟨#[97, 98]⟩) w3 := run_text (HB2.out.below b4)
  have B4 := Lib.hid (B2.out.trans (b4.mono B2.out.size))
  clear hB3 b3 b4
  go_wp2_with fail
  go_ret
  exact ⟨rfl, B4.out⟩

end Go.Proofs.Ytfdeeanoohopfaa
