/- Marks on a plate of the call's own; marks on two things that share nothing. -/
import Derived.Test.YtipikkniookanaaMkRead2
import Derived.Test.YtipikkniookanaaPair
namespace Go.Proofs.Ytipikkniookanaa
set_option maxRecDepth 100000
open Go.RowKit

section
variable {w0 w w' : World} {g : Nat} {P : Pl}

theorem Mine.mput (h : Mine w0 w g P) (side : Int) (round : Nat) (at_ : Int) (a : Option Addr) (cap : Nat) (l : List Nat) (hB : BytesP w a cap l) (hlo : P.loose.length < 100000) :
    Calls Try.prog 54 #[ptr g, .int .i64 side, .int .u64 (round : Int), .int .i64 at_, .slice a l.length cap] w (fun e w' => e = .returned (.int .i64 (P.mput side round at_ l).1) ∧ Mine w0 w' g (P.mput side round at_ l).2) := by
  obtain ⟨R, ⟨bs, bl, lv, h⟩, h2, h3⟩ := h
  refine (mput_any h side round at_ a cap l hB hlo).mono ?_
  rintro e w' ⟨rfl, hp, hk⟩
  exact ⟨rfl, Mine.of h2 h3 hp hk⟩
theorem Mine.read (h : Mine w0 w g P) (side : Int) : Calls Try.prog 49 #[ptr g, .int .i64 side] w (ReadPost (readL P.last side) w) := by
  obtain ⟨R, ⟨bs, bl, lv, h⟩, _, _⟩ := h
  exact read_any h side
theorem Mine.top (h : Mine w0 w g P) : Calls Try.prog 38 #[ptr g] w (NumB (topL P.last) w) := by
  obtain ⟨R, ⟨bs, bl, lv, h⟩, _, _⟩ := h
  exact top_any h
theorem Mine.room (h : Mine w0 w g P) : Calls Try.prog 39 #[ptr g] w (Same (.int .i64 ((P.sure.length / 2 : Nat) : Int)) w) := by
  obtain ⟨R, ⟨bs, bl, lv, h⟩, _, _⟩ := h
  exact room_any h
end

section
variable {w0 w : World} {B : World → (Nat → Prop) → Prop} {L : Nat → Prop} {g : Nat} {P : Pl}

theorem Pair.mput (sB : Stays B) (h : Pair w0 w (atPl g P) B L) (side : Int) (round : Nat) (at_ : Int) (a : Option Addr) (cap : Nat) (l : List Nat) (hB : BytesP w a cap l) (hlo : P.loose.length < 100000) :
    Calls Try.prog 54 #[ptr g, .int .i64 side, .int .u64 (round : Int), .int .i64 at_, .slice a l.length cap] w (fun e w' => e = .returned (.int .i64 (P.mput side round at_ l).1) ∧ Pair w0 w' (atPl g (P.mput side round at_ l).2) B L ∧ ∀ k, L k → w'.heap[k]? = w.heap[k]?) :=
  h.first sB fun _ ⟨_, _, _, h1⟩ => mput_any h1 side round at_ a cap l hB hlo
theorem Pair.mread (h : Pair w0 w (atPl g P) B L) (side : Int) : Calls Try.prog 49 #[ptr g, .int .i64 side] w (ReadPost (readL P.last side) w) := h.read fun _ ⟨_, _, _, h1⟩ => read_any h1 side
theorem Pair.mtop (h : Pair w0 w (atPl g P) B L) : Calls Try.prog 38 #[ptr g] w (NumB (topL P.last) w) := h.read fun _ ⟨_, _, _, h1⟩ => top_any h1
theorem Pair.mroom (h : Pair w0 w (atPl g P) B L) : Calls Try.prog 39 #[ptr g] w (Same (.int .i64 ((P.sure.length / 2 : Nat) : Int)) w) := h.read fun _ ⟨_, _, _, h1⟩ => room_any h1
end

theorem mput_good {P : Pl} (h : P.Good) (side : Int) (round : Nat) (at_ : Int) {l : List Nat} (hb : Bytes l) (hl : P.loose.length < 100000) : (P.mput side round at_ l).2.Good := by
  unfold Pl.mput
  split
  · rename_i hok
    simp [okPut] at hok
    exact h.put (markedC_is _ (by omega) hb) hl
  · exact h

theorem put_few (P : Pl) (i : Int) (c : List Nat) : (P.put i c).2.loose.length ≤ P.loose.length + 1 := by
  unfold Pl.put
  rcases P.spend_cases with ⟨e1, _, _, e⟩ | ⟨e1, e⟩
  · rw [e1]
    cases P.has i <;> simp
  · rw [e1, e]
    cases P.has i <;> simp
theorem flush_few (P : Pl) : P.flush.2.loose.length ≤ P.loose.length := by
  unfold Pl.flush
  rcases P.spend_cases with ⟨e1, _, _, e⟩ | ⟨e1, e⟩
  · rw [e1]; simp
  · rw [e1, e]; simp
theorem mput_few (P : Pl) (side : Int) (round : Nat) (at_ : Int) (l : List Nat) : (P.mput side round at_ l).2.loose.length ≤ P.loose.length + 1 := by
  unfold Pl.mput
  split
  · exact put_few P _ _
  · simp

end Go.Proofs.Ytipikkniookanaa
