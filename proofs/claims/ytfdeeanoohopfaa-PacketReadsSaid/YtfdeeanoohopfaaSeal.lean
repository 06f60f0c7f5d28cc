/- What seal and agree of package packet, Equal of package bytes and the document's Four answer. -/
import Derived.Test.YtfdeeanoohopfaaOwn
import Derived.Deep.QuietTactic
import Derived.BigQuiet
namespace Go.Proofs.Ytfdeeanoohopfaa
open Go.ChangeShapes Go.WideShapes Go.ChangeAt Go.RowKit

/-- A test is answered, and nothing has turned. -/
def BoolSame (b : Bool) (w : World) (e : Ending) (w' : World) : Prop := e = .returned (.bool b) ∧ w = w'
/-- A test is answered; all that was there stays. -/
def BoolB (b : Bool) (w : World) (e : Ending) (w' : World) : Prop := e = .returned (.bool b) ∧ Below w.heap.size w w'

/-- Bytes that a call lays out itself are its own. -/
theorem own_block (l : List Nat) (h : l.length ≤ 10000000) (W : World) : OwnB (W.alloc (.cells (l.map bv).toArray 5)) W.heap.size (.slice (some ⟨W.heap.size, 0, none⟩) l.length l.length) l :=
  ⟨by simp, .inr ⟨W.heap.size, l.length, (l.map bv).toArray, rfl, Nat.le_refl _, heap_alloc_new W _, Nat.le_refl _, by unfold maxLen; omega, by simp, by simp [List.take_of_length_le]⟩⟩
theorem four_block (a b c d : Nat) (W : World) : OwnB (W.alloc (.cells #[.int .u8 (a : Int), .int .u8 (b : Int), .int .u8 (c : Int), .int .u8 (d : Int)] 5)) W.heap.size (.slice (some ⟨W.heap.size, 0, none⟩) 4 4) [a, b, c, d] := own_block [a, b, c, d] (by simp) W

theorem below_drewN {B : Nat} {a w : World} (h : Below B a w) (q : Nat) : Below B a (w.drewN q) := ⟨h.os, h.tape, h.output, h.size, h.block⟩
theorem drewN_below (w : World) (q : Nat) : Below w.heap.size w (w.drewN q) := below_drewN (Below.refl _ _) q

theorem quiet_same {f : FuncId} {args : Array Value} {w : World} {n : Nat} {b : Bool} (h : Calls Try.prog f args (w.drewN n) (BoolSame b (w.drewN n))) : Calls Try.prog f args (w.drewN n) fun e w'' => e = .returned (.bool b) ∧ ∃ m, w'' = w.drewN m :=
  h.mono fun _ _ ⟨he, hm⟩ => ⟨he, n, hm.symm⟩

set_option maxHeartbeats 2000000 in
theorem equal_any (a b : Option Addr) (ca cb : Nat) (l m : List Nat) (w : World) (h1 : BytesP w a ca l) (h2 : BytesP w b cb m) : Calls Try.prog 34 #[.slice a l.length ca, .slice b m.length cb] w (BoolSame (l == m) w) := by
  have t1 := run_text h1
  have t2 := run_text h2
  have ts := str_test h1.byte h2.byte
  clear h1 h2
  go_enter Try.func34, Try.ntmps34
  go_wp2_with fail
  go_ret
  exact ⟨rfl, rfl⟩

set_option maxHeartbeats 2000000 in
theorem refFour_any (n : Nat) (w : World) (hn : n < 4294967296) : Calls Try.prog 30 #[.int .u32 (n : Int)] w (OwnPost (four n) w) := by
  have e0 : IntKind.u8.wrap ((n : Int) % 256) = ((n % 256 : Nat) : Int) := by rw [IntKind.wrap_u8]; omega
  have e1 : IntKind.u8.wrap ((n : Int) / 256 % 256) = ((n / 256 % 256 : Nat) : Int) := by rw [IntKind.wrap_u8]; omega
  have e2 : IntKind.u8.wrap ((n : Int) / 65536 % 256) = ((n / 65536 % 256 : Nat) : Int) := by rw [IntKind.wrap_u8]; omega
  have e3 : IntKind.u8.wrap ((n : Int) / 16777216) = ((n / 16777216 % 256 : Nat) : Int) := by rw [IntKind.wrap_u8]; omega
  have B := Lib.hid (four_block (n % 256) (n / 256 % 256) (n / 65536 % 256) (n / 16777216 % 256) w)
  have F := Lib.hid (show four n = [n % 256, n / 256 % 256, n / 65536 % 256, n / 16777216 % 256] from rfl)
  generalize n % 256 = c0 at *
  generalize n / 256 % 256 = c1 at *
  generalize n / 65536 % 256 = c2 at *
  generalize n / 16777216 % 256 = c3 at *
  go_enter Try.func30, Try.ntmps30
  go_wp2_with fail
  go_ret
  exact ⟨_, rfl, by rw [F.out]; exact B.out, (Below.refl _ _).alloc (Nat.le_refl _) _⟩

set_option maxHeartbeats 2000000 in
theorem seal_any (a : Option Addr) (cap : Nat) (ls : List Part) (w : World) (h : ListsP w a cap ls) (hb : Bytes (flat ls)) : Calls Try.prog 24 #[.slice a ls.length cap] w (OwnPost (four (crc (flat ls))) w) := by
  have C := Lib.hid (of_any a cap ls w h)
  have hn := crc_lt hb
  clear h hb
  generalize crc (flat ls) = n at *
  have e0 : IntKind.u8.wrap (n : Int) = ((n % 256 : Nat) : Int) := by rw [IntKind.wrap_u8]; omega
  have e1 : IntKind.u8.wrap ((n : Int) / 256) = ((n / 256 % 256 : Nat) : Int) := by rw [IntKind.wrap_u8]; omega
  have e2 : IntKind.u8.wrap ((n : Int) / 65536) = ((n / 65536 % 256 : Nat) : Int) := by rw [IntKind.wrap_u8]; omega
  have e3 : IntKind.u8.wrap ((n : Int) / 16777216) = ((n / 16777216 % 256 : Nat) : Int) := by rw [IntKind.wrap_u8]; omega
  have B := Lib.hid (four_block (n % 256) (n / 256 % 256) (n / 65536 % 256) (n / 16777216 % 256) w)
  have F := Lib.hid (show four n = [n % 256, n / 256 % 256, n / 65536 % 256, n / 16777216 % 256] from rfl)
  generalize n % 256 = c0 at *
  generalize n / 256 % 256 = c1 at *
  generalize n / 65536 % 256 = c2 at *
  generalize n / 16777216 % 256 = c3 at *
  go_enter Try.func24, Try.ntmps24
  go_wp2_with fail
  refine C.out.mono ?_
  rintro e w1 ⟨rfl, rfl⟩
  go_wp2_with fail
  go_ret
  exact ⟨_, rfl, by rw [F.out]; exact B.out, (Below.refl _ _).alloc (Nat.le_refl _) _⟩

set_option maxHeartbeats 2000000 in
theorem agree_any (a b : Option Addr) (ca cb : Nat) (l m : List Nat) (w : World) (h1 : BytesP w a ca l) (h2 : BytesP w b cb m) : Calls Try.prog 25 #[.slice a l.length ca, .slice b m.length cb] w (BoolB (agreeL l m) w) := by
  have HA := Lib.hid (show agreeL l m = (l.take (min l.length m.length) == m.take (min l.length m.length)) from rfl)
  by_cases hlt : m.length < l.length
  · rw [Nat.min_eq_right (by omega)] at HA
    obtain ⟨a', ca', s1, k1⟩ := slice_to (a := a) h1.cap m.length (m.length : Int) rfl (by omega)
    obtain ⟨b', cb', s2, k2⟩ := slice_to (a := b) h2.cap m.length (m.length : Int) rfl (by omega)
    have C := Lib.hid (fun n => equal_any a' b' ca' cb' _ _ (w.drewN n) ((k1 w h1).below (drewN_below w n)) ((k2 w h2).below (drewN_below w n)))
    clear k1 k2 h1 h2
    generalize l.take m.length = l' at *
    generalize m.take m.length = m' at *
    go_enter Try.func25, Try.ntmps25
    go_wp2_with fail
    go_quiet ((go_at_call 34; exact quiet_same (C.out _)))
    go_wp2_with fail
    go_ret
    exact ⟨by rw [HA.out]; rfl, drewN_below _ _⟩
  · rw [Nat.min_eq_left (by omega)] at HA
    obtain ⟨a', ca', s1, k1⟩ := slice_to (a := a) h1.cap l.length (l.length : Int) rfl (by omega)
    obtain ⟨b', cb', s2, k2⟩ := slice_to (a := b) h2.cap l.length (l.length : Int) rfl (by omega)
    have C := Lib.hid (fun n => equal_any a' b' ca' cb' _ _ (w.drewN n) ((k1 w h1).below (drewN_below w n)) ((k2 w h2).below (drewN_below w n)))
    clear k1 k2 h1 h2
    generalize l.take l.length = l' at *
    generalize m.take l.length = m' at *
    go_enter Try.func25, Try.ntmps25
    go_wp2_with fail
    go_quiet ((go_at_call 34; exact quiet_same (C.out _)))
    go_wp2_with fail
    go_ret
    exact ⟨by rw [HA.out]; rfl, drewN_below _ _⟩

end Go.Proofs.Ytfdeeanoohopfaa
