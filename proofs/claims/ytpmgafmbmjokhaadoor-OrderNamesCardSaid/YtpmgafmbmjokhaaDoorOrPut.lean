/- What numbers and Put of package order answer, at every order that can be. -/
import Derived.Test.YtpmgafmbmjokhaaDoorOrRight
import Derived.Test.YtpmgafmbmjokhaaDoorBkReader
import Derived.Test.YtpmgafmbmjokhaaDoorOrRead
namespace Go.Proofs.YtpmgafmbmjokhaaDoor
open Go.RowKit Go.ChangeShapes Go.WideShapes Go.ChangeAt

def numsO (o : Od) : List Nat := [o.total.toNat, o.phase.toNat, givenN o.given, o.ref.toNat, o.batch.toNat]
/-- Numbers are answered, in memory of the call's own. -/
def NumsPost (l : List Nat) (w : World) (e : Ending) (w' : World) : Prop := ∃ a, e = .returned (.slice a l.length l.length) ∧ NumsP w' a l.length l ∧ Below w.heap.size w w'

theorem nums_five (a b c d e : Nat) (ha : a < 18446744073709551616) (hb : b < 18446744073709551616) (hc : c < 18446744073709551616) (hd : d < 18446744073709551616) (he : e < 18446744073709551616) (W : World) :
    NumsP (W.alloc (.cells #[.int .u64 (a : Int), .int .u64 (b : Int), .int .u64 (c : Int), .int .u64 (d : Int), .int .u64 (e : Int)] 47)) (some ⟨W.heap.size, 0, none⟩) 5 [a, b, c, d, e] := by
  refine ⟨by simp, by simp, fun n hn => ?_, fun _ => ⟨_, _, rfl, by simp, fun j x hj => ?_⟩⟩
  · simp at hn
    rcases hn with rfl | rfl | rfl | rfl | rfl <;> assumption
  · match j, hj with
    | 0, hj => simp at hj; subst hj; simp
    | 1, hj => simp at hj; subst hj; simp
    | 2, hj => simp at hj; subst hj; simp
    | 3, hj => simp at hj; subst hj; simp
    | 4, hj => simp at hj; subst hj; simp
    | _ + 5, hj => simp at hj
theorem nums_two (a b : Nat) (ha : a < 18446744073709551616) (hb : b < 18446744073709551616) (W : World) :
    NumsP (W.alloc (.cells #[.int .u64 (a : Int), .int .u64 (b : Int)] 47)) (some ⟨W.heap.size, 0, none⟩) 2 [a, b] := by
  refine ⟨by simp, by simp, fun n hn => ?_, fun _ => ⟨_, _, rfl, by simp, fun j x hj => ?_⟩⟩
  · simp at hn
    rcases hn with rfl | rfl <;> assumption
  · match j, hj with
    | 0, hj => simp at hj; subst hj; simp
    | 1, hj => simp at hj; subst hj; simp
    | _ + 2, hj => simp at hj
theorem strs_one (a : ByteArray) (W : World) : StrsP (W.alloc (.cells #[.string a] 9)) (some ⟨W.heap.size, 0, none⟩) 1 [a] := by
  refine ⟨by simp, by simp, fun _ => ⟨_, _, rfl, by simp, fun j x hj => ?_⟩⟩
  match j, hj with
  | 0, hj => simp at hj; subst hj; simp
  | _ + 1, hj => simp at hj
theorem strs_three (a b c : ByteArray) (W : World) : StrsP (W.alloc (.cells #[.string a, .string b, .string c] 9)) (some ⟨W.heap.size, 0, none⟩) 3 [a, b, c] := by
  refine ⟨by simp, by simp, fun _ => ⟨_, _, rfl, by simp, fun j x hj => ?_⟩⟩
  match j, hj with
  | 0, hj => simp at hj; subst hj; simp
  | 1, hj => simp at hj; subst hj; simp
  | 2, hj => simp at hj; subst hj; simp
  | _ + 3, hj => simp at hj

theorem wrap_64 (n : Int) (h0 : 0 ≤ n) (h1 : n ≤ 1000000000000) : ∃ m : Nat, IntKind.u64.wrap n = (m : Int) ∧ n.toNat = m ∧ m < 18446744073709551616 :=
  ⟨n.toNat, by rw [IntKind.wrap_u64]; omega, rfl, by omega⟩

set_option maxRecDepth 100000 in
set_option maxHeartbeats 4000000 in
theorem numbers_any (a : Option Addr) (cap : Nat) (o : Od) (w : World) (h : rightO o = true) : Calls Tryd.prog 18 #[odV a cap o] w (NumsPost (numsO o) w) := by
  obtain ⟨_, _, _, r4, r5, r6⟩ := rightO_of h
  obtain ⟨m1, e1, t1, q1⟩ := wrap_64 o.total r4.1 r4.2
  obtain ⟨m2, e2, t2, q2⟩ := wrap_64 o.phase (by omega) (by omega)
  obtain ⟨m3, e3, t3, q3⟩ := wrap_64 o.ref r5.2.1 (by omega)
  obtain ⟨m4, e4, t4, q4⟩ := wrap_64 o.batch r6.1 r6.2
  have HO := Lib.hid (show numsO o = [m1, m2, givenN o.given, m3, m4] by unfold numsO; rw [t1, t2, t3, t4])
  have H0 := Lib.hid (fun W => nums_five m1 m2 0 m3 m4 q1 q2 (by decide) q3 q4 W)
  have H1 := Lib.hid (fun W => nums_five m1 m2 1 m3 m4 q1 q2 (by decide) q3 q4 W)
  clear h r4 r5 r6 t1 t2 t3 t4 q1 q2 q3 q4
  rcases o with ⟨i, ls, c, z, s, t, p, g, r, b⟩
  dsimp only at *
  cases g with
  | false =>
    have B := Lib.hid ((Below.refl w.heap.size w).alloc (Nat.le_refl _) (Obj.cells #[.string i, .slice a ls.length cap, .string c, .string z, .string s, .int .i64 t, .int .i64 p, .bool false, .int .i64 r, .int .i64 b] 36))
    go_enter Tryd.func18, Tryd.ntmps18
    unfold odV
    go_wp2_with fail
    go_ret
    exact ⟨_, rfl, by rw [HO.out]; have := H0.out (w.alloc (Obj.cells #[.string i, .slice a ls.length cap, .string c, .string z, .string s, .int .i64 t, .int .i64 p, .bool false, .int .i64 r, .int .i64 b] 36)); rw [show (w.alloc (Obj.cells #[.string i, .slice a ls.length cap, .string c, .string z, .string s, .int .i64 t, .int .i64 p, .bool false, .int .i64 r, .int .i64 b] 36)).heap.size = w.heap.size + 1 by simp] at this; exact this, B.out.alloc B.out.size _⟩
  | true =>
    have B := Lib.hid ((Below.refl w.heap.size w).alloc (Nat.le_refl _) (Obj.cells #[.string i, .slice a ls.length cap, .string c, .string z, .string s, .int .i64 t, .int .i64 p, .bool true, .int .i64 r, .int .i64 b] 36))
    go_enter Tryd.func18, Tryd.ntmps18
    unfold odV
    go_wp2_with fail
    go_ret
    exact ⟨_, rfl, by rw [HO.out]; have := H1.out (w.alloc (Obj.cells #[.string i, .slice a ls.length cap, .string c, .string z, .string s, .int .i64 t, .int .i64 p, .bool true, .int .i64 r, .int .i64 b] 36)); rw [show (w.alloc (Obj.cells #[.string i, .slice a ls.length cap, .string c, .string z, .string s, .int .i64 t, .int .i64 p, .bool true, .int .i64 r, .int .i64 b] 36)).heap.size = w.heap.size + 1 by simp] at this; exact this, B.out.alloc B.out.size _⟩

end Go.Proofs.YtpmgafmbmjokhaaDoor
