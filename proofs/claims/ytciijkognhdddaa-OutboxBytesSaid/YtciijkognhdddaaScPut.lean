/- Lists of numbers and texts that a call writes: their rows, and how long their bytes are. -/
import Derived.Test.YtciijkognhdddaaScRead
namespace Go.Proofs.Ytciijkognhdddaa
set_option maxRecDepth 100000
open Go.RowKit

theorem nums_five (a b c d e : Nat) (ha : a < 18446744073709551616) (hb : b < 18446744073709551616) (hc : c < 18446744073709551616) (hd : d < 18446744073709551616) (he : e < 18446744073709551616) (W : World) :
    NumsP (W.alloc (.cells #[.int .u64 (a : Int), .int .u64 (b : Int), .int .u64 (c : Int), .int .u64 (d : Int), .int .u64 (e : Int)] 69)) (some ⟨W.heap.size, 0, none⟩) 5 [a, b, c, d, e] := by
  refine ⟨by simp, by simp, fun n hn => ?_, fun _ => ⟨_, _, rfl, by simp, fun j x hj => ?_⟩⟩
  · simp at hn
    rcases hn with rfl | rfl | rfl | rfl | rfl <;> assumption
  · match j, hj with
    | 0, hj => simp at hj; subst hj; simp
    | 1, hj => simp at hj; subst hj; simp
    | 2, hj => simp at hj; subst hj; simp
    | 3, hj => simp at hj; subst hj; simp
    | 4, hj => simp at hj; subst hj; simp
    | _ + 5, hj => simp at hj
theorem nums_two (a b : Nat) (ha : a < 18446744073709551616) (hb : b < 18446744073709551616) (W : World) :
    NumsP (W.alloc (.cells #[.int .u64 (a : Int), .int .u64 (b : Int)] 69)) (some ⟨W.heap.size, 0, none⟩) 2 [a, b] := by
  refine ⟨by simp, by simp, fun n hn => ?_, fun _ => ⟨_, _, rfl, by simp, fun j x hj => ?_⟩⟩
  · simp at hn
    rcases hn with rfl | rfl <;> assumption
  · match j, hj with
    | 0, hj => simp at hj; subst hj; simp
    | 1, hj => simp at hj; subst hj; simp
    | _ + 2, hj => simp at hj
theorem strs_one (a : ByteArray) (W : World) : StrsP (W.alloc (.cells #[.string a] 9)) (some ⟨W.heap.size, 0, none⟩) 1 [a] := by
  refine ⟨by simp, by simp, fun _ => ⟨_, _, rfl, by simp, fun j x hj => ?_⟩⟩
  match j, hj with
  | 0, hj => simp at hj; subst hj; simp
  | _ + 1, hj => simp at hj
theorem strs_three (a b c : ByteArray) (W : World) : StrsP (W.alloc (.cells #[.string a, .string b, .string c] 9)) (some ⟨W.heap.size, 0, none⟩) 3 [a, b, c] := by
  refine ⟨by simp, by simp, fun _ => ⟨_, _, rfl, by simp, fun j x hj => ?_⟩⟩
  match j, hj with
  | 0, hj => simp at hj; subst hj; simp
  | 1, hj => simp at hj; subst hj; simp
  | 2, hj => simp at hj; subst hj; simp
  | _ + 3, hj => simp at hj
theorem wrap_64 (n : Int) (h0 : 0 ≤ n) (h1 : n ≤ 1000000000000) : ∃ m : Nat, IntKind.u64.wrap n = (m : Int) ∧ n.toNat = m ∧ m < 18446744073709551616 :=
  ⟨n.toNat, by rw [IntKind.wrap_u64]; omega, rfl, by omega⟩

theorem textN (a2 : Option Addr) (c2 : Nat) (ns : List ByteArray) (W : World) (h : StrsP W a2 c2 ns) (hn : ns.length ≤ 1000) (hs : ∀ x ∈ ns, x.size ≤ 800) (y : List Nat) (hy : textsL ns = y) :
    Calls Try.prog 45 #[.slice none 0 0, .slice a2 ns.length c2] W (OwnPost y W) := by
  have := text_any none a2 0 c2 [] ns W (BytesP.nil _ _ _) h (by simp) hn hs
  rw [List.nil_append, hy] at this
  exact this
theorem numN (a2 : Option Addr) (c2 : Nat) (ns : List Nat) (W : World) (h : NumsP W a2 c2 ns) (hn : ns.length ≤ 1000) (y : List Nat) (hy : numsL ns = y) :
    Calls Try.prog 44 #[.slice none 0 0, .slice a2 ns.length c2] W (OwnPost y W) := by
  have := number_any none a2 0 c2 [] ns W (BytesP.nil _ _ _) h (by simp) hn
  rw [List.nil_append, hy] at this
  exact this
theorem textL_32 {s : ByteArray} (h : s.size ≤ 32) : (textL s).length ≤ 42 := by
  have := numL_ten (show s.size < 18446744073709551616 by omega)
  unfold textL
  rw [List.length_append, strL_len]
  omega
theorem numsL_len : ∀ (l : List Nat), (∀ n ∈ l, n < 18446744073709551616) → (numsL l).length ≤ 10 * l.length
  | [], _ => by simp [numsL]
  | n :: l, h => by
    have h1 := numL_ten (h n (by simp))
    have h2 := numsL_len l (fun m hm => h m (by simp [hm]))
    unfold numsL at h2 ⊢
    rw [List.map_cons, List.flatten_cons, List.length_append, List.length_cons]
    omega

/-- What is put behind own bytes is nothing to a block of other cells. -/
theorem Row.own {W W' : World} {base X : Nat} {T : TypeId} {cs : Array Value} {v : Value} {acc : List Nat} (h : Row W X T cs) (o : OwnB W base v acc) (hT : T ≠ 5) (g : W.grownBy W' v.ownBlock) : Row W' X T cs := by
  refine (g.block X h.lt (fun e => ?_)).trans h
  rcases o.2 with ⟨rfl, _⟩ | ⟨k, cap, cur, rfl, _, h2, _⟩
  · cases e
  · injection e with e
    subst e
    unfold Row at h
    rw [h2] at h
    injection h with h
    injection h with _ h
    exact hT h.symm
theorem Row.nth {α : Type} {W : World} {X : Nat} {T : TypeId} {l : List α} {f : α → Value} (h : Row W X T (l.map f).toArray) (k : Nat) (hk : k < l.length) : W.cell? ⟨X, k, none⟩ = some (f l[k]) := by
  rw [h.cell k]
  simp [hk]
theorem textsL_app (a b : List ByteArray) : textsL (a ++ b) = textsL a ++ textsL b := by simp [textsL]

end Go.Proofs.Ytciijkognhdddaa
