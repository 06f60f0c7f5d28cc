/- Slices of bytes in memory; what bit of package plate answers. -/
import Derived.Test.YtipikkniookanaaFlush
import Derived.Laws.ShiftsVarLaws
namespace Go.Proofs.Ytipikkniookanaa
open Go.RowKit

/-- A slice reads as these bytes. -/
structure BytesP (w : World) (a : Option Addr) (cap : Nat) (l : List Nat) : Prop where
  cap : l.length ≤ cap
  len : l.length ≤ 9223372036854775807
  byte : Bytes l
  cell : l ≠ [] → ∃ b o, a = some ⟨b, o, none⟩ ∧ b < w.heap.size ∧ ∀ (j x : Nat), l[j]? = some x → w.cell? ⟨b, o + j, none⟩ = some (.int .u8 (x : Int))

theorem BytesP.below {w w' : World} {a cap l} (h : BytesP w a cap l) (hb : Below w.heap.size w w') : BytesP w' a cap l := by
  refine ⟨h.cap, h.len, h.byte, fun hne => ?_⟩
  obtain ⟨b, o, e, hlt, hc⟩ := h.cell hne
  exact ⟨b, o, e, Nat.lt_of_lt_of_le hlt hb.size, fun j x hx => (hb.cell (p := ⟨b, o + j, none⟩) hlt).trans (hc j x hx)⟩
theorem BytesP.nil (w : World) (a : Option Addr) (cap : Nat) : BytesP w a cap [] := ⟨by simp, by simp, fun _ h => by simp at h, fun h => absurd rfl h⟩
/-- It lies in none of these blocks. -/
def Off (R : Nat → Prop) (a : Option Addr) : Prop := ∀ b o, a = some ⟨b, o, none⟩ → ¬ R b
theorem BytesP.keep {w w' : World} {a cap l} {R : Nat → Prop} (h : BytesP w a cap l) (hk : Keep R w w') (ho : l ≠ [] → Off R a) : BytesP w' a cap l := by
  refine ⟨h.cap, h.len, h.byte, fun hne => ?_⟩
  obtain ⟨b, o, e, hlt, hc⟩ := h.cell hne
  exact ⟨b, o, e, Nat.lt_of_lt_of_le hlt hk.size, fun j x hx => (World.cell?_of_block (a := ⟨b, o + j, none⟩) (hk.block b hlt (ho hne b o e))).trans (hc j x hx)⟩

theorem and_one8 (n r : Nat) (h : n < 256) : bits .and .u8 ((n : Int) / 2 ^ r) 1 = (n : Int) / 2 ^ r % 2 := by
  have e : (n : Int) / 2 ^ r = ((n / 2 ^ r : Nat) : Int) := by simp
  have := u8_and_nat (n / 2 ^ r) 1 (Nat.lt_of_le_of_lt (Nat.div_le_self _ _) h) (by decide)
  rw [nat_mask1] at this
  rw [e]
  exact this

set_option maxHeartbeats 2000000 in
theorem bit_any (a : Option Addr) (cap : Nat) (l : List Nat) (k : Nat) (w : World) (h : BytesP w a cap l) (hk : k ≤ 1000000) : Calls Try.prog 48 #[.slice a l.length cap, .int .i64 (k : Int)] w (Same (.bool (bitOf l k)) w) := by
  have hl := h.len
  have hc := h.cap
  obtain ⟨q, hq, HQ⟩ : ∃ q : Nat, (k : Int) / 8 = (q : Int) ∧ Hid (q = k / 8) := ⟨k / 8, by omega, rfl⟩
  obtain ⟨r, hr, HR⟩ : ∃ r : Nat, (k : Int) % 8 = (r : Int) ∧ Hid (r = k % 8) := ⟨k % 8, by omega, rfl⟩
  have hr8 : r < 8 := by have := HR.out; omega
  by_cases hlt : q < l.length
  · obtain ⟨b, o, rfl, hb, hcl⟩ := h.cell (by intro e; subst e; simp at hlt)
    have g1 := hcl q _ (List.getElem?_eq_getElem hlt)
    have hx : l[q] < 256 := h.byte _ (List.getElem_mem hlt)
    have HE := Lib.hid (show bitOf l k = (l[q] / 2 ^ r % 2 == 1) by unfold bitOf; rw [← HQ.out, ← HR.out, List.getElem?_eq_getElem hlt])
    generalize l[q] = x at *
    have ha := and_one8 x r hx
    have hmin : min r 8 = r := by omega
    clear h hcl
    cases t : ((x : Int) / 2 ^ r % 2 == 1) with
    | true =>
      have E := Lib.hid (show bitOf l k = true by
        rw [HE.out]
        have e : (x : Int) / 2 ^ r % 2 = ((x / 2 ^ r % 2 : Nat) : Int) := by simp
        rw [e] at t
        simp only [beq_iff_eq] at t ⊢
        omega)
      go_enter Try.func48, Try.ntmps48
      go_wp2_with fail
      go_ret
      exact ⟨by rw [E.out]; rfl, rfl⟩
    | false =>
      have E := Lib.hid (show bitOf l k = false by
        rw [HE.out]
        have e : (x : Int) / 2 ^ r % 2 = ((x / 2 ^ r % 2 : Nat) : Int) := by simp
        rw [e] at t
        simp only [beq_eq_false_iff_ne, ne_eq] at t ⊢
        omega)
      go_enter Try.func48, Try.ntmps48
      go_wp2_with fail
      go_ret
      exact ⟨by rw [E.out]; rfl, rfl⟩
  · have E := Lib.hid (show bitOf l k = false by unfold bitOf; rw [← HQ.out, List.getElem?_eq_none (by omega)])
    clear h
    go_enter Try.func48, Try.ntmps48
    go_wp2_with fail
    go_ret
    exact ⟨by rw [E.out]; rfl, rfl⟩

end Go.Proofs.Ytipikkniookanaa
