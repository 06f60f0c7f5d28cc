/- The document's own words on signs: what sign, Signs and Right of package packhorseref01 answer. -/
import Derived.Test.YtpmgafmbmjokhaaDoorLbCmp
namespace Go.Proofs.YtpmgafmbmjokhaaDoor
open Go.RowKit

/-- Rows that a call owns stand, where nothing that was there has turned. -/
theorem own_below {w w' : World} {base : Nat} {e : TypeId} {size : Nat} {v : Value} {n : Nat} {xs : List Value} (h : w.ownsRow base e size v n xs) (hb : Below w.heap.size w w') : w'.ownsRow base e size v n xs := by
  refine ⟨h.1, ?_⟩
  rcases h.2 with hn | ⟨g, cap, cur, rfl, hbb, hgg, rest⟩
  · exact .inl hn
  · refine .inr ⟨g, cap, cur, rfl, hbb, ?_, rest⟩
    have hlt : g < w.heap.size := by
      by_cases hl : g < w.heap.size
      · exact hl
      · rw [Array.getElem?_eq_none (by omega)] at hgg
        cases hgg
    rw [hb.block g hlt]
    exact hgg

def strV (x : List UInt8) : Value := .string ⟨x.toArray⟩
theorem Tryd.info9 : (Tryd.prog.info? 9).map (fun i => (i.zero, i.size, i.bytes)) = some (some (.string ByteArray.empty), 1, 16) := by kernel_rfl


/-- The sign at the head, by its first byte and the one behind it. -/
def sgN (c : Nat) (more : Bool) (d : Nat) : Nat × Bool :=
  if 97 ≤ c ∧ c ≤ 122 then (1, true) else if 48 ≤ c ∧ c ≤ 57 ∨ c = 45 then (1, false) else if more = false then (0, false)
  else if c = 206 ∧ 177 ≤ d ∧ d ≤ 191 ∨ c = 207 ∧ 128 ≤ d ∧ d ≤ 137 then (2, true) else (0, false)

theorem sg_N (l : List UInt8) (k : Nat) (h : k < l.length) : sg (l.drop k) = sgN (l.getD k 0).toNat (decide (k + 1 < l.length)) (l.getD (k + 1) 0).toNat := by
  rw [drop_cons l k h]
  generalize l.getD k 0 = c
  simp only [sg, sgN]
  by_cases h1 : let1 c = true
  · have : 97 ≤ c.toNat ∧ c.toNat ≤ 122 := by simpa [let1] using h1
    rw [if_pos h1, if_pos this]
  · have : ¬ (97 ≤ c.toNat ∧ c.toNat ≤ 122) := by simpa [let1] using h1
    rw [if_neg h1, if_neg this]
    by_cases h2 : one c = true
    · have h2' : 48 ≤ c.toNat ∧ c.toNat ≤ 57 ∨ c.toNat = 45 := by
        simp only [one, Bool.or_eq_true, h1, decide_eq_true_eq] at h2
        rcases h2 with h2 | h2
        · cases h2
        · exact h2
      rw [if_pos h2, if_pos h2']
    · have h2' : ¬ (48 ≤ c.toNat ∧ c.toNat ≤ 57 ∨ c.toNat = 45) := by
        intro h3
        exact h2 (by simp only [one, Bool.or_eq_true, decide_eq_true_eq]; exact Or.inr h3)
      rw [if_neg h2, if_neg h2']
      by_cases h3 : k + 1 < l.length
      · rw [drop_cons l (k + 1) h3]
        generalize l.getD (k + 1) 0 = d
        have h4 : decide (k + 1 < l.length) = true := by simpa using h3
        simp only [h4, Bool.true_eq_false, if_false]
        unfold two
        simp only [decide_eq_true_eq]
      · rw [List.drop_of_length_le (by omega)]
        have h4 : decide (k + 1 < l.length) = false := by simpa using h3
        simp only [h4, if_true]

theorem ret_pair {a b : Int} {x y : Bool} (h : a = b ∧ x = y) : Ending.returned (.tuple #[.int .i64 a, .bool x]) = .returned (.tuple #[.int .i64 b, .bool y]) := by rw [h.1, h.2]

def csL (l : List UInt8) : List (List UInt8) := (labOf l).getD []
theorem csL_none {l : List UInt8} (h : labOf l = none) : csL l = [] := by simp [csL, h]
theorem csL_fin {l : List UInt8} {pos k pre} (h : Pre l pos k pre) (hp : ¬ pos < l.length) : csL l = pre := by
  have := h.fin hp
  unfold csL
  rw [this]
  split
  · rename_i hk
    have : pre = [] := List.eq_nil_of_length_eq_zero (by rw [h.len, hk])
    rw [this]; rfl
  · rfl
theorem csL_right (l : List UInt8) : decide (0 < (csL l).length) = rightB l := by
  unfold csL rightB
  cases h : labOf l with
  | none => simp
  | some cs =>
    obtain ⟨_, h1, _⟩ := labOf_some.1 h
    have : 0 < cs.length := List.length_pos_iff.2 h1
    simpa using this

theorem own_shape {w : World} {base : Nat} {v : Value} {n : Nat} {xs : List Value} (h : w.ownsRow base 9 1 v n xs) : ∃ a cap, v = .slice a n cap := by
  rcases h.2 with ⟨rfl, rfl⟩ | ⟨g, cap, cur, rfl, _⟩
  · exact ⟨none, 0, rfl⟩
  · exact ⟨_, _, rfl⟩

/-- What Signs leaves: the signs, one by one. -/
def RefSigns (l : List UInt8) (w : World) (e : Ending) (w' : World) : Prop :=
  ∃ v, e = .returned v ∧ w'.ownsRow w.heap.size 9 1 v (csL l).length ((csL l).map strV) ∧ Below w.heap.size w w'

def RefRel (l : List UInt8) (w : World) (v i : Value) (wr : World) : Prop :=
  ∃ (pos k : Nat) (pre : List (List UInt8)), i = .int .i64 pos ∧ Pre l pos k pre ∧ wr.ownsRow w.heap.size 9 1 v k (pre.map strV) ∧ Below w.heap.size w wr

theorem csL_len (l : List UInt8) : (csL l).length ≤ 16 := by
  unfold csL
  cases h : labOf l with
  | none => simp
  | some cs =>
    obtain ⟨_, _, h2, _⟩ := labOf_some.1 h
    exact h2

end Go.Proofs.YtpmgafmbmjokhaaDoor
