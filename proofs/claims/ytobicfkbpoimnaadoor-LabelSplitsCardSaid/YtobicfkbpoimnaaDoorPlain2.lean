/- Plain facts on the label that follows another: digits at the end, as lists of bytes. No program is named here. -/
import Derived.Test.YtobicfkbpoimnaaDoorPlain
import Derived.Lib.Repeat
namespace Go.Proofs.YtobicfkbpoimnaaDoor

def isDg (c : UInt8) : Bool := decide (48 ≤ c.toNat ∧ c.toNat ≤ 57)
/-- How many digits stand at the end of the first p bytes. -/
def td (l : List UInt8) : Nat → Nat
  | 0 => 0
  | p + 1 => if isDg (l.getD p 0) then td l p + 1 else 0

theorem td_le (l : List UInt8) : ∀ p, td l p ≤ p
  | 0 => Nat.le_refl _
  | p + 1 => by
    have := td_le l p
    unfold td; split <;> omega

/-- Without the nines at the end. -/
def keptL (d : List UInt8) : List UInt8 := Lib.trimRightB d 57
def noughts (d : List UInt8) : List UInt8 := Lib.repeatL [48] (d.length - (keptL d).length)
/-- The digits, one more. -/
def oneMoreL (d : List UInt8) : List UInt8 := if d = [] then [48] else if keptL d = [] then 49 :: noughts d else (keptL d).dropLast ++ UInt8.ofNat ((keptL d).getLastD 0).toNat.succ :: noughts d

def headL (l : List UInt8) : List UInt8 := l.take (l.length - td l l.length)
def tailL (l : List UInt8) : List UInt8 := l.drop (l.length - td l l.length)
def nextRaw (l : List UInt8) : List UInt8 := headL l ++ oneMoreL (tailL l)
/-- The label that follows; none: there is none. -/
def nextO (l : List UInt8) : Option (List UInt8) := if rightB l then if rightB (nextRaw l) then some (nextRaw l) else none else none
def nextS (l : List UInt8) : List UInt8 := (nextO l).getD []
def nextE (l : List UInt8) : Int := if (nextO l).isSome then 0 else 11

theorem dropWhile_le (p : UInt8 → Bool) (l : List UInt8) : (l.dropWhile p).length ≤ l.length := by
  induction l with
  | nil => simp
  | cons a r ih => simp only [List.dropWhile_cons]; split <;> simp <;> omega

theorem keptL_le (d : List UInt8) : (keptL d).length ≤ d.length := by
  unfold keptL Lib.trimRightB
  have := dropWhile_le (· == 57) d.reverse
  simpa using this

theorem keptL_suffix (d : List UInt8) : ∃ n, d = keptL d ++ List.replicate n 57 ∧ n = d.length - (keptL d).length := by
  have h : ∀ r : List UInt8, ∃ n, r = List.replicate n 57 ++ r.dropWhile (· == 57) := by
    intro r
    induction r with
    | nil => exact ⟨0, rfl⟩
    | cons a r ih =>
      by_cases ha : a = 57
      · obtain ⟨n, hn⟩ := ih
        refine ⟨n + 1, ?_⟩
        subst ha
        have e : (57 :: r).dropWhile (· == 57) = r.dropWhile (· == 57) := by simp [List.dropWhile_cons]
        rw [e, List.replicate_succ, List.cons_append, ← hn]
      · exact ⟨0, by simp [List.dropWhile_cons, ha]⟩
  obtain ⟨n, hn⟩ := h d.reverse
  have e : d = keptL d ++ List.replicate n 57 := by
    have := congrArg List.reverse hn
    simpa [keptL, Lib.trimRightB] using this
  exact ⟨n, e, by have := congrArg List.length e; simp at this; omega⟩

theorem keptL_last (d : List UInt8) (h : keptL d ≠ []) : (keptL d).getLastD 0 ≠ 57 := by
  have hd : ∀ r : List UInt8, r.dropWhile (· == 57) ≠ [] → (r.dropWhile (· == 57)).headD 0 ≠ 57 := by
    intro r
    induction r with
    | nil => simp
    | cons a r ih =>
      by_cases ha : a = 57
      · subst ha; simpa [List.dropWhile_cons] using ih
      · simp [List.dropWhile_cons, ha]
  have := hd d.reverse (by intro e; apply h; simp [keptL, Lib.trimRightB, e])
  intro e
  apply this
  unfold keptL Lib.trimRightB at e
  generalize d.reverse.dropWhile (· == 57) = x at *
  cases x with
  | nil => simp at e
  | cons a r => simpa using e

theorem keptL_mem {d : List UInt8} (h : ∀ c ∈ d, isDg c = true) : ∀ c ∈ keptL d, isDg c = true := by
  obtain ⟨n, e, _⟩ := keptL_suffix d
  intro c hc
  exact h c (by rw [e]; simp [hc])

theorem td_mem (l : List UInt8) : ∀ p, p ≤ l.length → ∀ c ∈ (l.take p).drop (p - td l p), isDg c = true
  | 0, _, c, hc => by simp at hc
  | p + 1, hp, c, hc => by
    have hle := td_le l p
    by_cases h : isDg (l.getD p 0) = true
    · have e : td l (p + 1) = td l p + 1 := by simp only [td, h, if_true]
      rw [e, show p + 1 - (td l p + 1) = p - td l p from by omega, List.take_succ_eq_append_getElem (by omega), List.drop_append_of_le_length (by simp; omega)] at hc
      simp only [List.mem_append, List.mem_singleton] at hc
      rcases hc with hc | rfl
      · exact td_mem l p (by omega) c hc
      · have : l.getD p 0 = l[p] := by rw [List.getD_eq_getElem?_getD, List.getElem?_eq_getElem (by omega)]; rfl
        rw [← this]; exact h
    · have e : td l (p + 1) = 0 := by simp only [td, h, if_false, Bool.false_eq_true]
      rw [e] at hc
      simp at hc

theorem tailL_mem (l : List UInt8) : ∀ c ∈ tailL l, isDg c = true := by
  have := td_mem l l.length (Nat.le_refl _)
  rw [List.take_length] at this
  exact this

theorem chunk_len {x : List UInt8} (h : isChunk x = true) : 1 ≤ x.length ∧ x.length ≤ 2 := by
  match x, h with
  | [_], _ => simp
  | [_, _], _ => simp
  | [], h => simp [isChunk] at h
  | _ :: _ :: _ :: _, h => simp [isChunk] at h

theorem flatten_len {cs : List (List UInt8)} (h : ∀ x ∈ cs, isChunk x = true) : cs.length ≤ cs.flatten.length ∧ cs.flatten.length ≤ 2 * cs.length := by
  induction cs with
  | nil => simp
  | cons x r ih =>
    have h1 := chunk_len (h x (by simp))
    have h2 := ih (fun y hy => h y (by simp [hy]))
    simp only [List.flatten_cons, List.length_append, List.length_cons]
    omega

theorem right_len {l : List UInt8} (h : rightB l = true) : 1 ≤ l.length ∧ l.length ≤ 32 := by
  unfold rightB at h
  cases e : labOf l with
  | none => rw [e] at h; simp at h
  | some cs =>
    obtain ⟨h1, h2, h3, _⟩ := labOf_some.1 e
    obtain ⟨h4, h5⟩ := chunks_some h1
    have := flatten_len h5
    have h6 : 0 < cs.length := List.length_pos_iff.2 h2
    rw [h4] at this
    omega

theorem repeat_len (n : Nat) : (Lib.repeatL [48] n).length = n := by rw [Lib.repeatL_length]; simp

theorem oneMoreL_len (d : List UInt8) : (oneMoreL d).length ≤ d.length + 1 := by
  have hk := keptL_le d
  unfold oneMoreL
  split
  · simp
  · split
    · simp [noughts, repeat_len]
    · rename_i h
      have : 0 < (keptL d).length := List.length_pos_iff.2 h
      simp [noughts, repeat_len]
      omega

theorem decode_last (s : ByteArray) (pos : Nat) (h : pos < s.size) (h0 : ¬ (s.get! (pos + 0)).toNat < 128) :
    pos + (Utf8.decode s pos).2 ≤ s.size ∧ 128 ≤ (s.get! (pos + ((Utf8.decode s pos).2 - 1))).toNat := by
  unfold Utf8.decode
  simp only [h0, if_false]
  repeat' split
  all_goals simp_all [Utf8.runeError]
  all_goals omega

/-- Goes on with the rune at a place: what the digits at the end are then. -/
theorem dig_step (s : ByteArray) (pos : Nat) (h : pos < s.size) : isDigB ((Utf8.decode s pos).1 : Int) = isDg (s.data.toList.getD pos 0) ∧ pos + (Utf8.decode s pos).2 ≤ s.size ∧
    (isDg (s.data.toList.getD pos 0) = true → (Utf8.decode s pos).2 = 1) ∧
    (isDg (s.data.toList.getD pos 0) = false → td s.data.toList (pos + (Utf8.decode s pos).2) = 0) := by
  have g0 : s.get! (pos + 0) = s.data.toList.getD pos 0 := get_bang s _ h
  have hw := decode_wd s pos h
  by_cases h0 : (s.data.toList.getD pos 0).toNat < 128
  · have e : Utf8.decode s pos = ((s.data.toList.getD pos 0).toNat, 1) := by
      have g1 := get_at s pos h
      rw [decode_ascii s pos h (by rw [← g1, g0]; exact h0), ← g1, g0]
    rw [e]
    refine ⟨?_, h, fun _ => rfl, fun hn => ?_⟩
    · unfold isDigB isDg; generalize s.data.toList.getD pos 0 = c at *; rw [Bool.eq_iff_iff]; simp; omega
    · simp only [td, hn, if_false, Bool.false_eq_true]
  · have hl := decode_last s pos h (by rw [g0]; exact h0)
    have hn : isDg (s.data.toList.getD pos 0) = false := by unfold isDg; generalize s.data.toList.getD pos 0 = c at *; simp; omega
    refine ⟨?_, hl.1, (fun hy => absurd (hn.symm.trans hy) (by simp)), fun _ => ?_⟩
    · rw [hn]
      have := (decode_high s pos h (by have g1 := get_at s pos h; rw [← g1, g0]; omega)).1
      unfold isDigB; simp; omega
    · have gl := get_bang s (pos + ((Utf8.decode s pos).2 - 1)) (by omega)
      rw [gl] at hl
      generalize (Utf8.decode s pos).2 = wd at *
      obtain ⟨q, rfl⟩ : ∃ q, wd = q + 1 := ⟨wd - 1, by omega⟩
      have hq : isDg (s.data.toList.getD (pos + q) 0) = false := by
        have := hl.2
        simp only [Nat.add_sub_cancel] at this
        unfold isDg; generalize s.data.toList.getD (pos + q) 0 = c at *; simp; omega
      show td s.data.toList (pos + q + 1) = 0
      simp only [td, hq, if_false, Bool.false_eq_true]

/-- Where the digits at the end begin, while a text is gone through. -/
def begB (l : List UInt8) (n pos : Nat) : Nat := if td l pos = 0 then n else pos - td l pos

theorem begB_no {l : List UInt8} {n pos : Nat} (h : td l pos = 0) : begB l n pos = n := by simp [begB, h]
theorem begB_first {l : List UInt8} {n pos : Nat} (hd : isDg (l.getD pos 0) = true) (h : begB l n pos = n) (hp : pos < n) : begB l n (pos + 1) = pos := by
  have hle := td_le l pos
  have h0 : td l pos = 0 := by
    unfold begB at h
    split at h
    · assumption
    · omega
  have e : td l (pos + 1) = 1 := by simp only [td, hd, if_true, h0]
  unfold begB
  rw [e, if_neg (by omega)]
  omega
theorem begB_on {l : List UInt8} {n pos : Nat} (hd : isDg (l.getD pos 0) = true) (h : begB l n pos ≠ n) : begB l n (pos + 1) = begB l n pos := by
  have hle := td_le l pos
  have h0 : td l pos ≠ 0 := by
    intro e; exact h (begB_no e)
  have e : td l (pos + 1) = td l pos + 1 := by simp only [td, hd, if_true]
  unfold begB
  rw [e, if_neg (by omega), if_neg h0]
  omega
theorem begB_fin (l : List UInt8) (n : Nat) : begB l n n = n - td l n := by
  unfold begB; split <;> omega
theorem begB_le (l : List UInt8) (n pos : Nat) (h : pos ≤ n) : begB l n pos ≤ n := by
  unfold begB; split <;> omega

end Go.Proofs.YtobicfkbpoimnaaDoor
