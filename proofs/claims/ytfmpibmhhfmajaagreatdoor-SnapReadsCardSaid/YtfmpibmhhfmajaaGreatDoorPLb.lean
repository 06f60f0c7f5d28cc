/- LbSigns, LbLeaf, LbCmp, LbRef: together. -/
import Derived.Laws.RangeAny
import Derived.Lib.TrimByte
import Derived.Test.YtfmpibmhhfmajaaGreatDoorMgBase
import Derived.WalkKit
import Derived.Lib.Hide
import Derived.Test.YtfmpibmhhfmajaaGreatDoorLbShelf
import Derived.WalkSpells
import Derived.RegionTactic
import Derived.Deep.QuietTactic
import Derived.BigQuiet
import Derived.Deep.RegionWith
import Derived.ChangeAlike
namespace Go.Proofs.YtfmpibmhhfmajaaGreatDoor

/- LbSigns: Plain facts on the signs of a label, as lists of bytes: no program is named here. -/
section
def isLetB (r : Int) : Bool := decide (97 ≤ r ∧ r ≤ 122 ∨ 945 ≤ r ∧ r ≤ 969)
def isDigB (r : Int) : Bool := decide (48 ≤ r ∧ r ≤ 57)
def isSgnB (r : Int) : Bool := isLetB r || isDigB r || decide (r = 45)

/-- The byte c alone is a letter; a sign. -/
def let1 (c : UInt8) : Bool := decide (97 ≤ c.toNat ∧ c.toNat ≤ 122)
def one (c : UInt8) : Bool := let1 c || decide (48 ≤ c.toNat ∧ c.toNat ≤ 57 ∨ c.toNat = 45)
def two (c d : UInt8) : Bool := decide (c.toNat = 206 ∧ 177 ≤ d.toNat ∧ d.toNat ≤ 191 ∨ c.toNat = 207 ∧ 128 ≤ d.toNat ∧ d.toNat ≤ 137)

theorem one_two {c d : UInt8} (h : one c = true) : two c d = false := by
  simp [one, let1, two] at *; omega

/-- The sign at the head: how many bytes it has (0: none), and whether it is a letter. -/
def sg : List UInt8 → Nat × Bool
  | [] => (0, false)
  | c :: r => if let1 c then (1, true) else if one c then (1, false) else match r with
    | [] => (0, false)
    | d :: _ => if two c d then (2, true) else (0, false)

/-- The signs of a text, one by one. -/
def chunks : List UInt8 → Option (List (List UInt8))
  | [] => some []
  | [c] => if one c then some [[c]] else none
  | c :: d :: r => if one c then (chunks (d :: r)).map ([c] :: ·) else if two c d then (chunks r).map ([c, d] :: ·) else none

theorem let1_one {c : UInt8} (h : let1 c = true) : one c = true := by simp [one, h]

theorem sg_zero {t : List UInt8} (ht : t ≠ []) (h : (sg t).1 = 0) : chunks t = none := by
  match t with
  | [] => exact absurd rfl ht
  | [c] =>
    by_cases h1 : let1 c = true
    · simp [sg, h1] at h
    · by_cases h2 : one c = true
      · simp [sg, h1, h2] at h
      · simp [chunks, h2]
  | c :: d :: r =>
    by_cases h1 : let1 c = true
    · simp [sg, h1] at h
    · by_cases h2 : one c = true
      · simp [sg, h1, h2] at h
      · by_cases h3 : two c d = true
        · simp [sg, h1, h2, h3] at h
        · simp [chunks, h2, h3]

theorem sg_pos {t : List UInt8} (h : (sg t).1 ≠ 0) : (sg t).1 ≤ t.length ∧ (sg t).1 ≤ 2 ∧ chunks t = (chunks (t.drop (sg t).1)).map (t.take (sg t).1 :: ·) := by
  match t with
  | [] => simp [sg] at h
  | [c] =>
    by_cases h1 : let1 c = true
    · simp [sg, h1, chunks, let1_one h1]
    · by_cases h2 : one c = true
      · simp [sg, h1, h2, chunks]
      · simp [sg, h1, h2] at h
  | c :: d :: r =>
    by_cases h1 : let1 c = true
    · simp [sg, h1, chunks, let1_one h1]
    · by_cases h2 : one c = true
      · simp [sg, h1, h2, chunks]
      · by_cases h3 : two c d = true
        · simp [sg, h1, h2, h3, chunks]
        · simp [sg, h1, h2, h3] at h

/-- A sign by itself. -/
def isChunk (x : List UInt8) : Bool := match x with
  | [c] => one c
  | [c, d] => two c d
  | _ => false
def isLetC (x : List UInt8) : Bool := match x with
  | [c] => let1 c
  | [_, _] => true
  | _ => false

theorem sg_chunk {t : List UInt8} (h : (sg t).1 ≠ 0) : isChunk (t.take (sg t).1) = true ∧ isLetC (t.take (sg t).1) = (sg t).2 := by
  match t with
  | [] => simp [sg] at h
  | [c] =>
    by_cases h1 : let1 c = true
    · simp [sg, h1, isChunk, isLetC, let1_one h1]
    · by_cases h2 : one c = true
      · simp [sg, h1, h2, isChunk, isLetC]
      · simp [sg, h1, h2] at h
  | c :: d :: r =>
    by_cases h1 : let1 c = true
    · simp [sg, h1, isChunk, isLetC, let1_one h1]
    · by_cases h2 : one c = true
      · simp [sg, h1, h2, isChunk, isLetC]
      · by_cases h3 : two c d = true
        · simp [sg, h1, h2, h3, isChunk, isLetC]
        · simp [sg, h1, h2, h3] at h

theorem chunks_cons {x : List UInt8} (hx : isChunk x = true) (t : List UInt8) : chunks (x ++ t) = (chunks t).map (x :: ·) := by
  match x, hx with
  | [c], hx =>
    have h : one c = true := hx
    match t with
    | [] => simp [chunks, h]
    | d :: r => simp [chunks, h]
  | [c, d], hx =>
    have h : two c d = true := hx
    have h1 : one c = false := by
      cases e : one c with
      | false => rfl
      | true => rw [one_two e] at h; cases h
    simp [chunks, h, h1]
  | [], hx => simp [isChunk] at hx
  | _ :: _ :: _ :: _, hx => simp [isChunk] at hx

theorem chunks_append {pre : List (List UInt8)} (h : ∀ x ∈ pre, isChunk x = true) (t : List UInt8) : chunks (pre.flatten ++ t) = (chunks t).map (pre ++ ·) := by
  induction pre with
  | nil => simp
  | cons x r ih =>
    simp only [List.flatten_cons, List.append_assoc]
    rw [chunks_cons (h x (by simp)), ih (fun y hy => h y (by simp [hy]))]
    cases chunks t <;> simp

theorem chunks_some : ∀ {t : List UInt8} {cs}, chunks t = some cs → cs.flatten = t ∧ ∀ x ∈ cs, isChunk x = true
  | [], cs, h => by
    simp [chunks] at h; subst h; simp
  | [c], cs, h => by
    by_cases h2 : one c = true
    · simp [chunks, h2] at h; subst h; simp [isChunk, h2]
    · simp [chunks, h2] at h
  | c :: d :: r, cs, h => by
    by_cases h2 : one c = true
    · simp only [chunks, h2, if_true] at h
      cases e : chunks (d :: r) with
      | none => rw [e] at h; simp at h
      | some cs' =>
        rw [e] at h; simp at h; subst h
        obtain ⟨h3, h4⟩ := chunks_some e
        refine ⟨by simp [h3], ?_⟩
        intro x hx
        simp only [List.mem_cons] at hx
        rcases hx with rfl | hx
        · exact h2
        · exact h4 x hx
    · by_cases h3 : two c d = true
      · simp only [chunks, h2, h3, if_true] at h
        cases e : chunks r with
        | none => rw [e] at h; simp at h
        | some cs' =>
          rw [e] at h; simp at h; subst h
          obtain ⟨h5, h4⟩ := chunks_some e
          refine ⟨by simp [h5], ?_⟩
          intro x hx
          simp only [List.mem_cons] at hx
          rcases hx with rfl | hx
          · exact h3
          · exact h4 x hx
      · simp [chunks, h2, h3] at h

/-- The first sign is a letter (true of none). -/
def letHead : List (List UInt8) → Bool
  | [] => true
  | x :: _ => isLetC x

/-- The signs of a label; none: it is no label. -/
def labOf (l : List UInt8) : Option (List (List UInt8)) := match chunks l with
  | none => none
  | some cs => if cs ≠ [] ∧ cs.length ≤ 16 ∧ letHead cs = true then some cs else none

theorem labOf_some {l : List UInt8} {cs} : labOf l = some cs ↔ chunks l = some cs ∧ cs ≠ [] ∧ cs.length ≤ 16 ∧ letHead cs = true := by
  unfold labOf
  split
  · rename_i h; rw [h]; simp
  · rename_i cs' h
    rw [h]
    split
    · rename_i h2
      simp only [Option.some.injEq]
      exact ⟨fun e => e ▸ ⟨rfl, h2⟩, fun e => e.1⟩
    · rename_i h2
      simp only [Option.some.injEq, reduceCtorEq, false_iff]
      rintro ⟨rfl, h3⟩
      exact h2 h3

/-- How many signs a label has; -1: it is none. -/
def signsI (l : List UInt8) : Int := match labOf l with
  | none => -1
  | some cs => (cs.length : Int)
def rightB (l : List UInt8) : Bool := (labOf l).isSome

theorem right_signs (l : List UInt8) : decide (0 < signsI l) = rightB l := by
  unfold signsI rightB
  cases h : labOf l with
  | none => simp
  | some cs =>
    obtain ⟨_, h1, _⟩ := labOf_some.1 h
    have : 0 < cs.length := List.length_pos_iff.2 h1
    simpa using this

/-- What is known of the first signs, while a text is gone through. -/
structure Pre (l : List UInt8) (pos k : Nat) (pre : List (List UInt8)) : Prop where
  len : pre.length = k
  flat : pre.flatten = l.take pos
  chunk : ∀ x ∈ pre, isChunk x = true
  le : pos ≤ l.length
  most : k ≤ 16
  head : letHead pre = true

theorem Pre.nil (l : List UInt8) : Pre l 0 0 [] := ⟨rfl, by simp, by simp, by omega, by omega, rfl⟩

theorem Pre.split {l : List UInt8} {pos k pre} (h : Pre l pos k pre) : chunks l = (chunks (l.drop pos)).map (pre ++ ·) := by
  have e : l = pre.flatten ++ l.drop pos := by rw [h.flat, List.take_append_drop]
  rw [← chunks_append h.chunk, ← e]

/-- Here stands no sign, or not one that may stand here: it is no label. -/
theorem Pre.bad {l : List UInt8} {pos k pre} (h : Pre l pos k pre) (hp : pos < l.length) (hb : (sg (l.drop pos)).1 = 0 ∨ k = 0 ∧ (sg (l.drop pos)).2 = false ∨ k = 16) : labOf l = none := by
  cases e : labOf l with
  | none => rfl
  | some cs =>
    obtain ⟨h1, h2, h3, h4⟩ := labOf_some.1 e
    have hne : l.drop pos ≠ [] := by intro e; have := congrArg List.length e; simp at this; omega
    have hs := h.split
    rw [h1] at hs
    cases e2 : chunks (l.drop pos) with
    | none => rw [e2] at hs; simp at hs
    | some rest =>
      rw [e2] at hs
      simp at hs
      by_cases hz : (sg (l.drop pos)).1 = 0
      · rw [sg_zero hne hz] at e2; simp at e2
      · have hsp := (sg_pos hz).2.2
        have hck := sg_chunk hz
        rw [e2] at hsp
        cases e3 : chunks ((l.drop pos).drop (sg (l.drop pos)).1) with
        | none => rw [e3] at hsp; simp at hsp
        | some rr =>
          rw [e3] at hsp
          simp only [Option.map_some, Option.some.injEq] at hsp
          rcases hb with hb | ⟨hk, hb⟩ | hb
          · exact absurd hb hz
          · have : pre = [] := List.eq_nil_of_length_eq_zero (by rw [h.len, hk])
            rw [hs, this, hsp] at h4
            simp only [List.nil_append, letHead, hck.2, hb] at h4
            simp at h4
          · rw [hs, hsp] at h3
            simp [h.len, hb] at h3
            omega

/-- Here stands a sign that may stand here. -/
theorem Pre.step {l : List UInt8} {pos k pre} (h : Pre l pos k pre) (hz : (sg (l.drop pos)).1 ≠ 0) (hk : k = 0 → (sg (l.drop pos)).2 = true) (h16 : k ≠ 16) :
    Pre l (pos + (sg (l.drop pos)).1) (k + 1) (pre ++ [(l.drop pos).take (sg (l.drop pos)).1]) := by
  have hsp := sg_pos hz
  have hck := sg_chunk hz
  have hl : (l.drop pos).length = l.length - pos := List.length_drop
  refine ⟨by simp [h.len], ?_, ?_, by omega, by have := h.most; omega, ?_⟩
  · rw [List.flatten_append, h.flat, List.take_add]; simp
  · intro x hx
    simp only [List.mem_append, List.mem_singleton] at hx
    rcases hx with hx | rfl
    · exact h.chunk x hx
    · exact hck.1
  · cases pre with
    | nil =>
      have : k = 0 := by simpa using h.len.symm
      simp [letHead, hck.2, hk this]
    | cons x r => exact h.head

theorem Pre.fin {l : List UInt8} {pos k pre} (h : Pre l pos k pre) (hp : ¬ pos < l.length) : labOf l = if k = 0 then none else some pre := by
  have hc := h.split
  rw [List.drop_of_length_le (by omega)] at hc
  simp only [chunks, Option.map_some, List.append_nil] at hc
  split
  · rename_i hk
    have : pre = [] := List.eq_nil_of_length_eq_zero (by rw [h.len, hk])
    unfold labOf
    rw [hc, this]
    simp
  · rename_i hk
    exact labOf_some.2 ⟨hc, by intro e; subst e; exact hk (by simpa using h.len.symm), by rw [h.len]; exact h.most, h.head⟩

theorem get_bang (s : ByteArray) (i : Nat) (h : i < s.size) : s.get! i = s.data.toList.getD i 0 := by
  have h' : i < s.data.toList.length := by rw [← Lib.size_eq]; exact h
  have e := get_at s i h
  simp only [Nat.add_zero] at e
  rw [e, List.getD_eq_getElem?_getD, List.getElem?_eq_getElem h']
  rfl

theorem isSgnB_big {n : Nat} (h : 970 ≤ n) : isSgnB (n : Int) = false := by
  simp [isSgnB, isLetB, isDigB]; omega

/-- The value of a rune that is no single byte and does not begin as one of two bytes. -/
theorem decode_great (s : ByteArray) (pos : Nat) (h0 : ¬ (s.get! (pos + 0)).toNat < 128)
    (h2 : ((s.get! (pos + 0)).toNat / 32 == 6 && (decide (pos + 1 < s.size) && (s.get! (pos + 1)).toNat / 64 == 2)) = false) : 970 ≤ (Utf8.decode s pos).1 := by
  unfold Utf8.decode
  simp only [h0, if_false, h2, Bool.false_eq_true]
  repeat' split
  all_goals simp_all [Utf8.runeError]
  all_goals omega

theorem decode_two (s : ByteArray) (pos : Nat) (h0 : ¬ (s.get! (pos + 0)).toNat < 128)
    (h2 : ((s.get! (pos + 0)).toNat / 32 == 6 && (decide (pos + 1 < s.size) && (s.get! (pos + 1)).toNat / 64 == 2)) = true) :
    Utf8.decode s pos = if (s.get! (pos + 0)).toNat % 32 * 64 + (s.get! (pos + 1)).toNat % 64 ≥ 128 then ((s.get! (pos + 0)).toNat % 32 * 64 + (s.get! (pos + 1)).toNat % 64, 2) else (Utf8.runeError, 1) := by
  unfold Utf8.decode
  simp only [h0, if_false, h2, if_true]

theorem drop_cons (l : List UInt8) (pos : Nat) (h : pos < l.length) : l.drop pos = l.getD pos 0 :: l.drop (pos + 1) := by
  rw [List.drop_eq_getElem_cons h, List.getD_eq_getElem?_getD, List.getElem?_eq_getElem h]; rfl

theorem let1_let {c : UInt8} (h : c.toNat < 128) : isLetB (c.toNat : Int) = let1 c := by
  unfold isLetB let1; rw [Bool.eq_iff_iff]; simp; omega
theorem one_sgn {c : UInt8} (h : c.toNat < 128) : isSgnB (c.toNat : Int) = one c := by
  unfold isSgnB isLetB isDigB one let1; rw [Bool.eq_iff_iff]; simp; omega

/-- The rune that stands at a place, and the sign that stands there. -/
theorem decode_sg (s : ByteArray) (pos : Nat) (h : pos < s.size) :
    isSgnB ((Utf8.decode s pos).1 : Int) = decide ((sg (s.data.toList.drop pos)).1 ≠ 0) ∧
    (isSgnB ((Utf8.decode s pos).1 : Int) = true → (Utf8.decode s pos).2 = (sg (s.data.toList.drop pos)).1 ∧ isLetB ((Utf8.decode s pos).1 : Int) = (sg (s.data.toList.drop pos)).2) := by
  have hl : s.data.toList.length = s.size := (Lib.size_eq s).symm
  have g0 : s.get! (pos + 0) = s.data.toList.getD pos 0 := get_bang s _ h
  have d0 := drop_cons s.data.toList pos (by omega)
  generalize hc : s.data.toList.getD pos 0 = c at *
  have hcb := c.toNat_lt
  by_cases h0 : c.toNat < 128
  · have e : Utf8.decode s pos = (c.toNat, 1) := by
      have g1 := get_at s pos h
      rw [decode_ascii s pos h (by rw [← g1, g0]; exact h0), ← g1, g0]
    rw [e, d0]
    simp only [one_sgn h0, let1_let h0]
    have ht : one c = false → (sg (c :: s.data.toList.drop (pos + 1))).1 = 0 := fun h1 => by
      have h2 : let1 c = false := by
        cases e2 : let1 c with
        | false => rfl
        | true => rw [let1_one e2] at h1; cases h1
      simp only [sg, h1, h2, Bool.false_eq_true, if_false]
      split
      · rfl
      · rename_i d r _
        have : two c d = false := by unfold two; simp; omega
        simp [this]
    cases h1 : one c with
    | false => simp [ht h1]
    | true =>
      cases h2 : let1 c with
      | false => simp [sg, h1, h2]
      | true => simp [sg, h2]
  · have hn1 : one c = false := by unfold one let1; simp; omega
    have hn2 : let1 c = false := by unfold let1; simp; omega
    by_cases h1 : pos + 1 < s.size
    · have g1 : s.get! (pos + 1) = s.data.toList.getD (pos + 1) 0 := get_bang s _ h1
      have d1 := drop_cons s.data.toList (pos + 1) (by omega)
      generalize hd : s.data.toList.getD (pos + 1) 0 = d at *
      have hdb := d.toNat_lt
      rw [d0, d1]
      have es : sg (c :: d :: s.data.toList.drop (pos + 1 + 1)) = if two c d then (2, true) else (0, false) := by simp [sg, hn1, hn2]
      rw [es]
      cases h2 : (c.toNat / 32 == 6 && (decide (pos + 1 < s.size) && d.toNat / 64 == 2)) with
      | true =>
        have e := decode_two s pos (by rw [g0]; exact h0) (by rw [g0, g1]; exact h2)
        rw [g0, g1] at e
        rw [e]
        simp [h1] at h2
        by_cases h3 : two c d = true
        · simp [two] at h3
          have hge : c.toNat % 32 * 64 + d.toNat % 64 ≥ 128 := by omega
          have h3' : two c d = true := by simp [two]; omega
          rw [if_pos hge]
          simp only [h3', if_true]
          have hs : isLetB ((c.toNat % 32 * 64 + d.toNat % 64 : Nat) : Int) = true := by simp [isLetB]; omega
          generalize (c.toNat % 32 * 64 + d.toNat % 64 : Nat) = v at hs
          simp [isSgnB, hs]
        · have h3' : two c d = false := by simpa using h3
          have hno : isSgnB (((if c.toNat % 32 * 64 + d.toNat % 64 ≥ 128 then (c.toNat % 32 * 64 + d.toNat % 64, 2) else (Utf8.runeError, 1) : Nat × Nat).1 : Nat) : Int) = false := by
            split
            · rename_i hge
              simp [two] at h3
              simp only [isSgnB, isLetB, isDigB]
              simp
              omega
            · exact isSgnB_big (by simp [Utf8.runeError])
          simp [h3', hno]
      | false =>
        have hg := decode_great s pos (by rw [g0]; exact h0) (by rw [g0, g1]; exact h2)
        have h3' : two c d = false := by
          simp [h1] at h2
          simp [two]; omega
        simp [isSgnB_big hg, h3']
    · have hdr : s.data.toList.drop (pos + 1) = [] := List.drop_of_length_le (by omega)
      have hg := decode_great s pos (by rw [g0]; exact h0) (by simp [h1])
      rw [d0, hdr]
      simp [isSgnB_big hg, sg, hn1, hn2]

theorem decode_wd (s : ByteArray) (pos : Nat) (h : pos < s.size) : 1 ≤ (Utf8.decode s pos).2 := by
  by_cases ha : (s[pos]'h).toNat < 128
  · rw [decode_ascii s pos h ha]; exact Nat.le_refl _
  · exact (decode_high s pos h (by omega)).2

/-- What the rune at a place says of the signs. -/
def DecSg (l : List UInt8) (pos r wd : Nat) : Prop := isSgnB (r : Int) = decide ((sg (l.drop pos)).1 ≠ 0) ∧ (isSgnB (r : Int) = true → wd = (sg (l.drop pos)).1 ∧ isLetB (r : Int) = (sg (l.drop pos)).2)

theorem signs_bad {l : List UInt8} {pos k r wd : Nat} {pre} (h : Pre l pos k pre) (hp : pos < l.length) (hd : DecSg l pos r wd) (hb : isSgnB (r : Int) = false ∨ k = 0 ∧ isLetB (r : Int) = false ∨ k = 16) : signsI l = -1 := by
  have : labOf l = none := by
    refine h.bad hp ?_
    by_cases hz : (sg (l.drop pos)).1 = 0
    · exact Or.inl hz
    · have h1 : isSgnB (r : Int) = true := by rw [hd.1]; simpa using hz
      have h2 := hd.2 h1
      rw [h1, h2.2] at hb
      exact Or.inr (by simpa using hb)
  simp [signsI, this]

theorem signs_step {l : List UInt8} {pos k r wd : Nat} {pre} (h : Pre l pos k pre) (hd : DecSg l pos r wd) (h1 : isSgnB (r : Int) = true) (h2 : k = 0 → isLetB (r : Int) = true) (h16 : k ≠ 16) :
    Pre l (pos + wd) (k + 1) (pre ++ [(l.drop pos).take wd]) := by
  obtain ⟨e1, e2⟩ := hd.2 h1
  have hz : (sg (l.drop pos)).1 ≠ 0 := by
    have := hd.1
    rw [h1] at this
    simpa using this.symm
  rw [e1]
  exact h.step hz (fun hk => by rw [← e2]; exact h2 hk) h16

theorem signs_fin {l : List UInt8} {pos k : Nat} {pre} (h : Pre l pos k pre) (hp : ¬ pos < l.length) : signsI l = if k = 0 then -1 else (k : Int) := by
  have := h.fin hp
  by_cases hk : k = 0
  · simp [signsI, this, hk]
  · simp [signsI, this, hk, h.len]
end

/- LbLeaf: The tests on one sign: what isLetter, isDigit and isSign of package label answer, for every rune. -/
section
set_option maxRecDepth 100000
open Go.RowKit

theorem ret_bool {a b : Bool} (h : a = b) : Ending.returned (.bool a) = .returned (.bool b) := by rw [h]
theorem ret_int {k : IntKind} {a b : Int} (h : a = b) : Ending.returned (.int k a) = .returned (.int k b) := by rw [h]

theorem isLetter_any (r : Int) (w : World) : Calls Tryz.prog 144 #[.int .i32 r] w fun e w' => e = .returned (.bool (isLetB r)) ∧ w = w' := by
  go_enter Tryz.func144, Tryz.ntmps144
  go_wp2
  all_goals
    go_ret
    refine ⟨ret_bool ?_, rfl⟩
    unfold isLetB
    rw [Bool.eq_iff_iff]
    simp
    try omega

theorem isDigit_any (r : Int) (w : World) : Calls Tryz.prog 172 #[.int .i32 r] w fun e w' => e = .returned (.bool (isDigB r)) ∧ w = w' := by
  go_enter Tryz.func172, Tryz.ntmps172
  go_wp2
  all_goals
    go_ret
    refine ⟨ret_bool ?_, rfl⟩
    unfold isDigB
    rw [Bool.eq_iff_iff]
    simp
    try omega

theorem isSign_any (r : Int) (w : World) : Calls Tryz.prog 143 #[.int .i32 r] w fun e w' => e = .returned (.bool (isSgnB r)) ∧ w = w' := by
  cases h1 : isLetB r <;> cases h2 : isDigB r
  all_goals
    go_enter Tryz.func143, Tryz.ntmps143
    go_wp2_with (first
      | (go_at_call 144; refine (isLetter_any _ _).mono ?_; rintro e w' ⟨rfl, rfl⟩; rw [h1])
      | (go_at_call 172; refine (isDigit_any _ _).mono ?_; rintro e w' ⟨rfl, rfl⟩; rw [h2]))
    go_ret
    refine ⟨ret_bool ?_, rfl⟩
    simp [isSgnB, h1, h2]
    try (rw [Bool.eq_iff_iff]; simp)


set_option maxHeartbeats 1000000 in
/-- label.Signs, at every text. -/
theorem signs_any (s : ByteArray) (w : World) (_hs : s.size ≤ maxLen) :
    Calls Tryz.prog 104 #[.string s] w fun e w' => e = .returned (.int .i64 (signsI s.data.toList)) ∧ Below w.heap.size w w' := by
  have hl : s.data.toList.length = s.size := (Lib.size_eq s).symm
  have HL := Lib.hid hl
  clear hl
  go_enter Tryz.func104, Tryz.ntmps104
  go_wp2
  go_loopw [3] (fun n w' => ∃ (pos k : Nat) (pre : List (List UInt8)), w' = w.iter s pos ∧ n = .int .i64 k ∧ Pre s.data.toList pos k pre) (fun _ w' => s.size - w'.iterPos w.heap.size)
  case atStart => exact ⟨0, 0, [], rfl, rfl, Pre.nil _⟩
  case round =>
    obtain ⟨pos, k, pre, rfl, rfl, hP⟩ := hrel
    have h16 := hP.most
    by_cases hp : pos < s.size
    · have hnx : ∀ ty, (Instr.next (.pointer (some ⟨w.heap.size, 0, none⟩)) true ty).run Tryz.prog (w.iter s pos) = _ := fun ty => run_next_any w s pos ty hp
      have hd := Lib.hid (show DecSg s.data.toList pos _ _ from decode_sg s pos hp)
      have hw := Lib.hid (decode_wd s pos hp)
      generalize (Utf8.decode s pos).1 = r at *
      generalize (Utf8.decode s pos).2 = wd at *
      have HP := Lib.hid hP
      clear hP
      go_wp2_with (first
      | (go_at_call 143; refine (isSign_any _ _).mono ?_; rintro e w' ⟨rfl, rfl⟩)
      | (go_at_call 144; refine (isLetter_any _ _).mono ?_; rintro e w' ⟨rfl, rfl⟩))
      · go_ret
        have h1 : (!isLetB (r : Int)) = true := by assumption
        exact ⟨ret_int (signs_bad HP.out (by rw [HL.out]; exact hp) hd.out (Or.inr (Or.inl ⟨by assumption, by simpa using h1⟩))).symm, (Below.refl _ w).alloc (Nat.le_refl _) _⟩
      · have h1 : (!isLetB (r : Int)) = false := by assumption
        have h2 : isSgnB (r : Int) = true := by assumption
        have hk : k = 0 := by assumption
        subst hk
        go_roundw
        case rel => exact ⟨pos + wd, 1, _, rfl, rfl, signs_step HP.out hd.out h2 (fun _ => by simpa using h1) (by omega)⟩
        case measure => have := hw.out; simp; omega
      · have h1 : ((k : Int) == 16) = true := by assumption
        go_ret
        exact ⟨ret_int (signs_bad HP.out (by rw [HL.out]; exact hp) hd.out (Or.inr (Or.inr (by simp at h1; omega)))).symm, (Below.refl _ w).alloc (Nat.le_refl _) _⟩
      · have h1 : ((k : Int) == 16) = false := by assumption
        have h2 : isSgnB (r : Int) = true := by assumption
        have hk : ¬ k = 0 := by assumption
        go_roundw
        case rel => exact ⟨pos + wd, k + 1, _, rfl, by go_num, signs_step HP.out hd.out h2 (fun h => absurd h hk) (by intro h; subst h; simp at h1)⟩
        case measure => have := hw.out; simp; omega
      · have h1 : ¬ isSgnB (r : Int) = true := by assumption
        go_ret
        exact ⟨ret_int (signs_bad HP.out (by rw [HL.out]; exact hp) hd.out (Or.inl (by simpa using h1))).symm, (Below.refl _ w).alloc (Nat.le_refl _) _⟩
    · have hnx : ∀ ty, (Instr.next (.pointer (some ⟨w.heap.size, 0, none⟩)) true ty).run Tryz.prog (w.iter s pos) = _ := fun ty => run_next_end w s pos ty hp
      have HF := Lib.hid (signs_fin hP (by rw [HL.out]; exact hp))
      clear hP
      go_wp2
      · have h1 : ((k : Int) == 0) = true := by assumption
        go_ret
        refine ⟨ret_int ?_, (Below.refl _ w).alloc (Nat.le_refl _) _⟩
        rw [HF.out, if_pos (by simp at h1; omega)]
      · have h1 : ((k : Int) == 0) = false := by assumption
        go_ret
        refine ⟨ret_int ?_, (Below.refl _ w).alloc (Nat.le_refl _) _⟩
        rw [HF.out, if_neg (by intro h; subst h; simp at h1)]

/-- label.Right, at every text. -/
theorem right_any (s : ByteArray) (w : World) (hs : s.size ≤ maxLen) :
    Calls Tryz.prog 35 #[.string s] w fun e w' => e = .returned (.bool (rightB s.data.toList)) ∧ Below w.heap.size w w' := by
  have hr := Lib.hid (right_signs s.data.toList)
  go_enter Tryz.func35, Tryz.ntmps35
  go_wp2_with (go_at_call 104; refine (signs_any _ _ hs).mono ?_; rintro e w' ⟨rfl, hb⟩)
  go_ret
  exact ⟨ret_bool hr.out, hb⟩
end

/- LbCmp: What Compare answers, in package label and in the document's own words, and that this is an order. -/
section
open Go.RowKit

def cmpL (a b : List UInt8) : Int := Lib.compareBytes a b

theorem cmpL_cons (x y : UInt8) (a b : List UInt8) : cmpL (x :: a) (y :: b) = if x.toNat < y.toNat then -1 else if y.toNat < x.toNat then 1 else cmpL a b := by
  unfold cmpL
  simp only [Lib.compareBytes, UInt8.lt_iff_toNat_lt]
theorem cmpL_nn : cmpL [] [] = 0 := rfl
theorem cmpL_nc (y b) : cmpL [] (y :: b) = -1 := rfl
theorem cmpL_cn (x a) : cmpL (x :: a) [] = 1 := rfl

theorem cmpL_swap : ∀ a b : List UInt8, cmpL b a = - cmpL a b
  | [], [] => by simp [cmpL_nn]
  | [], _ :: _ => by simp [cmpL_nc, cmpL_cn]
  | _ :: _, [] => by simp [cmpL_nc, cmpL_cn]
  | x :: a, y :: b => by
    have := cmpL_swap a b
    rw [cmpL_cons, cmpL_cons]
    by_cases h1 : x.toNat < y.toNat
    · rw [if_pos h1, if_neg (by omega), if_pos h1]; rfl
    · by_cases h2 : y.toNat < x.toNat
      · simp [h1, h2]
      · rw [if_neg h1, if_neg h2, if_neg h2, if_neg h1]; exact this

theorem cmpL_zero : ∀ a b : List UInt8, cmpL a b = 0 ↔ a = b
  | [], [] => by simp [cmpL_nn]
  | [], _ :: _ => by simp [cmpL_nc]
  | _ :: _, [] => by simp [cmpL_cn]
  | x :: a, y :: b => by
    have := cmpL_zero a b
    rw [cmpL_cons]
    by_cases h1 : x.toNat < y.toNat
    · rw [if_pos h1]
      simp
      intro e; subst e; omega
    · by_cases h2 : y.toNat < x.toNat
      · rw [if_neg h1, if_pos h2]
        simp
        intro e; subst e; omega
      · rw [if_neg h1, if_neg h2, this]
        have e : x = y := UInt8.toNat_inj.1 (by omega)
        simp [e]

theorem cmpL_trans : ∀ a b c : List UInt8, cmpL a b ≤ 0 → cmpL b c ≤ 0 → cmpL a c ≤ 0
  | [], _, [], _, _ => by simp [cmpL_nn]
  | [], _, _ :: _, _, _ => by simp [cmpL_nc]
  | _ :: _, [], _, h, _ => by simp [cmpL_cn] at h
  | _ :: _, _ :: _, [], _, h => by simp [cmpL_cn] at h
  | x :: a, y :: b, z :: c, h1, h2 => by
    have ih := cmpL_trans a b c
    rw [cmpL_cons] at h1 h2 ⊢
    by_cases c1 : x.toNat < z.toNat
    · rw [if_pos c1]; omega
    · rw [if_neg c1]
      by_cases a1 : x.toNat < y.toNat
      · by_cases b1 : y.toNat < z.toNat
        · omega
        · by_cases b2 : z.toNat < y.toNat
          · rw [if_neg b1, if_pos b2] at h2; omega
          · omega
      · by_cases a2 : y.toNat < x.toNat
        · rw [if_neg a1, if_pos a2] at h1; omega
        · rw [if_neg a1, if_neg a2] at h1
          by_cases b1 : y.toNat < z.toNat
          · omega
          · by_cases b2 : z.toNat < y.toNat
            · rw [if_neg b1, if_pos b2] at h2; omega
            · rw [if_neg b1, if_neg b2] at h2
              rw [if_neg (by omega)]
              exact ih h1 h2

theorem compare_any (a b : ByteArray) (w : World) : Calls Tryz.prog 106 #[.string a, .string b] w fun e w' => e = .returned (.int .i64 (cmpL a.data.toList b.data.toList)) ∧ w = w' := by
  go_enter Tryz.func106, Tryz.ntmps106
  go_wp2_with (go_at_call 145; refine (Tryz.strings_Compare _ _ _).mono ?_; rintro e w' ⟨rfl, hw⟩; subst hw)
  go_ret
  exact ⟨rfl, rfl⟩
end

/- LbRef: The document's own words on signs: what sign, Signs and Right of package packhorseref01 answer. -/
section
set_option maxRecDepth 100000
open Go.RowKit

/-- Rows that a call owns stand, where nothing that was there has turned. -/
theorem own_below {w w' : World} {base : Nat} {e : TypeId} {size : Nat} {v : Value} {n : Nat} {xs : List Value} (h : w.ownsRow base e size v n xs) (hb : Below w.heap.size w w') : w'.ownsRow base e size v n xs := by
  refine ⟨h.1, ?_⟩
  rcases h.2 with hn | ⟨g, cap, cur, rfl, hbb, hgg, rest⟩
  · exact .inl hn
  · refine .inr ⟨g, cap, cur, rfl, hbb, ?_, rest⟩
    have hlt : g < w.heap.size := by
      by_cases hl : g < w.heap.size
      · exact hl
      · rw [Array.getElem?_eq_none (by omega)] at hgg
        cases hgg
    rw [hb.block g hlt]
    exact hgg
end

end Go.Proofs.YtfmpibmhhfmajaaGreatDoor
