/- Plain facts on the label that follows another, and on labels that are cut. No program is named here. -/
import Derived.Test.YtobicfkbpoimnaaDoorPlain4
namespace Go.Proofs.YtobicfkbpoimnaaDoor

theorem dg_one {c : UInt8} (h : isDg c = true) : one c = true ∧ let1 c = false := by
  unfold isDg at h
  unfold one let1
  simp at h ⊢
  omega

theorem dg_two {a c : UInt8} (h : isDg c = true) : two a c = false := by
  unfold isDg at h
  unfold two
  simp at h ⊢
  omega

/-- Each digit by itself. -/
def singles (d : List UInt8) : List (List UInt8) := d.map ([·])

theorem singles_flatten (d : List UInt8) : (singles d).flatten = d := by
  induction d with
  | nil => rfl
  | cons c r ih => simp only [singles, List.map_cons, List.flatten_cons] at ih ⊢; rw [ih]; rfl

theorem singles_chunk {d : List UInt8} (h : ∀ c ∈ d, isDg c = true) : ∀ x ∈ singles d, isChunk x = true := by
  intro x hx
  obtain ⟨c, hc, rfl⟩ := List.mem_map.1 hx
  exact (dg_one (h c hc)).1

theorem chunks_snoc {c : UInt8} (hc : isDg c = true) : ∀ (h : List UInt8) (cs), chunks (h ++ [c]) = some cs → ∃ hcs, chunks h = some hcs ∧ cs = hcs ++ [[c]]
  | [], cs, e => by
    have : cs = [[c]] := by simpa [chunks, (dg_one hc).1] using e.symm
    exact ⟨[], rfl, this⟩
  | [a], cs, e => by
    by_cases h1 : one a = true
    · have : cs = [[a], [c]] := by simpa [chunks, h1, (dg_one hc).1] using e.symm
      exact ⟨[[a]], by simp [chunks, h1], this⟩
    · simp [chunks, h1, dg_two hc] at e
  | a :: b :: r, cs, e => by
    by_cases h1 : one a = true
    · have e' : (chunks (b :: r ++ [c])).map ([a] :: ·) = some cs := by simpa [chunks, h1] using e
      cases e2 : chunks (b :: r ++ [c]) with
      | none => rw [e2] at e'; simp at e'
      | some cs' =>
        rw [e2] at e'
        obtain ⟨hcs, h3, h4⟩ := chunks_snoc hc (b :: r) cs' e2
        simp at e'
        exact ⟨[a] :: hcs, by simp [chunks, h1, h3], by rw [← e', h4]; rfl⟩
    · by_cases h2 : two a b = true
      · have e' : (chunks (r ++ [c])).map ([a, b] :: ·) = some cs := by simpa [chunks, h1, h2] using e
        cases e2 : chunks (r ++ [c]) with
        | none => rw [e2] at e'; simp at e'
        | some cs' =>
          rw [e2] at e'
          obtain ⟨hcs, h3, h4⟩ := chunks_snoc hc r cs' e2
          simp at e'
          exact ⟨[a, b] :: hcs, by simp [chunks, h1, h2, h3], by rw [← e', h4]; rfl⟩
      · simp [chunks, h1, h2] at e

theorem chunks_digits {d : List UInt8} : (∀ c ∈ d, isDg c = true) → ∀ (h : List UInt8) (cs), chunks (h ++ d) = some cs → ∃ hcs, chunks h = some hcs ∧ cs = hcs ++ singles d := by
  induction d with
  | nil => intro _ h cs e; exact ⟨cs, by simpa using e, by simp [singles]⟩
  | cons c r ih =>
    intro hd h cs e
    obtain ⟨hcs, h1, h2⟩ := ih (fun x hx => hd x (by simp [hx])) (h ++ [c]) cs (by simpa using e)
    obtain ⟨h', h3, h4⟩ := chunks_snoc (hd c (by simp)) h hcs h1
    exact ⟨h', h3, by rw [h2, h4]; simp [singles]⟩

theorem head_tail (l : List UInt8) : headL l ++ tailL l = l := List.take_append_drop _ _

theorem repeat_eq (n : Nat) : Lib.repeatL [48] n = List.replicate n 48 := by
  induction n with
  | zero => rfl
  | succ n ih => simp [Lib.repeatL, ih, List.replicate_succ]

theorem last_split {k : List UInt8} (h : k ≠ []) : k = k.dropLast ++ [k.getLastD 0] := by
  rw [List.getLastD_eq_getLast?, List.getLast?_eq_some_getLast h]
  exact (List.dropLast_concat_getLast h).symm

theorem kept_last_dg {d : List UInt8} (hd : ∀ c ∈ d, isDg c = true) (h : keptL d ≠ []) : 48 ≤ ((keptL d).getLastD 0).toNat ∧ ((keptL d).getLastD 0).toNat ≤ 56 := by
  have h9 := keptL_last d h
  have hm : isDg ((keptL d).getLastD 0) = true := by
    rw [List.getLastD_eq_getLast?, List.getLast?_eq_some_getLast h]
    exact keptL_mem hd _ (List.getLast_mem _)
  generalize (keptL d).getLastD 0 = c at *
  unfold isDg at hm
  have : c.toNat ≠ 57 := fun e => h9 (UInt8.toNat_inj.1 e)
  simp at hm
  omega

theorem oneMore_dg {d : List UInt8} (hd : ∀ c ∈ d, isDg c = true) : ∀ c ∈ oneMoreL d, isDg c = true := by
  have hz : ∀ c ∈ noughts d, isDg c = true := by
    intro c hc
    unfold noughts at hc
    rw [repeat_eq] at hc
    rw [List.eq_of_mem_replicate hc]
    decide
  unfold oneMoreL
  split
  · intro c hc
    simp at hc
    subst hc
    decide
  · split
    · intro c hc
      simp only [List.mem_cons] at hc
      rcases hc with rfl | hc
      · decide
      · exact hz c hc
    · rename_i h
      have hl := kept_last_dg hd h
      intro c hc
      simp only [List.mem_append, List.mem_cons] at hc
      rcases hc with hc | rfl | hc
      · exact keptL_mem hd c (List.dropLast_subset _ hc)
      · generalize (keptL d).getLastD 0 = c at *
        unfold isDg
        rw [UInt8.toNat_ofNat']
        simp
        omega
      · exact hz c hc

/-- The digits as a number, with a 1 ahead of them: longer ones count for more. -/
def val (d : List UInt8) : Nat := d.foldl (fun a c => 10 * a + (c.toNat - 48)) 1

theorem val_snoc (x : List UInt8) (c : UInt8) : val (x ++ [c]) = 10 * val x + (c.toNat - 48) := by simp [val]

theorem val_nines (x : List UInt8) (n : Nat) : val (x ++ List.replicate n 57) + 1 = 10 ^ n * val x + 10 ^ n := by
  induction n with
  | zero => simp
  | succ n ih =>
    rw [List.replicate_succ', ← List.append_assoc, val_snoc, Nat.pow_succ]
    have : (57 : UInt8).toNat = 57 := rfl
    rw [this]
    generalize val (x ++ List.replicate n 57) = A at *
    have h2 : 10 ^ n * 10 * val x = 10 * (10 ^ n * val x) := by rw [Nat.mul_comm (10 ^ n) 10, Nat.mul_assoc]
    rw [h2]
    generalize 10 ^ n * val x = B at *
    generalize 10 ^ n = D at *
    omega

theorem val_noughts (x : List UInt8) (n : Nat) : val (x ++ List.replicate n 48) = 10 ^ n * val x := by
  induction n with
  | zero => simp
  | succ n ih =>
    rw [List.replicate_succ', ← List.append_assoc, val_snoc, ih, Nat.pow_succ]
    have : (48 : UInt8).toNat = 48 := rfl
    rw [this]
    have h2 : 10 ^ n * 10 * val x = 10 * (10 ^ n * val x) := by rw [Nat.mul_comm (10 ^ n) 10, Nat.mul_assoc]
    rw [h2]
    omega

theorem val_more {d : List UInt8} (hd : ∀ c ∈ d, isDg c = true) : val d < val (oneMoreL d) := by
  unfold oneMoreL
  split
  · rename_i h; subst h; decide
  · obtain ⟨n, e, hn⟩ := keptL_suffix d
    have hz : noughts d = List.replicate n 48 := by unfold noughts; rw [repeat_eq, hn]
    rw [hz]
    split
    · rename_i h
      rw [h, List.nil_append] at e
      rw [e]
      have h1 := val_nines [] n
      have h2 := val_noughts [49] n
      have e1 : val [] = 1 := rfl
      have e2 : val [49] = 11 := rfl
      rw [e1] at h1
      rw [e2] at h2
      simp only [List.nil_append, List.singleton_append] at h1 h2
      rw [h2]
      generalize 10 ^ n = D at *
      omega
    · rename_i h
      have hl := kept_last_dg hd h
      have hs := last_split h
      generalize (keptL d).getLastD 0 = c at *
      generalize (keptL d).dropLast = k at *
      rw [hs] at e
      rw [e]
      have h1 := val_nines (k ++ [c]) n
      have h2 := val_noughts (k ++ [UInt8.ofNat c.toNat.succ]) n
      rw [val_snoc] at h1 h2
      have e3 : (UInt8.ofNat c.toNat.succ).toNat = c.toNat + 1 := by rw [UInt8.toNat_ofNat']; omega
      rw [e3] at h2
      have e4 : 10 * val k + (c.toNat + 1 - 48) = (10 * val k + (c.toNat - 48)) + 1 := by omega
      rw [e4, Nat.mul_add, Nat.mul_one] at h2
      simp only [List.append_assoc, List.singleton_append] at h1 h2 ⊢
      rw [h2]
      omega

theorem oneMore_len {d : List UInt8} : d.length ≤ (oneMoreL d).length ∧ (oneMoreL d).length ≤ d.length + 1 := by
  refine ⟨?_, oneMoreL_len d⟩
  have hk := keptL_le d
  unfold oneMoreL
  split
  · rename_i h; subst h; simp
  · split
    · rename_i h
      rw [List.length_cons]
      unfold noughts
      rw [repeat_len, h]
      simp
    · rename_i h
      have : 0 < (keptL d).length := List.length_pos_iff.2 h
      simp [noughts, repeat_len]
      omega

theorem td_prefix (h d : List UInt8) : ∀ p, p ≤ h.length → td (h ++ d) p = td h p
  | 0, _ => rfl
  | p + 1, hp => by
    have e : (h ++ d).getD p 0 = h.getD p 0 := by
      rw [List.getD_eq_getElem?_getD, List.getD_eq_getElem?_getD, List.getElem?_append_left (by omega)]
    simp only [td, e, td_prefix h d p (by omega)]

theorem td_app {h d : List UInt8} (hd : ∀ c ∈ d, isDg c = true) (h0 : td h h.length = 0) : ∀ p, p ≤ d.length → td (h ++ d) (h.length + p) = p
  | 0, _ => by rw [Nat.add_zero, td_prefix h d _ (Nat.le_refl _)]; exact h0
  | p + 1, hp => by
    have e : isDg ((h ++ d).getD (h.length + p) 0) = true := by
      rw [List.getD_eq_getElem?_getD, List.getElem?_append_right (by omega)]
      have : d[h.length + p - h.length]? = some d[p] := by
        rw [Nat.add_sub_cancel_left]; exact List.getElem?_eq_getElem (by omega)
      rw [this]
      exact hd _ (List.getElem_mem _)
    show td (h ++ d) (h.length + p + 1) = p + 1
    simp only [td, e, if_true, td_app hd h0 p (by omega)]

theorem td_before (l : List UInt8) : ∀ p, td l (p - td l p) = 0
  | 0 => rfl
  | p + 1 => by
    by_cases h : isDg (l.getD p 0) = true
    · have e : td l (p + 1) = td l p + 1 := by simp only [td, h, if_true]
      rw [e, show p + 1 - (td l p + 1) = p - td l p from by omega]
      exact td_before l p
    · have e : td l (p + 1) = 0 := by simp only [td, h, if_false, Bool.false_eq_true]
      rw [e, Nat.sub_zero, e]

theorem head_td (l : List UInt8) : td (headL l) (headL l).length = 0 := by
  have hl : (headL l).length = l.length - td l l.length := by unfold headL; rw [List.length_take]; omega
  have := td_prefix (headL l) (tailL l) (headL l).length (Nat.le_refl _)
  rw [head_tail] at this
  rw [← this, hl]
  exact td_before l l.length

/-- What follows has the same beginning; its digits are one more. -/
theorem next_tail (l : List UInt8) : tailL (nextRaw l) = oneMoreL (tailL l) ∧ headL (nextRaw l) = headL l := by
  have hd := oneMore_dg (tailL_mem l)
  have h1 := td_app hd (head_td l) _ (Nat.le_refl _)
  have hlen : (nextRaw l).length = (headL l).length + (oneMoreL (tailL l)).length := by unfold nextRaw; simp
  have h2 : td (nextRaw l) (nextRaw l).length = (oneMoreL (tailL l)).length := by rw [hlen]; exact h1
  have h3 : (nextRaw l).length - td (nextRaw l) (nextRaw l).length = (headL l).length := by rw [h2, hlen]; omega
  constructor
  · show (nextRaw l).drop _ = _
    rw [h3]
    unfold nextRaw
    simp
  · show (nextRaw l).take _ = _
    rw [h3]
    unfold nextRaw
    simp

theorem next_ne (l : List UInt8) : nextRaw l ≠ l := by
  intro e
  have h := (next_tail l).1
  rw [e] at h
  have := val_more (tailL_mem l)
  rw [← h] at this
  omega

theorem next_next_ne (l : List UInt8) : nextRaw (nextRaw l) ≠ l := by
  intro e
  have h := (next_tail l).1
  have h2 := (next_tail (nextRaw l)).1
  have v1 := val_more (tailL_mem l)
  have v2 := val_more (tailL_mem (nextRaw l))
  rw [← h2, e] at v2
  rw [← h] at v1
  omega

/-- A label's signs: those ahead of the digits at its end, and those digits. -/
theorem lab_parts {l : List UInt8} (hr : rightB l = true) : ∃ hcs, hcs ≠ [] ∧ (∀ x ∈ hcs, isChunk x = true) ∧ hcs.flatten = headL l ∧ letHead hcs = true ∧ labOf l = some (hcs ++ singles (tailL l)) ∧ hcs.length + (tailL l).length ≤ 16 := by
  unfold rightB at hr
  cases e : labOf l with
  | none => rw [e] at hr; simp at hr
  | some cs =>
    obtain ⟨h1, h2, h3, h4⟩ := labOf_some.1 e
    rw [← head_tail l] at h1
    obtain ⟨hcs, h5, h6⟩ := chunks_digits (tailL_mem l) _ _ h1
    obtain ⟨h7, h8⟩ := chunks_some h5
    have hne : hcs ≠ [] := by
      intro e0
      rw [h6, e0, List.nil_append] at h2 h4
      cases ht : tailL l with
      | nil => rw [ht] at h2; exact h2 rfl
      | cons c r =>
        rw [ht] at h4
        have := (dg_one (tailL_mem l c (by rw [ht]; simp))).2
        simp [singles, letHead, isLetC, this] at h4
    refine ⟨hcs, hne, h8, h7, ?_, by rw [h6], ?_⟩
    · rw [h6, letHead_append _ hne] at h4; exact h4
    · rw [h6] at h3; simpa [singles] using h3

/-- The signs of what follows. -/
theorem next_lab {l : List UInt8} {hcs : List (List UInt8)} (hne : hcs ≠ []) (hc : ∀ x ∈ hcs, isChunk x = true) (hf : hcs.flatten = headL l) (hl : letHead hcs = true) :
    labOf (nextRaw l) = if hcs.length + (oneMoreL (tailL l)).length ≤ 16 then some (hcs ++ singles (oneMoreL (tailL l))) else none := by
  have hd := oneMore_dg (tailL_mem l)
  have hck : chunks (nextRaw l) = some (hcs ++ singles (oneMoreL (tailL l))) := by
    have : nextRaw l = (hcs ++ singles (oneMoreL (tailL l))).flatten := by
      rw [List.flatten_append, singles_flatten, hf]; rfl
    rw [this]
    apply chunks_flatten
    intro x hx
    rcases List.mem_append.1 hx with h | h
    · exact hc x h
    · exact singles_chunk hd x h
  have hlen : (hcs ++ singles (oneMoreL (tailL l))).length = hcs.length + (oneMoreL (tailL l)).length := by simp [singles]
  split
  · rename_i h16
    exact labOf_some.2 ⟨hck, by simp [hne], by rw [hlen]; exact h16, by rw [letHead_append _ hne]; exact hl⟩
  · rename_i h16
    cases e : labOf (nextRaw l) with
    | none => rfl
    | some cs =>
      obtain ⟨h1, _, h3, _⟩ := labOf_some.1 e
      rw [hck] at h1
      cases h1
      omega

/-- The first n signs of a label; nothing, if it is none. -/
def cutL (l : List UInt8) (n : Nat) : List UInt8 := match labOf l with
  | none => []
  | some cs => (cs.take n).flatten

theorem cut_lab {l : List UInt8} {cs} (h : labOf l = some cs) {n : Nat} (hn : 1 ≤ n) : labOf (cutL l n) = some (cs.take n) := by
  obtain ⟨h1, h2, h3, h4⟩ := labOf_some.1 h
  obtain ⟨_, h6⟩ := chunks_some h1
  unfold cutL
  rw [h]
  simp only []
  refine labOf_some.2 ⟨chunks_flatten (fun x hx => h6 x (List.mem_of_mem_take hx)), ?_, ?_, ?_⟩
  · cases cs with
    | nil => exact absurd rfl h2
    | cons x r =>
      obtain ⟨m, rfl⟩ : ∃ m, n = m + 1 := ⟨n - 1, by omega⟩
      simp
  · rw [List.length_take]; omega
  · cases cs with
    | nil => exact absurd rfl h2
    | cons x r =>
      obtain ⟨m, rfl⟩ : ∃ m, n = m + 1 := ⟨n - 1, by omega⟩
      exact h4

theorem Pre.take {l : List UInt8} {pos k pre cs} (h : Pre l pos k pre) (hl : labOf l = some cs) : cs.take k = pre := by
  have hs := h.split
  rw [(labOf_some.1 hl).1] at hs
  cases e : chunks (l.drop pos) with
  | none => rw [e] at hs; simp at hs
  | some rest =>
    rw [e] at hs
    simp at hs
    rw [hs, ← h.len]
    simp

theorem Pre.stepLab {l : List UInt8} {pos k r wd : Nat} {pre cs} (h : Pre l pos k pre) (hp : pos < l.length) (hd : DecSg l pos r wd) (hl : labOf l = some cs) : Pre l (pos + wd) (k + 1) (pre ++ [(l.drop pos).take wd]) := by
  have no : ¬ (isSgnB (r : Int) = false ∨ k = 0 ∧ isLetB (r : Int) = false ∨ k = 16) := by
    intro hb
    have := signs_bad h hp hd hb
    simp only [signsI, hl] at this
    omega
  have h1 : isSgnB (r : Int) = true := by
    cases e : isSgnB (r : Int) with
    | true => rfl
    | false => exact absurd (Or.inl e) no
  refine signs_step h hd h1 (fun hk => ?_) (fun hk => no (Or.inr (Or.inr hk)))
  cases e : isLetB (r : Int) with
  | true => rfl
  | false => exact absurd (Or.inr (Or.inl ⟨hk, e⟩)) no

end Go.Proofs.YtobicfkbpoimnaaDoor
