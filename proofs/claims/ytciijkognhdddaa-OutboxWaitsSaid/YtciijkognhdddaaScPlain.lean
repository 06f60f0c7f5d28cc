/- Plain facts on bytes that are read on, number by number and text by text: what is written is read, and what is read is as it would be written. -/
import Derived.Test.YtciijkognhdddaaLbSigns
import Derived.Test.YtciijkognhdddaaBkWrite
namespace Go.Proofs.Ytciijkognhdddaa
set_option maxRecDepth 100000

def rightT (s : ByteArray) : Bool := rightB s.data.toList
def groupB (a b c : ByteArray) : Bool := rightT a && (rightT b && rightT c)
def tallyB (n : Int) : Bool := decide (0 ≤ n ∧ n ≤ 1000000000000)
/-- What is left of bytes that are read: nothing, once they could not be. -/
abbrev Sc := Option (List Nat)
def numS (most : Nat) (s : Sc) : Nat × Sc :=
  match s with
  | none => (0, none)
  | some r => if (numAt most 0 0 r).2.2 = 0 then ((numAt most 0 0 r).1, some (r.drop (numAt most 0 0 r).2.1)) else (0, none)
def textS (most : Nat) (s : Sc) : List Nat × Sc :=
  match numS most s with
  | (_, none) => ([], none)
  | (n, some r) => if r.length < n then ([], none) else (r.take n, some (r.drop n))
/-- A text's bytes tell the text. -/
theorem strL_inj {a b : ByteArray} (h : strL a = strL b) : a = b := by
  unfold strL at h
  have e : a.data.toList = b.data.toList := by
    refine List.map_inj_right (f := UInt8.toNat) (fun x y e => UInt8.toNat_inj.1 e) |>.1 h
  cases a; cases b
  simp only at e
  rw [Array.toList_inj] at e
  rw [e]
theorem strB_strL (s : ByteArray) : strB (strL s) = s := strL_inj (strL_strB (strL_bytes s))
theorem chunk_two {x : List UInt8} (h : isChunk x = true) : x.length ≤ 2 := by
  match x, h with
  | [], _ => simp
  | [_], _ => simp
  | [_, _], _ => simp
  | _ :: _ :: _ :: _, h => simp [isChunk] at h
theorem flat_two : ∀ (cs : List (List UInt8)), (∀ x ∈ cs, isChunk x = true) → cs.flatten.length ≤ 2 * cs.length
  | [], _ => by simp
  | x :: r, h => by
    have h1 := chunk_two (h x (by simp))
    have h2 := flat_two r (fun y hy => h y (by simp [hy]))
    rw [List.flatten_cons, List.length_append, List.length_cons]
    omega
/-- A label has no more than 32 bytes. -/
theorem right_32 {s : ByteArray} (h : rightT s = true) : s.size ≤ 32 := by
  unfold rightT rightB at h
  obtain ⟨cs, hc⟩ := Option.isSome_iff_exists.1 h
  obtain ⟨h1, _, h3, _⟩ := labOf_some.1 hc
  obtain ⟨h4, h5⟩ := chunks_some h1
  have h6 := flat_two cs h5
  rw [h4, Array.length_toList] at h6
  have : s.data.size = s.size := rfl
  omega
theorem numS_none (m : Nat) : numS m none = (0, none) := rfl
theorem textS_none (m : Nat) : textS m none = ([], none) := rfl
theorem numS_put {n m : Nat} (h : n ≤ m) (r : List Nat) : numS m (some (numL n ++ r)) = (n, some r) := by
  have e := numAt_numL m r n 0 0 (by simp; omega) (by simp)
  unfold numS
  simp only [e]
  simp
theorem textS_put {s : ByteArray} {m : Nat} (h : s.size ≤ m) (r : List Nat) : textS m (some (textL s ++ r)) = (strL s, some r) := by
  have e := numS_put h (strL s ++ r)
  unfold textS textL
  rw [List.append_assoc, e]
  have h2 := strL_len s
  simp [h2.symm]
theorem groupB_of {a b c : ByteArray} (h : groupB a b c = true) : rightT a = true ∧ rightT b = true ∧ rightT c = true := by
  simpa [groupB] using h
/-- Bytes are left, if anything is. -/
def BytesS (s : Sc) : Prop := ∀ b, s = some b → Bytes b
theorem numS_bytes {s : Sc} (h : BytesS s) (m : Nat) : BytesS (numS m s).2 := by
  cases s with
  | none => intro b e; cases e
  | some r =>
    intro b e
    unfold numS at e
    simp only at e
    split at e
    · cases e
      exact fun x hx => h r rfl x (List.mem_of_mem_drop hx)
    · cases e
theorem textS_eq (m : Nat) (s : Sc) : textS m s = match (numS m s).2 with | none => ([], none) | some r => if r.length < (numS m s).1 then ([], none) else (r.take (numS m s).1, some (r.drop (numS m s).1)) := by
  unfold textS
  rcases numS m s with ⟨n, _ | r⟩ <;> rfl
theorem textS_bytes {s : Sc} (h : BytesS s) (m : Nat) : BytesS (textS m s).2 ∧ Bytes (textS m s).1 := by
  have h1 := numS_bytes h m
  rw [textS_eq]
  cases e : (numS m s).2 with
  | none => exact ⟨fun b e => (by cases e), fun b hb => (by simp at hb)⟩
  | some r =>
    have hr := h1 r e
    simp only
    split
    · exact ⟨fun b e => (by cases e), fun b hb => (by simp at hb)⟩
    · exact ⟨fun b e => (by cases e; exact fun x hx => hr x (List.mem_of_mem_drop hx)), fun x hx => hr x (List.mem_of_mem_take hx)⟩
theorem numS_le (m : Nat) (s : Sc) (h : BytesS s) : (numS m s).1 ≤ m := by
  cases s with
  | none => exact Nat.zero_le _
  | some b =>
    unfold numS
    simp only
    split
    · rename_i he
      rcases hn : numAt m 0 0 b with ⟨v, k, e⟩
      rw [hn] at he
      simp only at he
      subst he
      obtain ⟨_, _, _, _, _, h4, _⟩ := numAt_alone m b 0 0 v k (h b rfl) (Nat.zero_le _) hn
      exact h4
    · exact Nat.zero_le _
/-- What is read is as it would be written. -/
theorem numS_back {s : Sc} (h : BytesS s) {m : Nat} {r : List Nat} (e : (numS m s).2 = some r) : s = some (numL (numS m s).1 ++ r) := by
  cases s with
  | none => cases e
  | some b =>
    unfold numS at e ⊢
    simp only at e ⊢
    split at e
    · rename_i he
      rw [if_pos he]
      cases e
      rcases hn : numAt m 0 0 b with ⟨v, k, e⟩
      rw [hn] at he
      simp only at he
      subst he
      obtain ⟨q, r, h1, h2, h3, _⟩ := numAt_alone m b 0 0 v k (h b rfl) (Nat.zero_le _) hn
      simp at h2 h3
      subst h2 h3
      simp only
      rw [h1]
      simp
    · cases e
theorem textS_back {s : Sc} (h : BytesS s) {m : Nat} {r : List Nat} (e : (textS m s).2 = some r) : s = some (textL (strB (textS m s).1) ++ r) := by
  have hb := (textS_bytes h m).2
  rw [textS_eq] at e hb ⊢
  cases e2 : (numS m s).2 with
  | none => rw [e2] at e; cases e
  | some t =>
    rw [e2] at e hb
    simp only at e hb ⊢
    split at e
    · cases e
    · rename_i hl
      rw [if_neg hl] at hb ⊢
      cases e
      have h1 := numS_back h e2
      simp only at hb ⊢
      rw [textL, strB_size, strL_strB hb, List.append_assoc, List.take_append_drop, List.length_take, Nat.min_eq_left (by omega)]
      exact h1

theorem textS_le (m : Nat) {s : Sc} (h : BytesS s) : (textS m s).1.length ≤ m := by
  have hn := numS_le m s h
  rw [textS_eq]
  cases (numS m s).2 with
  | none => simp
  | some r =>
    simp only
    split
    · simp
    · rw [List.length_take]; omega

/-- A group's texts, a saga's numbers. -/
def groupS (s : Sc) : (List Nat × List Nat × List Nat) × Sc :=
  (((textS 32 s).1, (textS 32 (textS 32 s).2).1, (textS 32 (textS 32 (textS 32 s).2).2).1), (textS 32 (textS 32 (textS 32 s).2).2).2)

end Go.Proofs.Ytciijkognhdddaa
