/- Plain facts on an outbox that is read effect by effect. -/
import Derived.Test.YtciijkognhdddaaObPlain
namespace Go.Proofs.Ytciijkognhdddaa
set_option maxRecDepth 100000

theorem numS_zero {m : Nat} {s : Sc} (h : (numS m s).2 = none) : numS m s = (0, none) := by
  cases s with
  | none => rfl
  | some r =>
    unfold numS at h ⊢
    simp only at h ⊢
    split at h
    · cases h
    · rename_i hn
      rw [if_neg hn]
/-- With a lower limit the same is read, or nothing. -/
theorem numS_limit {s : Sc} (hb : BytesS s) {m M : Nat} (hm : m ≤ M) : numS m s = (0, none) ∨ numS m s = numS M s := by
  cases e : (numS m s).2 with
  | none => exact .inl (numS_zero e)
  | some r =>
    refine .inr ?_
    have h1 := numS_back hb e
    have h2 := numS_le m s hb
    have h3 := numS_put (m := M) (Nat.le_trans h2 hm) r
    rw [← h1] at h3
    rw [h3, ← e]
theorem numS_same {s : Sc} (hb : BytesS s) {m M : Nat} (hm : m ≤ M) (h : (numS M s).1 ≤ m) : numS m s = numS M s := by
  cases e : (numS M s).2 with
  | none =>
    rw [numS_zero e]
    rcases numS_limit hb hm with h1 | h1
    · exact h1
    · rw [h1, numS_zero e]
  | some r =>
    have h1 := numS_back hb e
    have h3 := numS_put (m := m) h r
    rw [← h1] at h3
    rw [h3, ← e]
theorem effsS_snoc : ∀ (k : Nat) (s : Sc), effsS (k + 1) s = ((effsS k s).1 ++ [(effS (effsS k s).2).1], (effS (effsS k s).2).2)
  | 0, s => by simp [effsS]
  | k + 1, s => by
    have ih := effsS_snoc k (effS s).2
    rw [effsS, ih]
    simp [effsS]
theorem effsS_add : ∀ (k j : Nat) (s : Sc), effsS (k + j) s = ((effsS k s).1 ++ (effsS j (effsS k s).2).1, (effsS j (effsS k s).2).2)
  | 0, j, s => by simp [effsS]
  | k + 1, j, s => by
    have ih := effsS_add k j (effS s).2
    rw [show k + 1 + j = (k + j) + 1 by omega, effsS, ih]
    simp [effsS]
theorem right_prefix {a b : List Ef} (h : rightE (a ++ b) = true) : rightE a = true := by
  rw [rightE_iff] at h ⊢
  refine ⟨fun e he => h.1 e (by simp [he]), ?_⟩
  have := h.2
  rw [List.map_append, List.pairwise_append] at this
  exact this.1
theorem box_none {s : Sc} (h : (boxS s).2 = none ∨ rightE (boxS s).1 = false) : boxO s = none := by
  unfold boxO
  rcases h with h | h <;> rw [h] <;> simp
theorem box_bad {s : Sc} (hb : BytesS s) (h : (numS 1000000000000 s).2 = none) : boxO s = none := by
  refine box_none (.inl ?_)
  unfold boxS
  rcases numS_limit hb (show 1048576 ≤ 1000000000000 by decide) with h1 | h1
  · rw [h1]; rfl
  · rw [h1, numS_zero h]; rfl
/-- Where one can't be read, or can't follow, there is no outbox. -/
theorem box_fail {s : Sc} (hb : BytesS s) {k : Nat} (hk : k < (numS 1000000000000 s).1) (h : (effsS (k + 1) (numS 1000000000000 s).2).2 = none ∨ rightE (effsS (k + 1) (numS 1000000000000 s).2).1 = false) : boxO s = none := by
  refine box_none ?_
  unfold boxS
  rcases numS_limit hb (show 1048576 ≤ 1000000000000 by decide) with h1 | h1
  · rw [h1]; exact .inl rfl
  · rw [h1]
    generalize numS 1000000000000 s = q at *
    obtain ⟨j, hj⟩ : ∃ j, q.1 = (k + 1) + j := ⟨q.1 - (k + 1), by omega⟩
    rw [hj, effsS_add]
    rcases h with h | h
    · left
      simp only [h]
      exact effsS_none j
    · right
      cases e : rightE ((effsS (k + 1) q.2).1 ++ (effsS j (effsS (k + 1) q.2).2).1) with
      | false => rfl
      | true =>
        rw [right_prefix e] at h
        cases h
theorem box_done {s : Sc} (hb : BytesS s) (h : (numS 1000000000000 s).1 ≤ 1048576) : boxS s = effsS (numS 1000000000000 s).1 (numS 1000000000000 s).2 := by
  unfold boxS
  rw [numS_same hb (show 1048576 ≤ 1000000000000 by decide) h]
theorem effL_pos (e : Ef) : 1 ≤ (effL e).length := by
  have := numL_pos e.key.toNat
  unfold effL
  rw [List.length_append]
  omega
theorem effsL_pos : ∀ (l : List Ef), l.length ≤ (effsL l).length
  | [] => Nat.le_refl _
  | e :: r => by
    have h1 := effL_pos e
    have h2 := effsL_pos r
    rw [effsL_cons, List.length_append, List.length_cons]
    omega
/-- Each that is read has a byte at least. -/
theorem effsS_few {s : Sc} (hb : BytesS s) {k : Nat} {b : List Nat} (hs : s = some b) (h : (effsS k s).2.isSome = true) : k ≤ b.length := by
  obtain ⟨r, hr⟩ := Option.isSome_iff_exists.1 h
  have h1 := effsS_back k hb hr
  rw [hs] at h1
  injection h1 with h1
  have h2 := effsL_pos (effsS k (some b)).1
  rw [effsS_len] at h2
  rw [h1, List.length_append]
  omega
theorem numS_short {s : Sc} {m : Nat} {b r : List Nat} (hs : s = some b) (h : (numS m s).2 = some r) : r.length ≤ b.length := by
  subst hs
  unfold numS at h
  simp only at h
  split at h
  · injection h with h
    rw [← h, List.length_drop]
    omega
  · cases h
theorem effS_order {s : Sc} (h : BytesS s) : (effS s).1.order.size ≤ 32 := by
  have b5 := numS_bytes (numS_bytes (numS_bytes (numS_bytes (numS_bytes h 1000000000000) 7) 1000000) 1099511627776) 1000000000000
  unfold effS
  simp only [strB_size]
  exact textS_le 32 b5
theorem effsS_order : ∀ (k : Nat) {s : Sc} (_ : BytesS s), ∀ e ∈ (effsS k s).1, e.order.size ≤ 32
  | 0, _, _ => fun e he => by simp [effsS] at he
  | k + 1, s, h => fun e he => by
    rw [effsS] at he
    rcases List.mem_cons.1 he with rfl | he
    · exact effS_order h
    · exact effsS_order k (effS_bytes h) e he

end Go.Proofs.Ytciijkognhdddaa
