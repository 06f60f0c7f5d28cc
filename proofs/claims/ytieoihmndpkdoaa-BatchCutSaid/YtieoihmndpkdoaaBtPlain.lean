/- Plain facts on batches: which can be, who joins and is evicted, their bytes, and what bytes are read as. -/
import Derived.Test.YtieoihmndpkdoaaTlSum
namespace Go.Proofs.Ytieoihmndpkdoaa

/-- A batch. -/
structure Bt where
  id : Int
  wt : Int
  born : Int
  kind : Int
  phase : Int
  car : ByteArray
  zone : ByteArray
  serv : ByteArray
  mem : List ByteArray

/-- Caps. -/
structure Cp where
  count : Int
  wt : Int

def tickB (n : Int) : Bool := decide (0 ≤ n ∧ n ≤ 1099511627776)
def aboveB (n : Int) : Bool := decide (1 ≤ n ∧ n ≤ 1000000000000)
def capsB (c : Cp) : Bool := decide (1 ≤ c.count ∧ c.count ≤ 64) && aboveB c.wt
def hasT (l : List ByteArray) (x : ByteArray) : Bool := l.any fun y => y.toList == x.toList
theorem toList_iff (a b : ByteArray) : (a.toList == b.toList) = true ↔ a = b := by
  constructor
  · intro h
    by_cases e : a = b
    · exact e
    · rw [str_ne e] at h; cases h
  · intro h; exact str_eq h
theorem hasT_iff (l : List ByteArray) (x : ByteArray) : hasT l x = true ↔ x ∈ l := by
  unfold hasT
  rw [List.any_eq_true]
  constructor
  · rintro ⟨y, hy, e⟩; rw [toList_iff] at e; exact e ▸ hy
  · intro h; exact ⟨x, h, by simp⟩
theorem hasT_no (l : List ByteArray) (x : ByteArray) : hasT l x = false ↔ x ∉ l := by rw [← hasT_iff]; simp
/-- The members l, behind those of pre. -/
def goodM (pre : List ByteArray) : List ByteArray → Bool
  | [] => true
  | x :: r => rightT x && !hasT pre x && goodM (pre ++ [x]) r
def membersB (l : List ByteArray) : Bool := decide (l.length ≤ 64) && goodM [] l
def kindB (n : Int) : Bool := decide (n = 1 ∨ n = 2)
def btPhaseB (n : Int) : Bool := decide (1 ≤ n ∧ n ≤ 3)
def rightBt (b : Bt) : Bool := aboveB b.id && (tallyB b.wt && (tickB b.born && (kindB b.kind && (btPhaseB b.phase && (groupB b.car b.zone b.serv && membersB b.mem)))))

theorem goodM_iff : ∀ (l pre : List ByteArray), goodM pre l = true ↔ (∀ x ∈ l, rightT x = true ∧ x ∉ pre) ∧ l.Nodup
  | [], pre => by simp [goodM]
  | x :: r, pre => by
    have ih := goodM_iff r (pre ++ [x])
    simp only [goodM, Bool.and_eq_true, ih, Bool.not_eq_true', hasT_no, List.mem_append, List.not_mem_nil, or_false, not_or, List.nodup_cons, List.mem_cons, forall_eq_or_imp]
    constructor
    · rintro ⟨⟨h1, h2⟩, h3, h4⟩
      exact ⟨⟨⟨h1, h2⟩, fun y hy => ⟨(h3 y hy).1, (h3 y hy).2.1⟩⟩, fun hx => (h3 x hx).2.2 rfl, h4⟩
    · rintro ⟨⟨⟨h1, h2⟩, h3⟩, h4, h5⟩
      exact ⟨⟨h1, h2⟩, fun y hy => ⟨(h3 y hy).1, (h3 y hy).2, fun e => h4 (e ▸ hy)⟩, h5⟩

theorem membersB_iff (l : List ByteArray) : membersB l = true ↔ l.length ≤ 64 ∧ (∀ x ∈ l, rightT x = true) ∧ l.Nodup := by
  simp only [membersB, Bool.and_eq_true, decide_eq_true_eq, goodM_iff, List.not_mem_nil, not_false_eq_true, and_true]

theorem goodM_step (l : List ByteArray) (k : Nat) (h : k < l.length) : goodM (l.take k) (l.drop k) = (rightT l[k] && !hasT (l.take k) l[k] && goodM (l.take (k + 1)) (l.drop (k + 1))) := by
  rw [List.drop_eq_getElem_cons h, goodM, List.take_succ_eq_append_getElem h]

theorem rightBt_of {b : Bt} (h : rightBt b = true) : (1 ≤ b.id ∧ b.id ≤ 1000000000000) ∧ (0 ≤ b.wt ∧ b.wt ≤ 1000000000000) ∧ (0 ≤ b.born ∧ b.born ≤ 1099511627776) ∧ (b.kind = 1 ∨ b.kind = 2) ∧ (1 ≤ b.phase ∧ b.phase ≤ 3) ∧ groupB b.car b.zone b.serv = true ∧ b.mem.length ≤ 64 ∧ (∀ x ∈ b.mem, rightT x = true) ∧ b.mem.Nodup := by
  simp only [rightBt, Bool.and_eq_true, aboveB, tallyB, tickB, kindB, btPhaseB, decide_eq_true_eq, membersB_iff] at h
  exact ⟨h.1, h.2.1, h.2.2.1, h.2.2.2.1, h.2.2.2.2.1, h.2.2.2.2.2.1, h.2.2.2.2.2.2⟩
theorem rightBt_mk {b : Bt} (h1 : 1 ≤ b.id ∧ b.id ≤ 1000000000000) (h2 : 0 ≤ b.wt ∧ b.wt ≤ 1000000000000) (h3 : 0 ≤ b.born ∧ b.born ≤ 1099511627776) (h4 : b.kind = 1 ∨ b.kind = 2) (h5 : 1 ≤ b.phase ∧ b.phase ≤ 3) (h6 : groupB b.car b.zone b.serv = true) (h7 : b.mem.length ≤ 64) (h8 : ∀ x ∈ b.mem, rightT x = true) (h9 : b.mem.Nodup) : rightBt b = true := by
  simp only [rightBt, Bool.and_eq_true, aboveB, tallyB, tickB, kindB, btPhaseB, decide_eq_true_eq, membersB_iff]
  exact ⟨h1, h2, h3, h4, h5, h6, h7, h8, h9⟩

/-- Texts in a row are the same. -/
def sameT : List ByteArray → List ByteArray → Bool
  | [], [] => true
  | x :: a, y :: b => (x.toList == y.toList) && sameT a b
  | _, _ => false
theorem sameT_iff : ∀ (a b : List ByteArray), sameT a b = true ↔ a = b
  | [], [] => by simp [sameT]
  | [], _ :: _ => by simp [sameT]
  | _ :: _, [] => by simp [sameT]
  | x :: a, y :: b => by
    simp only [sameT, Bool.and_eq_true, toList_iff, sameT_iff a b, List.cons.injEq]
theorem sameT_len {a b : List ByteArray} (h : a.length ≠ b.length) : sameT a b = false := by
  cases e : sameT a b with
  | false => rfl
  | true => rw [sameT_iff] at e; exact absurd (congrArg List.length e) h
theorem sameT_step (l m : List ByteArray) (k : Nat) (h1 : k < l.length) (h2 : k < m.length) : sameT (l.drop k) (m.drop k) = ((l[k].toList == m[k].toList) && sameT (l.drop (k + 1)) (m.drop (k + 1))) := by
  rw [List.drop_eq_getElem_cons h1, List.drop_eq_getElem_cons h2, sameT]

def sameG (a b c x y z : ByteArray) : Bool := (a.toList == x.toList) && ((b.toList == y.toList) && (c.toList == z.toList))
def sameBt (x y : Bt) : Bool := (x.id == y.id) && ((x.wt == y.wt) && ((x.born == y.born) && ((x.kind == y.kind) && ((x.phase == y.phase) && (sameG x.car x.zone x.serv y.car y.zone y.serv && sameT x.mem y.mem)))))
theorem sameBt_iff (x y : Bt) : sameBt x y = true ↔ x = y := by
  cases x; cases y
  simp only [sameBt, sameG, Bool.and_eq_true, beq_iff_eq, sameT_iff, Bt.mk.injEq]
  have e : ∀ a b : ByteArray, a.toList = b.toList ↔ a = b := fun a b => by rw [← toList_iff, beq_iff_eq]
  simp only [e]
  constructor
  · rintro ⟨h1, h2, h3, h4, h5, ⟨h6, h7, h8⟩, h9⟩; exact ⟨h1, h2, h3, h4, h5, h6, h7, h8, h9⟩
  · rintro ⟨h1, h2, h3, h4, h5, h6, h7, h8, h9⟩; exact ⟨h1, h2, h3, h4, h5, ⟨h6, h7, h8⟩, h9⟩
theorem sameBt_self (x : Bt) : sameBt x x = true := (sameBt_iff x x).2 rfl

/-- Who joins: the error's number, and the batch. -/
def roomB (b : Bt) (c : Cp) (sum : Int) : Bool := decide (b.mem.length = 0) || (decide ((b.mem.length : Int) < c.count) && decide (sum ≤ c.wt))
def joinE (b : Bt) (c : Cp) (id : ByteArray) (w : Int) : Int :=
  if b.phase ≠ 1 then 113 else if !rightT id || hasT b.mem id then 112 else if decide (addE b.wt w ≠ 0) || !roomB b c (addV b.wt w) then 111 else 0
def joinD (b : Bt) (id : ByteArray) (w : Int) : Bt := ⟨b.id, addV b.wt w, b.born, b.kind, b.phase, b.car, b.zone, b.serv, b.mem ++ [id]⟩
def joinV (b : Bt) (c : Cp) (id : ByteArray) (w : Int) : Bt := if joinE b c id w = 0 then joinD b id w else b
/-- Who is evicted. -/
def dropT (l : List ByteArray) (x : ByteArray) : List ByteArray := l.filter fun y => !(y.toList == x.toList)
def evictE (b : Bt) (id : ByteArray) : Int := if b.phase ≠ 1 then 113 else if hasT b.mem id then 0 else 112
def evictD (b : Bt) (id : ByteArray) (w : Int) : Bt := ⟨b.id, lessV b.wt w, b.born, b.kind, b.phase, b.car, b.zone, b.serv, dropT b.mem id⟩
def evictV (b : Bt) (id : ByteArray) (w : Int) : Bt := if evictE b id = 0 then evictD b id w else b
def fullB (b : Bt) (c : Cp) : Bool := decide (c.count ≤ (b.mem.length : Int)) || decide (c.wt ≤ b.wt)
def partV (b : Bt) (id : Int) (l : List ByteArray) (w : Int) : Bt := ⟨id, w, b.born, b.kind, 2, b.car, b.zone, b.serv, l⟩

theorem joinE_ok {b : Bt} {c : Cp} {id : ByteArray} {w : Int} (h : joinE b c id w = 0) : b.phase = 1 ∧ rightT id = true ∧ id ∉ b.mem ∧ addE b.wt w = 0 ∧ roomB b c (addV b.wt w) = true := by
  unfold joinE at h
  split at h
  · cases h
  · rename_i h1
    split at h
    · cases h
    · rename_i h2
      split at h
      · cases h
      · rename_i h3
        simp only [Bool.or_eq_true, not_or, Bool.not_eq_true', hasT_iff, decide_eq_true_eq, Bool.not_eq_false, Decidable.not_not, ne_eq] at h1 h2 h3
        exact ⟨h1, h2.1, h2.2, h3.1, h3.2⟩
theorem joinV_cases (b : Bt) (c : Cp) (id : ByteArray) (w : Int) : joinE b c id w = 0 ∧ joinV b c id w = joinD b id w ∨ joinE b c id w ≠ 0 ∧ joinV b c id w = b := by
  unfold joinV
  by_cases h : joinE b c id w = 0
  · exact .inl ⟨h, by rw [if_pos h]⟩
  · exact .inr ⟨h, by rw [if_neg h]⟩

/-- A batch that is right stays right, and so do its caps' limits. -/
theorem join_right {b : Bt} {c : Cp} {id : ByteArray} {w : Int} (hb : rightBt b = true) (hc : capsB c = true) : rightBt (joinV b c id w) = true := by
  rcases joinV_cases b c id w with ⟨h, e⟩ | ⟨_, e⟩
  · rw [e]
    obtain ⟨h1, h2, h3, h4, h5⟩ := joinE_ok h
    obtain ⟨e1, h6, h7, h8⟩ := addE_ok h4
    obtain ⟨r1, r2, r3, r4, r5, r6, r7, r8, r9⟩ := rightBt_of hb
    have hcc : 1 ≤ c.count ∧ c.count ≤ 64 := by simp only [capsB, Bool.and_eq_true, decide_eq_true_eq] at hc; exact hc.1
    refine rightBt_mk r1 ?_ r3 r4 r5 r6 ?_ ?_ ?_
    · show 0 ≤ addV b.wt w ∧ addV b.wt w ≤ _
      rw [e1]; omega
    · show (b.mem ++ [id]).length ≤ 64
      rw [List.length_append, List.length_singleton]
      simp only [roomB, Bool.or_eq_true, Bool.and_eq_true, decide_eq_true_eq] at h5
      omega
    · intro x hx
      rcases List.mem_append.1 hx with hx | hx
      · exact r8 x hx
      · rw [List.mem_singleton.1 hx]; exact h2
    · show (b.mem ++ [id]).Nodup
      rw [List.nodup_append]
      exact ⟨r9, by simp, fun x hx y hy => by rw [List.mem_singleton.1 hy]; exact fun e => h3 (e ▸ hx)⟩
  · rw [e]; exact hb

theorem evictV_cases (b : Bt) (id : ByteArray) (w : Int) : evictE b id = 0 ∧ evictV b id w = evictD b id w ∨ evictE b id ≠ 0 ∧ evictV b id w = b := by
  unfold evictV
  by_cases h : evictE b id = 0
  · exact .inl ⟨h, by rw [if_pos h]⟩
  · exact .inr ⟨h, by rw [if_neg h]⟩
theorem evict_right {b : Bt} {id : ByteArray} {w : Int} (hb : rightBt b = true) : rightBt (evictV b id w) = true := by
  rcases evictV_cases b id w with ⟨_, e⟩ | ⟨_, e⟩
  · rw [e]
    obtain ⟨r1, r2, r3, r4, r5, r6, r7, r8, r9⟩ := rightBt_of hb
    refine rightBt_mk r1 (lessV_in r2) r3 r4 r5 r6 ?_ ?_ ?_
    · exact Nat.le_trans (List.length_filter_le _ _) r7
    · exact fun x hx => r8 x ((List.mem_filter.1 hx).1)
    · exact r9.filter _
  · rw [e]; exact hb

/-- A list without its first x. -/
theorem drop_first {l : List ByteArray} (h : l.Nodup) {k : Nat} (hk : k < l.length) : l.take k ++ l.drop (k + 1) = dropT l l[k] := by
  have e : l = l.take k ++ l[k] :: l.drop (k + 1) := by rw [← List.drop_eq_getElem_cons hk, List.take_append_drop]
  have hn := h
  generalize l[k] = x at *
  generalize l.take k = p at *
  generalize l.drop (k + 1) = q at *
  subst e
  rw [List.nodup_append, List.nodup_cons] at hn
  obtain ⟨_, ⟨h1, _⟩, h2⟩ := hn
  unfold dropT
  rw [List.filter_append, List.filter_cons]
  rw [str_eq (rfl : x = x)]
  simp only [Bool.not_true, Bool.false_eq_true, if_false]
  rw [List.filter_eq_self.2 (fun y hy => by rw [str_ne (fun e : y = x => h2 y hy x (by simp) e)]; rfl), List.filter_eq_self.2 (fun y hy => by rw [str_ne (fun e : y = x => h1 (e ▸ hy))]; rfl)]

/-- A batch's bytes. -/
def batchL (b : Bt) : List Nat :=
  numL b.id.toNat ++ (numL b.kind.toNat ++ (numL b.phase.toNat ++ (numL b.wt.toNat ++ (numL b.born.toNat ++ (textL b.car ++ (textL b.zone ++ (textL b.serv ++ (numL b.mem.length ++ textsL b.mem))))))))

def textsS : Nat → Sc → List ByteArray × Sc
  | 0, s => ([], s)
  | n + 1, s => (strB (textS 32 s).1 :: (textsS n (textS 32 s).2).1, (textsS n (textS 32 s).2).2)

def takeB (s : Sc) : Bt × Sc :=
  let i := numS 1000000000000 s
  let k := numS 2 i.2
  let p := numS 3 k.2
  let t := numS 1000000000000 p.2
  let f := numS 1099511627776 t.2
  let g := groupS f.2
  let n := numS 64 g.2
  let m := textsS n.1 n.2
  (⟨(i.1 : Int), (t.1 : Int), (f.1 : Int), (k.1 : Int), (p.1 : Int), strB g.1.1, strB g.1.2.1, strB g.1.2.2, m.1⟩, m.2)

/-- The batch that stands next; none, if there is none. -/
def takeBV (s : Sc) : Option Bt := if (takeB s).2.isSome && rightBt (takeB s).1 then some (takeB s).1 else none
def noBt : Bt := ⟨0, 0, 0, 0, 0, ⟨#[]⟩, ⟨#[]⟩, ⟨#[]⟩, []⟩
def takeBO (s : Sc) : Bt := (takeBV s).getD noBt

theorem textsL_cons (x : ByteArray) (l : List ByteArray) : textsL (x :: l) = textL x ++ textsL l := by simp [textsL]
theorem textsS_put : ∀ (l : List ByteArray) (_ : ∀ x ∈ l, x.size ≤ 32) (r : List Nat), textsS l.length (some (textsL l ++ r)) = (l, some r)
  | [], _, r => by simp [textsS, textsL]
  | x :: l, h, r => by
    rw [textsL_cons, List.append_assoc, List.length_cons, textsS, textS_put (h x (by simp))]
    simp only [strB_strL]
    rw [textsS_put l (fun y hy => h y (by simp [hy])) r]

theorem groupS_put {a b c : ByteArray} (ha : a.size ≤ 32) (hb : b.size ≤ 32) (hc : c.size ≤ 32) (r : List Nat) : groupS (some (textL a ++ (textL b ++ (textL c ++ r)))) = ((strL a, strL b, strL c), some r) := by
  unfold groupS
  rw [textS_put ha]
  simp only
  rw [textS_put hb]
  simp only
  rw [textS_put hc]

/-- What is written is read. -/
theorem takeB_put {b : Bt} (h : rightBt b = true) (r : List Nat) : takeB (some (batchL b ++ r)) = (b, some r) := by
  obtain ⟨r1, r2, r3, r4, r5, r6, r7, r8, r9⟩ := rightBt_of h
  obtain ⟨g1, g2, g3⟩ := groupB_of r6
  unfold takeB batchL
  simp only [List.append_assoc]
  rw [numS_put (by omega)]
  simp only
  rw [numS_put (by omega)]
  simp only
  rw [numS_put (by omega)]
  simp only
  rw [numS_put (by omega)]
  simp only
  rw [numS_put (by omega)]
  simp only
  rw [groupS_put (right_32 g1) (right_32 g2) (right_32 g3)]
  simp only
  rw [numS_put (by omega)]
  simp only
  rw [textsS_put _ (fun x hx => right_32 (r8 x hx))]
  simp only [strB_strL]
  rw [Int.toNat_of_nonneg (by omega), Int.toNat_of_nonneg (by omega), Int.toNat_of_nonneg (by omega), Int.toNat_of_nonneg (by omega), Int.toNat_of_nonneg (by omega)]

theorem textsS_len : ∀ (n : Nat) (s : Sc), (textsS n s).1.length = n
  | 0, _ => rfl
  | n + 1, s => by rw [textsS]; simp [textsS_len n]
theorem textsS_bytes : ∀ (n : Nat) {s : Sc} (_ : BytesS s), BytesS (textsS n s).2
  | 0, _, h => h
  | n + 1, _, h => textsS_bytes n (textS_bytes h 32).1
theorem textsS_back : ∀ (n : Nat) {s : Sc} (_ : BytesS s) {r : List Nat} (_ : (textsS n s).2 = some r), s = some (textsL (textsS n s).1 ++ r)
  | 0, s, _, r, e => by simpa [textsS, textsL] using e
  | n + 1, s, h, r, e => by
    rw [textsS] at e ⊢
    simp only at e ⊢
    have e2 := textsS_back n (textS_bytes h 32).1 e
    have e1 := textS_back h e2
    rw [textsL_cons, List.append_assoc]
    exact e1
theorem textsS_size : ∀ (n : Nat) {s : Sc} (_ : BytesS s), ∀ x ∈ (textsS n s).1, x.size ≤ 32
  | 0, _, _, x, hx => by simp [textsS] at hx
  | n + 1, s, h, x, hx => by
    rw [textsS] at hx
    rcases List.mem_cons.1 hx with rfl | hx
    · rw [strB_size]; exact textS_le 32 h
    · exact textsS_size n (textS_bytes h 32).1 x hx
theorem groupS_bytes {s : Sc} (h : BytesS s) : BytesS (groupS s).2 := (textS_bytes (textS_bytes (textS_bytes h 32).1 32).1 32).1
theorem groupS_back {s : Sc} (h : BytesS s) {r : List Nat} (e : (groupS s).2 = some r) : s = some (textL (strB (groupS s).1.1) ++ (textL (strB (groupS s).1.2.1) ++ (textL (strB (groupS s).1.2.2) ++ r))) := by
  have b1 := (textS_bytes h 32).1
  have b2 := (textS_bytes b1 32).1
  have e3 := textS_back b2 (m := 32) (r := r) e
  have e2 := textS_back b1 (m := 32) e3
  have e1 := textS_back h (m := 32) e2
  exact e1

theorem takeB_back {s : Sc} (h : BytesS s) {r : List Nat} (e : (takeB s).2 = some r) : s = some (batchL (takeB s).1 ++ r) := by
  unfold takeB at e ⊢
  simp only at e ⊢
  have b1 := numS_bytes h 1000000000000
  generalize hi : numS 1000000000000 s = i at *
  have b2 := numS_bytes b1 2
  generalize hk : numS 2 i.2 = k at *
  have b3 := numS_bytes b2 3
  generalize hp : numS 3 k.2 = p at *
  have b4 := numS_bytes b3 1000000000000
  generalize ht : numS 1000000000000 p.2 = t at *
  have b5 := numS_bytes b4 1099511627776
  generalize hf : numS 1099511627776 t.2 = f at *
  have b6 := groupS_bytes b5
  generalize hg : groupS f.2 = g at *
  have b7 := numS_bytes b6 64
  generalize hn : numS 64 g.2 = n at *
  have n8 := textsS_len n.1 n.2
  have e8 := textsS_back n.1 b7 e
  generalize hm : textsS n.1 n.2 = m at *
  have e7 := numS_back b6 (m := 64) (by rw [hn]; exact e8)
  rw [hn] at e7
  have e6 := groupS_back b5 (by rw [hg]; exact e7)
  rw [hg] at e6
  have e5 := numS_back b4 (m := 1099511627776) (by rw [hf]; exact e6)
  rw [hf] at e5
  have e4 := numS_back b3 (m := 1000000000000) (by rw [ht]; exact e5)
  rw [ht] at e4
  have e3 := numS_back b2 (m := 3) (by rw [hp]; exact e4)
  rw [hp] at e3
  have e2 := numS_back b1 (m := 2) (by rw [hk]; exact e3)
  rw [hk] at e2
  have e1 := numS_back h (m := 1000000000000) (by rw [hi]; exact e2)
  rw [hi] at e1
  unfold batchL
  simp only [Int.toNat_natCast, List.append_assoc, n8]
  exact e1

theorem takeBV_put {b : Bt} (h : rightBt b = true) (r : List Nat) : takeBV (some (batchL b ++ r)) = some b := by
  unfold takeBV
  rw [takeB_put h]
  simp [h]

theorem takeBV_some {s : Sc} {b : Bt} (h : takeBV s = some b) : ∃ r, takeB s = (b, some r) ∧ rightBt b = true := by
  unfold takeBV at h
  split at h
  · rename_i h1
    simp only [Bool.and_eq_true] at h1
    obtain ⟨r, hr⟩ := Option.isSome_iff_exists.1 h1.1
    cases h
    exact ⟨r, by rw [← hr], h1.2⟩
  · cases h

theorem batchL_bytes (b : Bt) : Bytes (batchL b) := by
  unfold batchL
  repeat' (first | exact textL_bytes _ | exact numL_bytes _ | exact textsL_bytes _ | apply bytes_app)

/-- A batch's bytes, cut off, are none. -/
theorem takeBV_cut {b : Bt} (h : rightBt b = true) {n : Nat} (hn : n < (batchL b).length) : takeBV (some ((batchL b).take n)) = none := by
  cases e : takeBV (some ((batchL b).take n)) with
  | none => rfl
  | some x =>
    exfalso
    obtain ⟨r, h1, h2⟩ := takeBV_some e
    have hb : BytesS (some ((batchL b).take n)) := fun b' hb => by cases hb; exact fun y hy => batchL_bytes b y (List.mem_of_mem_take hy)
    have e1 := takeB_back hb (r := r) (by rw [h1])
    rw [h1] at e1
    injection e1 with e1
    have e2 : batchL b = batchL x ++ (r ++ (batchL b).drop n) := by rw [← List.append_assoc, ← e1, List.take_append_drop]
    have e3 := takeB_put h2 (r ++ (batchL b).drop n)
    rw [← e2] at e3
    have e4 := takeB_put h []
    rw [List.append_nil, e3] at e4
    have e5 := congrArg Prod.snd e4
    simp at e5
    omega

/-- Two batches have the same bytes just where they are the same. -/
theorem batch_same {a b : Bt} (ha : rightBt a = true) (hb : rightBt b = true) (e : batchL a = batchL b) : a = b := by
  have e1 := takeB_put ha []
  have e2 := takeB_put hb []
  rw [e, e2] at e1
  exact (congrArg Prod.fst e1).symm

end Go.Proofs.Ytieoihmndpkdoaa
