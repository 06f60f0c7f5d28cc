/- Batches. -/
import Derived.Test.YtaghbfnikcldiaaMgLines
import Derived.Test.YtaghbfnikcldiaaMgBase
namespace Go.Proofs.Ytaghbfnikcldiaa

/- TkPlain: Ticks, and numbers above nought. -/
section
def tickB (n : Int) : Bool := decide (0 ≤ n ∧ n ≤ 1099511627776)
def aboveB (n : Int) : Bool := decide (1 ≤ n ∧ n ≤ 1000000000000)
theorem tickB_iff (n : Int) : tickB n = true ↔ 0 ≤ n ∧ n ≤ 1099511627776 := by simp [tickB]
theorem aboveB_iff (n : Int) : aboveB n = true ↔ 1 ≤ n ∧ n ≤ 1000000000000 := by simp [aboveB]
end

/- TlSum: Sums and differences of tallies: what Sum of two, Add and Less of package tally answer. -/
section
set_option maxRecDepth 100000
open Go.RowKit

def addE (a b : Int) : Int := if tallyB a && tallyB b && decide (a + b ≤ 1000000000000) then 0 else 21
def addV (a b : Int) : Int := if tallyB a && tallyB b && decide (a + b ≤ 1000000000000) then a + b else 0
def lessV (a b : Int) : Int := if tallyB a && tallyB b && decide (b ≤ a) then a - b else 0
def lessE (a b : Int) : Int := if tallyB a && tallyB b && decide (b ≤ a) then 0 else 21
theorem tallyB_iff (n : Int) : tallyB n = true ↔ 0 ≤ n ∧ n ≤ 1000000000000 := by simp [tallyB]
theorem tallyB_no (n : Int) : tallyB n = false ↔ ¬ (0 ≤ n ∧ n ≤ 1000000000000) := by simp [tallyB]
theorem addE_ok {a b : Int} (h : addE a b = 0) : addV a b = a + b ∧ (0 ≤ a ∧ 0 ≤ b ∧ a + b ≤ 1000000000000) := by
  unfold addE addV at *
  split at h
  · rename_i h1
    simp only [Bool.and_eq_true, tallyB_iff, decide_eq_true_eq] at h1
    exact ⟨by rw [if_pos (by simp only [Bool.and_eq_true, tallyB_iff, decide_eq_true_eq]; exact h1)], h1.1.1.1, h1.1.2.1, h1.2⟩
  · cases h
theorem lessV_in {a b : Int} (h : 0 ≤ a ∧ a ≤ 1000000000000) : 0 ≤ lessV a b ∧ lessV a b ≤ 1000000000000 := by
  unfold lessV
  split
  · rename_i h1
    simp only [Bool.and_eq_true, tallyB_iff, decide_eq_true_eq] at h1
    omega
  · omega

/-- Two numbers are answered; all that was there stays. -/
def PairN (x y : Int) (w : World) (e : Ending) (w' : World) : Prop := e = .returned (.tuple #[.int .i64 x, .int .i64 y]) ∧ Below w.heap.size w w'

/-- All together behind s, none where it is too great. -/
def sumFrom : Int → List Int → Option Int
  | s, [] => some s
  | s, x :: l => if tallyB x && decide (x ≤ 1000000000000 - s) then sumFrom (s + x) l else none
def sumV (l : List Int) : Int := (sumFrom 0 l).getD 0
def sumE (l : List Int) : Int := if (sumFrom 0 l).isSome then 0 else 21

theorem sum_two (a b : Int) : sumV [a, b] = addV a b ∧ sumE [a, b] = addE a b := by
  have e : sumFrom 0 [a, b] = if tallyB a && tallyB b && decide (a + b ≤ 1000000000000) then some (a + b) else none := by
    simp only [sumFrom]
    rcases Bool.eq_false_or_eq_true (tallyB a) with ha | ha
    · rw [ha]
      rw [tallyB_iff] at ha
      rw [Int.sub_zero, decide_eq_true ha.2, Int.zero_add]
      rcases Bool.eq_false_or_eq_true (tallyB b) with hb | hb
      · rw [hb]
        by_cases h : b ≤ 1000000000000 - a
        · have : a + b ≤ 1000000000000 := by omega
          simp [h, this]
        · have : ¬ a + b ≤ 1000000000000 := by omega
          simp [h, this]
      · simp [hb]
    · simp [ha]
  unfold sumV sumE addV addE
  rw [e]
  cases (tallyB a && tallyB b && decide (a + b ≤ 1000000000000)) <;> simp

/-- A slice reads as these numbers. -/
structure Ints8P (w : World) (a : Option Addr) (cap : Nat) (ls : List Int) : Prop where
  cap : ls.length ≤ cap
  cell : ls ≠ [] → ∃ b o, a = some ⟨b, o, none⟩ ∧ b < w.heap.size ∧ ∀ (j : Nat) (x : Int), ls[j]? = some x → w.cell? ⟨b, o + j, none⟩ = some (.int .i64 x)

theorem ints_two (a b : Int) (W : World) (T : TypeId) : Ints8P (W.alloc (.cells #[.int .i64 a, .int .i64 b] T)) (some ⟨W.heap.size, 0, none⟩) 2 [a, b] := by
  refine ⟨by simp, fun _ => ⟨_, _, rfl, by simp, fun j x hj => ?_⟩⟩
  match j, hj with
  | 0, hj => simp at hj; subst hj; simp
  | 1, hj => simp at hj; subst hj; simp
  | _ + 2, hj => simp at hj

end

/- BtPlain: Plain facts on batches: which can be, who joins and is evicted, their bytes, and what bytes are read as. -/
section
/-- A batch. -/
structure Bt where
  id : Int
  wt : Int
  born : Int
  kind : Int
  phase : Int
  car : ByteArray
  zone : ByteArray
  serv : ByteArray
  mem : List ByteArray

/-- Caps. -/
structure Cp where
  count : Int
  wt : Int

def capsB (c : Cp) : Bool := decide (1 ≤ c.count ∧ c.count ≤ 64) && aboveB c.wt
/-- The members l, behind those of pre. -/
def goodM (pre : List ByteArray) : List ByteArray → Bool
  | [] => true
  | x :: r => rightT x && !hasT pre x && goodM (pre ++ [x]) r
def membersB (l : List ByteArray) : Bool := decide (l.length ≤ 64) && goodM [] l
def kindB (n : Int) : Bool := decide (n = 1 ∨ n = 2)
def btPhaseB (n : Int) : Bool := decide (1 ≤ n ∧ n ≤ 3)
def rightBt (b : Bt) : Bool := aboveB b.id && (tallyB b.wt && (tickB b.born && (kindB b.kind && (btPhaseB b.phase && (groupB b.car b.zone b.serv && membersB b.mem)))))

theorem goodM_iff : ∀ (l pre : List ByteArray), goodM pre l = true ↔ (∀ x ∈ l, rightT x = true ∧ x ∉ pre) ∧ l.Nodup
  | [], pre => by simp [goodM]
  | x :: r, pre => by
    have ih := goodM_iff r (pre ++ [x])
    simp only [goodM, Bool.and_eq_true, ih, Bool.not_eq_true', hasT_no, List.mem_append, List.not_mem_nil, or_false, not_or, List.nodup_cons, List.mem_cons, forall_eq_or_imp]
    constructor
    · rintro ⟨⟨h1, h2⟩, h3, h4⟩
      exact ⟨⟨⟨h1, h2⟩, fun y hy => ⟨(h3 y hy).1, (h3 y hy).2.1⟩⟩, fun hx => (h3 x hx).2.2 rfl, h4⟩
    · rintro ⟨⟨⟨h1, h2⟩, h3⟩, h4, h5⟩
      exact ⟨⟨h1, h2⟩, fun y hy => ⟨(h3 y hy).1, (h3 y hy).2, fun e => h4 (e ▸ hy)⟩, h5⟩

theorem membersB_iff (l : List ByteArray) : membersB l = true ↔ l.length ≤ 64 ∧ (∀ x ∈ l, rightT x = true) ∧ l.Nodup := by
  simp only [membersB, Bool.and_eq_true, decide_eq_true_eq, goodM_iff, List.not_mem_nil, not_false_eq_true, and_true]

theorem goodM_step (l : List ByteArray) (k : Nat) (h : k < l.length) : goodM (l.take k) (l.drop k) = (rightT l[k] && !hasT (l.take k) l[k] && goodM (l.take (k + 1)) (l.drop (k + 1))) := by
  rw [List.drop_eq_getElem_cons h, goodM, List.take_succ_eq_append_getElem h]

theorem rightBt_of {b : Bt} (h : rightBt b = true) : (1 ≤ b.id ∧ b.id ≤ 1000000000000) ∧ (0 ≤ b.wt ∧ b.wt ≤ 1000000000000) ∧ (0 ≤ b.born ∧ b.born ≤ 1099511627776) ∧ (b.kind = 1 ∨ b.kind = 2) ∧ (1 ≤ b.phase ∧ b.phase ≤ 3) ∧ groupB b.car b.zone b.serv = true ∧ b.mem.length ≤ 64 ∧ (∀ x ∈ b.mem, rightT x = true) ∧ b.mem.Nodup := by
  simp only [rightBt, Bool.and_eq_true, aboveB, tallyB, tickB, kindB, btPhaseB, decide_eq_true_eq, membersB_iff] at h
  exact ⟨h.1, h.2.1, h.2.2.1, h.2.2.2.1, h.2.2.2.2.1, h.2.2.2.2.2.1, h.2.2.2.2.2.2⟩
theorem rightBt_mk {b : Bt} (h1 : 1 ≤ b.id ∧ b.id ≤ 1000000000000) (h2 : 0 ≤ b.wt ∧ b.wt ≤ 1000000000000) (h3 : 0 ≤ b.born ∧ b.born ≤ 1099511627776) (h4 : b.kind = 1 ∨ b.kind = 2) (h5 : 1 ≤ b.phase ∧ b.phase ≤ 3) (h6 : groupB b.car b.zone b.serv = true) (h7 : b.mem.length ≤ 64) (h8 : ∀ x ∈ b.mem, rightT x = true) (h9 : b.mem.Nodup) : rightBt b = true := by
  simp only [rightBt, Bool.and_eq_true, aboveB, tallyB, tickB, kindB, btPhaseB, decide_eq_true_eq, membersB_iff]
  exact ⟨h1, h2, h3, h4, h5, h6, h7, h8, h9⟩

def sameG (a b c x y z : ByteArray) : Bool := (a.toList == x.toList) && ((b.toList == y.toList) && (c.toList == z.toList))
def sameBt (x y : Bt) : Bool := (x.id == y.id) && ((x.wt == y.wt) && ((x.born == y.born) && ((x.kind == y.kind) && ((x.phase == y.phase) && (sameG x.car x.zone x.serv y.car y.zone y.serv && sameT x.mem y.mem)))))
theorem sameBt_iff (x y : Bt) : sameBt x y = true ↔ x = y := by
  cases x; cases y
  simp only [sameBt, sameG, Bool.and_eq_true, beq_iff_eq, sameT_iff, Bt.mk.injEq]
  have e : ∀ a b : ByteArray, a.toList = b.toList ↔ a = b := fun a b => by rw [← toList_iff, beq_iff_eq]
  simp only [e]
  constructor
  · rintro ⟨h1, h2, h3, h4, h5, ⟨h6, h7, h8⟩, h9⟩; exact ⟨h1, h2, h3, h4, h5, h6, h7, h8, h9⟩
  · rintro ⟨h1, h2, h3, h4, h5, h6, h7, h8, h9⟩; exact ⟨h1, h2, h3, h4, h5, ⟨h6, h7, h8⟩, h9⟩
theorem sameBt_self (x : Bt) : sameBt x x = true := (sameBt_iff x x).2 rfl

/-- Who joins: the error's number, and the batch. -/
def roomB (b : Bt) (c : Cp) (sum : Int) : Bool := decide (b.mem.length = 0) || (decide ((b.mem.length : Int) < c.count) && decide (sum ≤ c.wt))
def joinE (b : Bt) (c : Cp) (id : ByteArray) (w : Int) : Int :=
  if b.phase ≠ 1 then 113 else if !rightT id || hasT b.mem id then 112 else if decide (addE b.wt w ≠ 0) || !roomB b c (addV b.wt w) then 111 else 0
def joinD (b : Bt) (id : ByteArray) (w : Int) : Bt := ⟨b.id, addV b.wt w, b.born, b.kind, b.phase, b.car, b.zone, b.serv, b.mem ++ [id]⟩
def joinV (b : Bt) (c : Cp) (id : ByteArray) (w : Int) : Bt := if joinE b c id w = 0 then joinD b id w else b
/-- Who is evicted. -/
def dropT (l : List ByteArray) (x : ByteArray) : List ByteArray := l.filter fun y => !(y.toList == x.toList)
def evictE (b : Bt) (id : ByteArray) : Int := if b.phase ≠ 1 then 113 else if hasT b.mem id then 0 else 112
def evictD (b : Bt) (id : ByteArray) (w : Int) : Bt := ⟨b.id, lessV b.wt w, b.born, b.kind, b.phase, b.car, b.zone, b.serv, dropT b.mem id⟩
def evictV (b : Bt) (id : ByteArray) (w : Int) : Bt := if evictE b id = 0 then evictD b id w else b
def fullB (b : Bt) (c : Cp) : Bool := decide (c.count ≤ (b.mem.length : Int)) || decide (c.wt ≤ b.wt)
def partV (b : Bt) (id : Int) (l : List ByteArray) (w : Int) : Bt := ⟨id, w, b.born, b.kind, 2, b.car, b.zone, b.serv, l⟩

theorem joinE_ok {b : Bt} {c : Cp} {id : ByteArray} {w : Int} (h : joinE b c id w = 0) : b.phase = 1 ∧ rightT id = true ∧ id ∉ b.mem ∧ addE b.wt w = 0 ∧ roomB b c (addV b.wt w) = true := by
  unfold joinE at h
  split at h
  · cases h
  · rename_i h1
    split at h
    · cases h
    · rename_i h2
      split at h
      · cases h
      · rename_i h3
        simp only [Bool.or_eq_true, not_or, Bool.not_eq_true', hasT_iff, decide_eq_true_eq, Bool.not_eq_false, Decidable.not_not, ne_eq] at h1 h2 h3
        exact ⟨h1, h2.1, h2.2, h3.1, h3.2⟩
theorem joinV_cases (b : Bt) (c : Cp) (id : ByteArray) (w : Int) : joinE b c id w = 0 ∧ joinV b c id w = joinD b id w ∨ joinE b c id w ≠ 0 ∧ joinV b c id w = b := by
  unfold joinV
  by_cases h : joinE b c id w = 0
  · exact .inl ⟨h, by rw [if_pos h]⟩
  · exact .inr ⟨h, by rw [if_neg h]⟩

/-- A batch that is right stays right, and so do its caps' limits. -/
theorem join_right {b : Bt} {c : Cp} {id : ByteArray} {w : Int} (hb : rightBt b = true) (hc : capsB c = true) : rightBt (joinV b c id w) = true := by
  rcases joinV_cases b c id w with ⟨h, e⟩ | ⟨_, e⟩
  · rw [e]
    obtain ⟨h1, h2, h3, h4, h5⟩ := joinE_ok h
    obtain ⟨e1, h6, h7, h8⟩ := addE_ok h4
    obtain ⟨r1, r2, r3, r4, r5, r6, r7, r8, r9⟩ := rightBt_of hb
    have hcc : 1 ≤ c.count ∧ c.count ≤ 64 := by simp only [capsB, Bool.and_eq_true, decide_eq_true_eq] at hc; exact hc.1
    refine rightBt_mk r1 ?_ r3 r4 r5 r6 ?_ ?_ ?_
    · show 0 ≤ addV b.wt w ∧ addV b.wt w ≤ _
      rw [e1]; omega
    · show (b.mem ++ [id]).length ≤ 64
      rw [List.length_append, List.length_singleton]
      simp only [roomB, Bool.or_eq_true, Bool.and_eq_true, decide_eq_true_eq] at h5
      omega
    · intro x hx
      rcases List.mem_append.1 hx with hx | hx
      · exact r8 x hx
      · rw [List.mem_singleton.1 hx]; exact h2
    · show (b.mem ++ [id]).Nodup
      rw [List.nodup_append]
      exact ⟨r9, by simp, fun x hx y hy => by rw [List.mem_singleton.1 hy]; exact fun e => h3 (e ▸ hx)⟩
  · rw [e]; exact hb

theorem evictV_cases (b : Bt) (id : ByteArray) (w : Int) : evictE b id = 0 ∧ evictV b id w = evictD b id w ∨ evictE b id ≠ 0 ∧ evictV b id w = b := by
  unfold evictV
  by_cases h : evictE b id = 0
  · exact .inl ⟨h, by rw [if_pos h]⟩
  · exact .inr ⟨h, by rw [if_neg h]⟩
theorem evict_right {b : Bt} {id : ByteArray} {w : Int} (hb : rightBt b = true) : rightBt (evictV b id w) = true := by
  rcases evictV_cases b id w with ⟨_, e⟩ | ⟨_, e⟩
  · rw [e]
    obtain ⟨r1, r2, r3, r4, r5, r6, r7, r8, r9⟩ := rightBt_of hb
    refine rightBt_mk r1 (lessV_in r2) r3 r4 r5 r6 ?_ ?_ ?_
    · exact Nat.le_trans (List.length_filter_le _ _) r7
    · exact fun x hx => r8 x ((List.mem_filter.1 hx).1)
    · exact r9.filter _
  · rw [e]; exact hb

/-- A list without its first x. -/
theorem drop_first {l : List ByteArray} (h : l.Nodup) {k : Nat} (hk : k < l.length) : l.take k ++ l.drop (k + 1) = dropT l l[k] := by
  have e : l = l.take k ++ l[k] :: l.drop (k + 1) := by rw [← List.drop_eq_getElem_cons hk, List.take_append_drop]
  have hn := h
  generalize l[k] = x at *
  generalize l.take k = p at *
  generalize l.drop (k + 1) = q at *
  subst e
  rw [List.nodup_append, List.nodup_cons] at hn
  obtain ⟨_, ⟨h1, _⟩, h2⟩ := hn
  unfold dropT
  rw [List.filter_append, List.filter_cons]
  rw [str_eq (rfl : x = x)]
  simp only [Bool.not_true, Bool.false_eq_true, if_false]
  rw [List.filter_eq_self.2 (fun y hy => by rw [str_ne (fun e : y = x => h2 y hy x (by simp) e)]; rfl), List.filter_eq_self.2 (fun y hy => by rw [str_ne (fun e : y = x => h1 (e ▸ hy))]; rfl)]

/-- A batch's bytes. -/
def batchL (b : Bt) : List Nat :=
  numL b.id.toNat ++ (numL b.kind.toNat ++ (numL b.phase.toNat ++ (numL b.wt.toNat ++ (numL b.born.toNat ++ (textL b.car ++ (textL b.zone ++ (textL b.serv ++ (numL b.mem.length ++ textsL b.mem))))))))

def textsS : Nat → Sc → List ByteArray × Sc
  | 0, s => ([], s)
  | n + 1, s => (strB (textS 32 s).1 :: (textsS n (textS 32 s).2).1, (textsS n (textS 32 s).2).2)

def takeB (s : Sc) : Bt × Sc :=
  let i := numS 1000000000000 s
  let k := numS 2 i.2
  let p := numS 3 k.2
  let t := numS 1000000000000 p.2
  let f := numS 1099511627776 t.2
  let g := groupS f.2
  let n := numS 64 g.2
  let m := textsS n.1 n.2
  (⟨(i.1 : Int), (t.1 : Int), (f.1 : Int), (k.1 : Int), (p.1 : Int), strB g.1.1, strB g.1.2.1, strB g.1.2.2, m.1⟩, m.2)

/-- The batch that stands next; none, if there is none. -/
def takeBV (s : Sc) : Option Bt := if (takeB s).2.isSome && rightBt (takeB s).1 then some (takeB s).1 else none
def noBt : Bt := ⟨0, 0, 0, 0, 0, ⟨#[]⟩, ⟨#[]⟩, ⟨#[]⟩, []⟩
def takeBO (s : Sc) : Bt := (takeBV s).getD noBt

theorem textsL_cons (x : ByteArray) (l : List ByteArray) : textsL (x :: l) = textL x ++ textsL l := by simp [textsL]
theorem textsS_put : ∀ (l : List ByteArray) (_ : ∀ x ∈ l, x.size ≤ 32) (r : List Nat), textsS l.length (some (textsL l ++ r)) = (l, some r)
  | [], _, r => by simp [textsS, textsL]
  | x :: l, h, r => by
    rw [textsL_cons, List.append_assoc, List.length_cons, textsS, textS_put (h x (by simp))]
    simp only [strB_strL]
    rw [textsS_put l (fun y hy => h y (by simp [hy])) r]

theorem groupS_put {a b c : ByteArray} (ha : a.size ≤ 32) (hb : b.size ≤ 32) (hc : c.size ≤ 32) (r : List Nat) : groupS (some (textL a ++ (textL b ++ (textL c ++ r)))) = ((strL a, strL b, strL c), some r) := by
  unfold groupS
  rw [textS_put ha]
  simp only
  rw [textS_put hb]
  simp only
  rw [textS_put hc]

/-- What is written is read. -/
theorem takeB_put {b : Bt} (h : rightBt b = true) (r : List Nat) : takeB (some (batchL b ++ r)) = (b, some r) := by
  obtain ⟨r1, r2, r3, r4, r5, r6, r7, r8, r9⟩ := rightBt_of h
  obtain ⟨g1, g2, g3⟩ := groupB_of r6
  unfold takeB batchL
  simp only [List.append_assoc]
  rw [numS_put (by omega)]
  simp only
  rw [numS_put (by omega)]
  simp only
  rw [numS_put (by omega)]
  simp only
  rw [numS_put (by omega)]
  simp only
  rw [numS_put (by omega)]
  simp only
  rw [groupS_put (right_32 g1) (right_32 g2) (right_32 g3)]
  simp only
  rw [numS_put (by omega)]
  simp only
  rw [textsS_put _ (fun x hx => right_32 (r8 x hx))]
  simp only [strB_strL]
  rw [Int.toNat_of_nonneg (by omega), Int.toNat_of_nonneg (by omega), Int.toNat_of_nonneg (by omega), Int.toNat_of_nonneg (by omega), Int.toNat_of_nonneg (by omega)]

theorem textsS_len : ∀ (n : Nat) (s : Sc), (textsS n s).1.length = n
  | 0, _ => rfl
  | n + 1, s => by rw [textsS]; simp [textsS_len n]
theorem textsS_bytes : ∀ (n : Nat) {s : Sc} (_ : BytesS s), BytesS (textsS n s).2
  | 0, _, h => h
  | n + 1, _, h => textsS_bytes n (textS_bytes h 32).1
theorem textsS_back : ∀ (n : Nat) {s : Sc} (_ : BytesS s) {r : List Nat} (_ : (textsS n s).2 = some r), s = some (textsL (textsS n s).1 ++ r)
  | 0, s, _, r, e => by simpa [textsS, textsL] using e
  | n + 1, s, h, r, e => by
    rw [textsS] at e ⊢
    simp only at e ⊢
    have e2 := textsS_back n (textS_bytes h 32).1 e
    have e1 := textS_back h e2
    rw [textsL_cons, List.append_assoc]
    exact e1
theorem textsS_size : ∀ (n : Nat) {s : Sc} (_ : BytesS s), ∀ x ∈ (textsS n s).1, x.size ≤ 32
  | 0, _, _, x, hx => by simp [textsS] at hx
  | n + 1, s, h, x, hx => by
    rw [textsS] at hx
    rcases List.mem_cons.1 hx with rfl | hx
    · rw [strB_size]; exact textS_le 32 h
    · exact textsS_size n (textS_bytes h 32).1 x hx
theorem groupS_bytes {s : Sc} (h : BytesS s) : BytesS (groupS s).2 := (textS_bytes (textS_bytes (textS_bytes h 32).1 32).1 32).1
theorem groupS_back {s : Sc} (h : BytesS s) {r : List Nat} (e : (groupS s).2 = some r) : s = some (textL (strB (groupS s).1.1) ++ (textL (strB (groupS s).1.2.1) ++ (textL (strB (groupS s).1.2.2) ++ r))) := by
  have b1 := (textS_bytes h 32).1
  have b2 := (textS_bytes b1 32).1
  have e3 := textS_back b2 (m := 32) (r := r) e
  have e2 := textS_back b1 (m := 32) e3
  have e1 := textS_back h (m := 32) e2
  exact e1

theorem takeB_back {s : Sc} (h : BytesS s) {r : List Nat} (e : (takeB s).2 = some r) : s = some (batchL (takeB s).1 ++ r) := by
  unfold takeB at e ⊢
  simp only at e ⊢
  have b1 := numS_bytes h 1000000000000
  generalize hi : numS 1000000000000 s = i at *
  have b2 := numS_bytes b1 2
  generalize hk : numS 2 i.2 = k at *
  have b3 := numS_bytes b2 3
  generalize hp : numS 3 k.2 = p at *
  have b4 := numS_bytes b3 1000000000000
  generalize ht : numS 1000000000000 p.2 = t at *
  have b5 := numS_bytes b4 1099511627776
  generalize hf : numS 1099511627776 t.2 = f at *
  have b6 := groupS_bytes b5
  generalize hg : groupS f.2 = g at *
  have b7 := numS_bytes b6 64
  generalize hn : numS 64 g.2 = n at *
  have n8 := textsS_len n.1 n.2
  have e8 := textsS_back n.1 b7 e
  generalize hm : textsS n.1 n.2 = m at *
  have e7 := numS_back b6 (m := 64) (by rw [hn]; exact e8)
  rw [hn] at e7
  have e6 := groupS_back b5 (by rw [hg]; exact e7)
  rw [hg] at e6
  have e5 := numS_back b4 (m := 1099511627776) (by rw [hf]; exact e6)
  rw [hf] at e5
  have e4 := numS_back b3 (m := 1000000000000) (by rw [ht]; exact e5)
  rw [ht] at e4
  have e3 := numS_back b2 (m := 3) (by rw [hp]; exact e4)
  rw [hp] at e3
  have e2 := numS_back b1 (m := 2) (by rw [hk]; exact e3)
  rw [hk] at e2
  have e1 := numS_back h (m := 1000000000000) (by rw [hi]; exact e2)
  rw [hi] at e1
  unfold batchL
  simp only [Int.toNat_natCast, List.append_assoc, n8]
  exact e1

theorem takeBV_put {b : Bt} (h : rightBt b = true) (r : List Nat) : takeBV (some (batchL b ++ r)) = some b := by
  unfold takeBV
  rw [takeB_put h]
  simp [h]

theorem takeBV_some {s : Sc} {b : Bt} (h : takeBV s = some b) : ∃ r, takeB s = (b, some r) ∧ rightBt b = true := by
  unfold takeBV at h
  split at h
  · rename_i h1
    simp only [Bool.and_eq_true] at h1
    obtain ⟨r, hr⟩ := Option.isSome_iff_exists.1 h1.1
    cases h
    exact ⟨r, by rw [← hr], h1.2⟩
  · cases h

theorem batchL_bytes (b : Bt) : Bytes (batchL b) := by
  unfold batchL
  repeat' (first | exact textL_bytes _ | exact numL_bytes _ | exact textsL_bytes _ | apply bytes_app)

/-- A batch's bytes, cut off, are none. -/
theorem takeBV_cut {b : Bt} (h : rightBt b = true) {n : Nat} (hn : n < (batchL b).length) : takeBV (some ((batchL b).take n)) = none := by
  cases e : takeBV (some ((batchL b).take n)) with
  | none => rfl
  | some x =>
    exfalso
    obtain ⟨r, h1, h2⟩ := takeBV_some e
    have hb : BytesS (some ((batchL b).take n)) := fun b' hb => by cases hb; exact fun y hy => batchL_bytes b y (List.mem_of_mem_take hy)
    have e1 := takeB_back hb (r := r) (by rw [h1])
    rw [h1] at e1
    injection e1 with e1
    have e2 : batchL b = batchL x ++ (r ++ (batchL b).drop n) := by rw [← List.append_assoc, ← e1, List.take_append_drop]
    have e3 := takeB_put h2 (r ++ (batchL b).drop n)
    rw [← e2] at e3
    have e4 := takeB_put h []
    rw [List.append_nil, e3] at e4
    have e5 := congrArg Prod.snd e4
    simp at e5
    omega

/-- Two batches have the same bytes just where they are the same. -/
theorem batch_same {a b : Bt} (ha : rightBt a = true) (hb : rightBt b = true) (e : batchL a = batchL b) : a = b := by
  have e1 := takeB_put ha []
  have e2 := takeB_put hb []
  rw [e, e2] at e1
  exact (congrArg Prod.fst e1).symm
end

/- BtLeaf: What the small tests of package batch, and the document's, answer: texts among texts, texts in a row, numbers, groups, members, caps. -/
section
set_option maxRecDepth 100000
open Go.RowKit

/-- The place of the first text that is x, from k on; -1, if there is none. -/
def findK (k : Nat) (x : ByteArray) : List ByteArray → Int
  | [] => -1
  | y :: r => if x.toList == y.toList then (k : Int) else findK (k + 1) x r
theorem findK_has : ∀ (l : List ByteArray) (k : Nat) (x : ByteArray), (hasT l x = true ∧ ∃ j : Nat, findK k x l = ((k + j : Nat) : Int) ∧ l[j]? = some x) ∨ (hasT l x = false ∧ findK k x l = -1)
  | [], k, x => .inr ⟨rfl, rfl⟩
  | y :: r, k, x => by
    by_cases e : x = y
    · refine .inl ⟨(hasT_iff _ _).2 (by simp [e]), 0, ?_, by simp [e]⟩
      rw [findK, str_eq e]
      simp
    · have e1 : findK k x (y :: r) = findK (k + 1) x r := by rw [findK, str_ne e]; rfl
      rw [e1]
      rcases findK_has r (k + 1) x with ⟨h1, j, h2, h3⟩ | ⟨h1, h2⟩
      · exact .inl ⟨(hasT_iff _ _).2 (by simp [(hasT_iff _ _).1 h1]), j + 1, by rw [h2]; congr 1; omega, by simpa using h3⟩
      · exact .inr ⟨(hasT_no _ _).2 (by have := (hasT_no _ _).1 h1; simp [e, this]), h2⟩
theorem findK_step (l : List ByteArray) (k : Nat) (x : ByteArray) (h : k < l.length) : findK k x (l.drop k) = if x.toList == l[k].toList then (k : Int) else findK (k + 1) x (l.drop (k + 1)) := by
  rw [List.drop_eq_getElem_cons h, findK]

/-- A number is answered; the world is as it was. -/
def IntSame (n : Int) (w : World) (e : Ending) (w' : World) : Prop := e = .returned (.int .i64 n) ∧ w = w'

set_option maxHeartbeats 2000000 in
theorem index_any (a : Option Addr) (cap : Nat) (l : List ByteArray) (x : ByteArray) (w : World) (h : StrsP w a cap l) :
    Calls Try.prog 103 #[.slice a l.length cap, .string x] w (IntSame (findK 0 x l) w) := by
  have H := Lib.hid h
  have hl := h.len
  clear h
  go_enter Try.func103, Try.ntmps103
  go_wp2_with fail
  go_loop [8] (fun i => ∃ k : Nat, k ≤ l.length ∧ i = .int .i64 k ∧ Hid (findK 0 x l = findK k x (l.drop k))) (fun i => l.length - (intOf i).toNat)
  case atStart => exact ⟨0, Nat.zero_le _, rfl, Lib.hid rfl⟩
  case round =>
    obtain ⟨k, hk, rfl, HK⟩ := hrel
    by_cases hlt : k < l.length
    · obtain ⟨b, o, rfl, q1, c1⟩ := H.out.at k hlt
      have p1 := H.out.cap
      have HS := Lib.hid (findK_step l k x hlt)
      generalize l[k] = y at *
      cases hb : (x.toList == y.toList) with
      | true =>
        have HE := Lib.hid (show findK 0 x l = (k : Int) by rw [HK.out, HS.out, hb]; rfl)
        go_wp2_with fail
        go_ret
        exact ⟨by rw [HE.out]; rfl, rfl⟩
      | false =>
        have HE := Lib.hid (show findK 0 x l = findK (k + 1) x (l.drop (k + 1)) by rw [HK.out, HS.out, hb]; rfl)
        go_wp2_with fail
        go_round
        case rel => exact ⟨k + 1, by omega, by go_num, HE⟩
        case measure => simp [intOf]; omega
    · have HE := Lib.hid (show findK 0 x l = -1 by rw [HK.out, List.drop_eq_nil_of_le (by omega)]; rfl)
      go_wp2_with fail
      go_ret
      exact ⟨by rw [HE.out]; rfl, rfl⟩

set_option maxHeartbeats 1000000 in
theorem contains_any (a : Option Addr) (cap : Nat) (l : List ByteArray) (x : ByteArray) (w : World) (h : StrsP w a cap l) :
    Calls Try.prog 69 #[.slice a l.length cap, .string x] w (BoolSame (hasT l x) w) := by
  have C := Lib.hid (index_any a cap l x w h)
  have HB := Lib.hid (show hasT l x = decide (0 ≤ findK 0 x l) by
    rcases findK_has l 0 x with ⟨h1, j, h2, _⟩ | ⟨h1, h2⟩
    · rw [h1, h2]; simp
    · rw [h1, h2]; rfl)
  go_enter Try.func69, Try.ntmps69
  go_wp2_with fail
  refine C.out.mono ?_
  rintro e w1 ⟨rfl, rfl⟩
  generalize findK 0 x l = n at *
  go_wp2_with fail
  go_ret
  exact ⟨by rw [HB.out]; rfl, rfl⟩

set_option maxHeartbeats 2000000 in
theorem equalT_any (a1 a2 : Option Addr) (c1 c2 : Nat) (l m : List ByteArray) (w : World) (h1 : StrsP w a1 c1 l) (h2 : StrsP w a2 c2 m) :
    Calls Try.prog 84 #[.slice a1 l.length c1, .slice a2 m.length c2] w (Tell (sameT l m) w) := by
  have H1 := Lib.hid h1
  have H2 := Lib.hid h2
  have hl := h1.len
  clear h1 h2
  by_cases hq : l.length = m.length
  rotate_left
  · have HE := Lib.hid (show sameT l m = false from sameT_len hq)
    go_enter Try.func84, Try.ntmps84
    go_wp2_with fail
    go_ret
    exact ⟨by rw [HE.out]; rfl, Below.refl _ _⟩
  · have HQ := Lib.hid hq
    rw [← hq]
    clear hq
    go_enter Try.func84, Try.ntmps84
    go_wp2_with fail
    go_loopw [13] (fun i wr => ∃ k : Nat, k ≤ l.length ∧ i = .int .i64 k ∧ Hid (sameT l m = sameT (l.drop k) (m.drop k)) ∧ Below w.heap.size w wr) (fun i _ => l.length - (intOf i).toNat)
    case atStart => exact ⟨0, Nat.zero_le _, rfl, Lib.hid rfl, Below.refl _ _⟩
    case round =>
      obtain ⟨k, hk, rfl, HK, hbw⟩ := hrel
      by_cases hlt : k < l.length
      · have hltm : k < m.length := by rw [← HQ.out]; exact hlt
        obtain ⟨b1, o1, rfl, q1, r1⟩ := (H1.out.below hbw).at k hlt
        obtain ⟨b2, o2, rfl, q2, s1⟩ := (H2.out.below hbw).at k hltm
        have p1 := H1.out.cap
        have p2 := H2.out.cap
        rw [← HQ.out] at p2
        have HS := Lib.hid (sameT_step l m k hlt hltm)
        generalize l[k] = x at *
        generalize m[k] = y at *
        cases hb : (x.toList == y.toList) with
        | true =>
          have HE := Lib.hid (show sameT l m = sameT (l.drop (k + 1)) (m.drop (k + 1)) by rw [HK.out, HS.out, hb]; rfl)
          go_wp2_with fail
          go_quiet (fail)
          go_wp2_with fail
          go_roundw
          case rel => exact ⟨k + 1, by omega, by go_num, HE, below_drewN hbw _⟩
          case measure => simp [intOf]; omega
        | false =>
          have HE := Lib.hid (show sameT l m = false by rw [HK.out, HS.out, hb]; rfl)
          go_wp2_with fail
          go_quiet (fail)
          go_wp2_with fail
          go_ret
          exact ⟨by rw [HE.out]; rfl, below_drewN hbw _⟩
      · have HE := Lib.hid (same_rest HQ.out hlt HK.out)
        go_wp2_with fail
        go_ret
        exact ⟨by rw [HE.out]; rfl, hbw⟩

set_option maxHeartbeats 1000000 in
theorem tick_any (n : Int) (w : World) : Calls Try.prog 28 #[.int .i64 n] w (BoolSame (tickB n) w) := by
  have HE := Lib.hid (show tickB n = (decide (0 ≤ n) && decide (n ≤ 1099511627776)) by rw [Bool.eq_iff_iff]; simp [tickB])
  cases h1 : decide (0 ≤ n) <;> cases h2 : decide (n ≤ 1099511627776)
  all_goals
    rw [h1, h2] at HE
    go_enter Try.func28, Try.ntmps28
    go_wp2_with fail
    go_ret
    exact ⟨by rw [HE.out]; rfl, rfl⟩
set_option maxHeartbeats 1000000 in
theorem refTick_any (n : Int) (w : World) : Calls Try.prog 36 #[.int .i64 n] w (BoolSame (tickB n) w) := by
  have HE := Lib.hid (show tickB n = (decide (0 ≤ n) && decide (n ≤ 1099511627776)) by rw [Bool.eq_iff_iff]; simp [tickB])
  cases h1 : decide (0 ≤ n) <;> cases h2 : decide (n ≤ 1099511627776)
  all_goals
    rw [h1, h2] at HE
    go_enter Try.func36, Try.ntmps36
    go_wp2_with fail
    go_ret
    exact ⟨by rw [HE.out]; rfl, rfl⟩

set_option maxHeartbeats 1000000 in
theorem above_any (n : Int) (w : World) : Calls Try.prog 58 #[.int .i64 n] w (BoolSame (aboveB n) w) := by
  have HE := Lib.hid (show aboveB n = (decide (0 < n) && tallyB n) by rw [Bool.eq_iff_iff]; simp [aboveB, tallyB]; omega)
  have C := Lib.hid (tally_any n w)
  cases h1 : decide (0 < n) <;> cases h2 : tallyB n
  all_goals
    rw [h1, h2] at HE
    rw [h2] at C
    clear h2
    go_enter Try.func58, Try.ntmps58
    go_wp2_with (go_at_call 62; refine C.out.mono ?_; rintro e w' ⟨rfl, rfl⟩)
    go_ret
    exact ⟨by rw [HE.out]; rfl, rfl⟩

/-- Caps as a value. -/
def cpV (c : Cp) : Value := .agg #[.int .i64 c.count, .int .i64 c.wt]

set_option maxHeartbeats 1000000 in
theorem caps_any (c : Cp) (w : World) : Calls Try.prog 19 #[cpV c] w (Tell (capsB c) w) := by
  have HE := Lib.hid (show capsB c = (decide (1 ≤ c.count) && (decide (c.count ≤ 64) && aboveB c.wt)) by rw [Bool.eq_iff_iff]; simp [capsB, and_assoc])
  have C := Lib.hid (fun w => above_any c.wt w)
  unfold cpV
  generalize c.count = n at *
  generalize c.wt = t at *
  cases h1 : decide (1 ≤ n) <;> cases h2 : decide (n ≤ 64) <;> cases h3 : aboveB t
  all_goals
    rw [h1, h2, h3] at HE
    rw [h3] at C
    clear h3
    go_enter Try.func19, Try.ntmps19
    go_wp2_with (go_at_call 58; refine (C.out _).mono ?_; rintro e w' ⟨rfl, rfl⟩)
    go_ret
    exact ⟨by rw [HE.out]; rfl, (Below.refl _ w).alloc (Nat.le_refl _) _⟩
set_option maxHeartbeats 1000000 in
theorem refCaps_any (c : Cp) (w : World) : Calls Try.prog 22 #[cpV c] w (Tell (capsB c) w) := by
  have HE := Lib.hid (show capsB c = (decide (1 ≤ c.count) && (decide (c.count ≤ 64) && (decide (1 ≤ c.wt) && decide (c.wt ≤ 1000000000000)))) by rw [Bool.eq_iff_iff]; simp [capsB, aboveB, and_assoc])
  unfold cpV
  generalize c.count = n at *
  generalize c.wt = t at *
  cases h1 : decide (1 ≤ n) <;> cases h2 : decide (n ≤ 64) <;> cases h3 : decide (1 ≤ t) <;> cases h4 : decide (t ≤ 1000000000000)
  all_goals
    rw [h1, h2, h3, h4] at HE
    go_enter Try.func22, Try.ntmps22
    go_wp2_with fail
    go_ret
    exact ⟨by rw [HE.out]; rfl, (Below.refl _ w).alloc (Nat.le_refl _) _⟩
end

/- BtMem: A batch in memory; what isGroup, areMembers and Right of package batch answer. -/
section
set_option maxRecDepth 100000
open Go.RowKit

/-- A batch as a value, its members in a slice. -/
def btV (a : Option Addr) (cap : Nat) (b : Bt) : Value := .agg #[.int .i64 b.id, .int .i64 b.wt, .int .i64 b.born, .int .i64 b.kind, .int .i64 b.phase, .string b.car, .string b.zone, .string b.serv, .slice a b.mem.length cap]
/-- A batch's cells. -/
def btC (a : Option Addr) (cap : Nat) (b : Bt) : Array Value := #[.int .i64 b.id, .int .i64 b.wt, .int .i64 b.born, .int .i64 b.kind, .int .i64 b.phase, .string b.car, .string b.zone, .string b.serv, .slice a b.mem.length cap]

/-- Its members lie there; its texts fit. -/
structure BtP (w : World) (a : Option Addr) (cap : Nat) (b : Bt) : Prop where
  mem : StrsP w a cap b.mem
  fit : ∀ x ∈ b.mem, x.size ≤ maxLen
  car : b.car.size ≤ maxLen
  zone : b.zone.size ≤ maxLen
  serv : b.serv.size ≤ maxLen

theorem BtP.below {w w' : World} {a : Option Addr} {cap : Nat} {b : Bt} (h : BtP w a cap b) (hb : Below w.heap.size w w') : BtP w' a cap b := ⟨h.mem.below hb, h.fit, h.car, h.zone, h.serv⟩

/-- A batch in a block. -/
def BtB (w : World) (g : Nat) (a : Option Addr) (cap : Nat) (b : Bt) : Prop := w.heap[g]? = some (.cells (btC a cap b) 53 (0, 0))
theorem BtB.cells {w : World} {g : Nat} {a : Option Addr} {cap : Nat} {b : Bt} (h : BtB w g a cap b) :
    (w.cell? ⟨g, 0, none⟩ = some (.int .i64 b.id) ∧ w.cell? ⟨g, 1, none⟩ = some (.int .i64 b.wt) ∧ w.cell? ⟨g, 2, none⟩ = some (.int .i64 b.born) ∧ w.cell? ⟨g, 3, none⟩ = some (.int .i64 b.kind) ∧ w.cell? ⟨g, 4, none⟩ = some (.int .i64 b.phase)) ∧
    w.cell? ⟨g, 5, none⟩ = some (.string b.car) ∧ w.cell? ⟨g, 6, none⟩ = some (.string b.zone) ∧ w.cell? ⟨g, 7, none⟩ = some (.string b.serv) ∧ w.cell? ⟨g, 8, none⟩ = some (.slice a b.mem.length cap) := by
  unfold BtB btC at h
  simp [World.cell?, h]
theorem BtB.lt {w : World} {g : Nat} {a : Option Addr} {cap : Nat} {b : Bt} (h : BtB w g a cap b) : g < w.heap.size := (Array.getElem?_eq_some_iff.1 h).1
theorem BtB.below {w w' : World} {g : Nat} {a : Option Addr} {cap : Nat} {b : Bt} (h : BtB w g a cap b) (hb : Below w.heap.size w w') : BtB w' g a cap b := (hb.block g h.lt).trans h
theorem BtB.new (w : World) (a : Option Addr) (cap : Nat) (b : Bt) : BtB (w.alloc (.cells (btC a cap b) 53)) w.heap.size a cap b := heap_alloc_new w _

set_option maxHeartbeats 2000000 in
theorem btGroup_any (a b c : ByteArray) (w : World) (ha : a.size ≤ maxLen) (hb : b.size ≤ maxLen) (hc : c.size ≤ maxLen) : Calls Try.prog 118 #[.agg #[.string a, .string b, .string c]] w (Tell (groupB a b c) w) := by
  have C1 : Hid (∀ w, Calls Try.prog 92 #[.string a] w (Tell (rightT a) w)) := Lib.hid (fun w => right_any a w ha)
  have C2 : Hid (∀ w, Calls Try.prog 92 #[.string b] w (Tell (rightT b) w)) := Lib.hid (fun w => right_any b w hb)
  have C3 : Hid (∀ w, Calls Try.prog 92 #[.string c] w (Tell (rightT c) w)) := Lib.hid (fun w => right_any c w hc)
  have D := Lib.hid (GrB.new w a b c)
  have B := Lib.hid ((Below.refl w.heap.size w).alloc (Nat.le_refl _) (Obj.cells #[Value.string a, Value.string b, Value.string c] 44))
  have HE := Lib.hid (show groupB a b c = (rightT a && (rightT b && rightT c)) from rfl)
  clear ha hb hc
  go_enter Try.func118, Try.ntmps118
  go_wp2_with fail
  refine (C1.out _).mono ?_
  rintro e w1 ⟨rfl, b1⟩
  generalize w.alloc (Obj.cells #[Value.string a, Value.string b, Value.string c] 44) = W at *
  have D1 := Lib.hid (D.out.below b1)
  have B1 := Lib.hid (B.out.trans (b1.mono B.out.size))
  obtain ⟨c0, c1, c2⟩ := D1.out.cells
  clear b1
  cases h1 : rightT a with
  | false =>
    go_wp2_with fail
    go_ret
    exact ⟨by rw [HE.out, h1]; rfl, B1.out⟩
  | true =>
    go_wp2_with fail
    refine (C2.out _).mono ?_
    rintro e w2 ⟨rfl, b2⟩
    have D2 := Lib.hid (D1.out.below b2)
    have B2 := Lib.hid (B1.out.trans (b2.mono B1.out.size))
    clear c0 c1 c2 b2
    obtain ⟨c0, c1, c2⟩ := D2.out.cells
    cases h2 : rightT b with
    | false =>
      go_wp2_with fail
      go_ret
      exact ⟨by rw [HE.out, h1, h2]; rfl, B2.out⟩
    | true =>
      go_wp2_with fail
      refine (C3.out _).mono ?_
      rintro e w3 ⟨rfl, b3⟩
      have B3 := Lib.hid (B2.out.trans (b3.mono B2.out.size))
      clear c0 c1 c2 b3
      go_wp2_with fail
      go_ret
      exact ⟨by rw [HE.out, h1, h2]; rfl, B3.out⟩

set_option maxHeartbeats 2000000 in
theorem members_any (a : Option Addr) (cap : Nat) (l : List ByteArray) (w : World) (h : StrsP w a cap l) (hf : ∀ x ∈ l, x.size ≤ maxLen) :
    Calls Try.prog 119 #[.slice a l.length cap] w (Tell (membersB l) w) := by
  have H := Lib.hid h
  have hl := h.len
  have HF := Lib.hid hf
  clear h hf
  by_cases h64 : 64 < l.length
  · have HE := Lib.hid (show membersB l = false by simp [membersB]; omega)
    go_enter Try.func119, Try.ntmps119
    go_wp2_with fail
    go_ret
    exact ⟨by rw [HE.out]; rfl, Below.refl _ _⟩
  · have HM := Lib.hid (show membersB l = goodM (l.take 0) (l.drop 0) by simp [membersB]; omega)
    go_enter Try.func119, Try.ntmps119
    go_wp2_with fail
    go_loopw [10] (fun i wr => ∃ k : Nat, k ≤ l.length ∧ i = .int .i64 k ∧ Hid (membersB l = goodM (l.take k) (l.drop k)) ∧ Below w.heap.size w wr) (fun i _ => l.length - (intOf i).toNat)
    case atStart => exact ⟨0, Nat.zero_le _, rfl, HM, Below.refl _ _⟩
    case round =>
      obtain ⟨k, hk, rfl, HK, hbw⟩ := hrel
      by_cases hlt : k < l.length
      · have HP := Lib.hid (H.out.below hbw)
        obtain ⟨b, o, rfl, q1, c1⟩ := HP.out.at k hlt
        have p1 := H.out.cap
        obtain ⟨a2, c2, s2, k2⟩ := slice_toT (a := some ⟨b, o, none⟩) p1 k (k : Int) rfl (by omega)
        have HS := Lib.hid (goodM_step l k hlt)
        have hsz := HF.out l[k] (List.getElem_mem hlt)
        have C := Lib.hid (fun w => show Calls Try.prog 92 #[.string l[k]] w (Tell (rightT l[k]) w) from right_any l[k] w hsz)
        have C2 := Lib.hid (fun W hW => contains_any a2 c2 (l.take k) l[k] W hW)
        have H2 := Lib.hid (k2 wr HP.out)
        clear k2 hsz
        generalize l[k] = x at *
        generalize l.take k = d at *
        cases hr : rightT x with
        | false =>
          rw [hr] at C
          have HE := Lib.hid (show membersB l = false by rw [HK.out, HS.out, hr]; rfl)
          go_wp2_with fail
          refine (C.out _).mono ?_
          rintro e w1 ⟨rfl, b1⟩
          go_wp2_with fail
          go_ret
          exact ⟨by rw [HE.out]; rfl, hbw.trans (b1.mono hbw.size)⟩
        | true =>
          rw [hr] at C
          go_wp2_with fail
          refine (C.out _).mono ?_
          rintro e w1 ⟨rfl, b1⟩
          have H3 := Lib.hid (H2.out.below b1)
          go_wp2_with fail
          refine (C2.out _ H3.out).mono ?_
          rintro e w2 ⟨rfl, rfl⟩
          cases hh : hasT d x with
          | true =>
            have HE := Lib.hid (show membersB l = false by rw [HK.out, HS.out, hr, hh]; rfl)
            go_wp2_with fail
            go_ret
            exact ⟨by rw [HE.out]; rfl, hbw.trans (b1.mono hbw.size)⟩
          | false =>
            have HE := Lib.hid (show membersB l = goodM (l.take (k + 1)) (l.drop (k + 1)) by rw [HK.out, HS.out, hr, hh]; rfl)
            go_wp2_with fail
            go_roundw
            case rel => exact ⟨k + 1, by omega, by go_num, HE, hbw.trans (b1.mono hbw.size)⟩
            case measure => simp [intOf]; omega
      · have HE := Lib.hid (show membersB l = true by rw [HK.out, List.drop_eq_nil_of_le (by omega)]; rfl)
        go_wp2_with fail
        go_ret
        exact ⟨by rw [HE.out]; rfl, hbw⟩
end

/- BtRight: What Right of package batch, and the document's, answer, at every batch. -/
section
set_option maxRecDepth 100000
open Go.RowKit

theorem right_all (b : Bt) : rightBt b = (aboveB b.id && (tallyB b.wt && (tickB b.born && (((b.kind == 1) || (b.kind == 2)) && (decide (1 ≤ b.phase) && (decide (b.phase ≤ 3) && (groupB b.car b.zone b.serv && membersB b.mem))))))) := by
  have e1 : kindB b.kind = ((b.kind == 1) || (b.kind == 2)) := by rw [Bool.eq_iff_iff]; simp [kindB]
  have e2 : btPhaseB b.phase = (decide (1 ≤ b.phase) && decide (b.phase ≤ 3)) := by rw [Bool.eq_iff_iff]; simp [btPhaseB]
  rw [rightBt, e1, e2, Bool.and_assoc]

set_option maxHeartbeats 4000000 in
theorem btRight_any (a : Option Addr) (cap : Nat) (b : Bt) (w : World) (h : BtP w a cap b) : Calls Try.prog 98 #[btV a cap b] w (Tell (rightBt b) w) := by
  have C1 := Lib.hid (fun w => above_any b.id w)
  have C2 := Lib.hid (fun w => tally_any b.wt w)
  have C3 := Lib.hid (fun w => tick_any b.born w)
  have C4 := Lib.hid (fun w => btGroup_any b.car b.zone b.serv w h.car h.zone h.serv)
  have C5 := Lib.hid (fun W hW => members_any a cap b.mem W hW h.fit)
  have D := Lib.hid (BtB.new w a cap b)
  have B := Lib.hid ((Below.refl w.heap.size w).alloc (Nat.le_refl _) (Obj.cells (btC a cap b) 53))
  have L := Lib.hid (h.mem.below B.out)
  have HE := Lib.hid (right_all b)
  clear h
  unfold btV
  unfold btC at *
  go_enter Try.func98, Try.ntmps98
  go_wp2_with fail
  generalize w.alloc (Obj.cells #[Value.int IntKind.i64 b.id, Value.int IntKind.i64 b.wt, Value.int IntKind.i64 b.born, Value.int IntKind.i64 b.kind, Value.int IntKind.i64 b.phase, Value.string b.car, Value.string b.zone, Value.string b.serv, Value.slice a b.mem.length cap] 53) = W at *
  obtain ⟨⟨c0, c1, c2, c3, c4⟩, c5, c6, c7, c8⟩ := BtB.cells (b := b) D.out
  go_wp2_with fail
  refine (C1.out _).mono ?_
  rintro e w1 ⟨rfl, rfl⟩
  cases h1 : aboveB b.id with
  | false =>
    go_wp2_with fail
    go_ret
    exact ⟨by rw [HE.out, h1]; rfl, B.out⟩
  | true =>
    go_wp2_with fail
    refine (C2.out _).mono ?_
    rintro e w1 ⟨rfl, rfl⟩
    cases h2 : tallyB b.wt with
    | false =>
      go_wp2_with fail
      go_ret
      exact ⟨by rw [HE.out, h1, h2]; rfl, B.out⟩
    | true =>
      go_wp2_with fail
      refine (C3.out _).mono ?_
      rintro e w1 ⟨rfl, rfl⟩
      cases h3 : tickB b.born with
      | false =>
        go_wp2_with fail
        go_ret
        exact ⟨by rw [HE.out, h1, h2, h3]; rfl, B.out⟩
      | true =>
        cases hk : ((b.kind == 1) || (b.kind == 2)) with
        | false =>
          have hk2 := hk
          rw [Bool.or_eq_false_iff] at hk2
          obtain ⟨ka, kb⟩ := hk2
          go_wp2_with fail
          go_ret
          exact ⟨by rw [HE.out, h1, h2, h3, hk]; rfl, B.out⟩
        | true =>
          cases ka : (b.kind == 1) with
          | false =>
            have kb : (b.kind == 2) = true := by rw [ka] at hk; exact hk
            cases p1 : decide (1 ≤ b.phase) with
            | false =>
              go_wp2_with fail
              go_ret
              exact ⟨by rw [HE.out, h1, h2, h3, hk, p1]; rfl, B.out⟩
            | true =>
              cases p2 : decide (b.phase ≤ 3) with
              | false =>
                go_wp2_with fail
                go_ret
                exact ⟨by rw [HE.out, h1, h2, h3, hk, p1, p2]; rfl, B.out⟩
              | true =>
                have p1i : 1 ≤ b.phase := by simpa using p1
                go_wp2_with fail
                refine (C4.out _).mono ?_
                rintro e w1 ⟨rfl, b1⟩
                have D1 := Lib.hid (BtB.below (b := b) D.out b1)
                have B1 := Lib.hid (B.out.trans (b1.mono B.out.size))
                have L1 := Lib.hid (L.out.below b1)
                obtain ⟨⟨d0, d1, d2, d3, d4⟩, d5, d6, d7, d8⟩ := BtB.cells (b := b) D1.out
                clear b1 c0 c1 c2 c3 c4 c5 c6 c7 c8
                cases h4 : groupB b.car b.zone b.serv with
                | false =>
                  go_wp2_with fail
                  go_ret
                  exact ⟨by rw [HE.out, h1, h2, h3, hk, p1, p2, h4]; rfl, B1.out⟩
                | true =>
                  go_wp2_with fail
                  refine (C5.out _ L1.out).mono ?_
                  rintro e w2 ⟨rfl, b2⟩
                  go_wp2_with fail
                  go_ret
                  exact ⟨by rw [HE.out, h1, h2, h3, hk, p1, p2, h4]; rfl, B1.out.trans (b2.mono B1.out.size)⟩
          | true =>
            cases p1 : decide (1 ≤ b.phase) with
            | false =>
              go_wp2_with fail
              go_ret
              exact ⟨by rw [HE.out, h1, h2, h3, hk, p1]; rfl, B.out⟩
            | true =>
              cases p2 : decide (b.phase ≤ 3) with
              | false =>
                go_wp2_with fail
                go_ret
                exact ⟨by rw [HE.out, h1, h2, h3, hk, p1, p2]; rfl, B.out⟩
              | true =>
                have p1i : 1 ≤ b.phase := by simpa using p1
                go_wp2_with fail
                refine (C4.out _).mono ?_
                rintro e w1 ⟨rfl, b1⟩
                have D1 := Lib.hid (BtB.below (b := b) D.out b1)
                have B1 := Lib.hid (B.out.trans (b1.mono B.out.size))
                have L1 := Lib.hid (L.out.below b1)
                obtain ⟨⟨d0, d1, d2, d3, d4⟩, d5, d6, d7, d8⟩ := BtB.cells (b := b) D1.out
                clear b1 c0 c1 c2 c3 c4 c5 c6 c7 c8
                cases h4 : groupB b.car b.zone b.serv with
                | false =>
                  go_wp2_with fail
                  go_ret
                  exact ⟨by rw [HE.out, h1, h2, h3, hk, p1, p2, h4]; rfl, B1.out⟩
                | true =>
                  go_wp2_with fail
                  refine (C5.out _ L1.out).mono ?_
                  rintro e w2 ⟨rfl, b2⟩
                  go_wp2_with fail
                  go_ret
                  exact ⟨by rw [HE.out, h1, h2, h3, hk, p1, p2, h4]; rfl, B1.out.trans (b2.mono B1.out.size)⟩
end

/- BtRight2: What the document's Right of batches answers, at every batch. -/
section
set_option maxRecDepth 100000
open Go.RowKit

theorem right_doc (b : Bt) : rightBt b = (!decide (b.id < 1) && (!decide (1000000000000 < b.id) && (tallyB b.wt && (tickB b.born && (!decide (64 < (b.mem.length : Int)) && ((!((b.kind != 1) && (b.kind != 2))) && (!decide (b.phase < 1) && (!decide (3 < b.phase) && (groupB b.car b.zone b.serv && goodM [] b.mem))))))))) := by
  rw [Bool.eq_iff_iff]
  simp only [rightBt, membersB, kindB, btPhaseB, aboveB, Bool.and_eq_true, decide_eq_true_eq, Bool.not_eq_true', Bool.and_eq_false_iff, decide_eq_false_iff_not, bne_eq_false_iff_eq, Int.not_lt]
  constructor
  · rintro ⟨⟨h1, h2⟩, h3, h4, h5, ⟨h6, h7⟩, h8, h9, h10⟩
    exact ⟨h1, h2, h3, h4, by omega, h5, h6, h7, h8, h10⟩
  · rintro ⟨h1, h2, h3, h4, h5, h6, h7, h8, h9, h10⟩
    exact ⟨⟨h1, h2⟩, h3, h4, h6, ⟨h7, h8⟩, h9, by omega, h10⟩

theorem hasT_take (l : List ByteArray) (x : ByteArray) {j : Nat} (h : j < l.length) (hn : hasT (l.take j) x = false) (hx : (l[j].toList == x.toList) = false) : hasT (l.take (j + 1)) x = false := by
  rw [hasT_no] at hn ⊢
  rw [List.take_succ_eq_append_getElem h, List.mem_append, List.mem_singleton, not_or]
  refine ⟨hn, fun e => ?_⟩
  rw [str_eq e.symm] at hx
  cases hx
theorem hasT_found (l : List ByteArray) (x : ByteArray) {j k : Nat} (h : j < l.length) (hk : j < k) (hx : (l[j].toList == x.toList) = true) : hasT (l.take k) x = true := by
  rw [hasT_iff, List.mem_take_iff_getElem]
  exact ⟨j, by omega, (toList_iff _ _).1 hx⟩

set_option maxHeartbeats 8000000 in
theorem refBtRight_any (a : Option Addr) (cap : Nat) (b : Bt) (w : World) (h : BtP w a cap b) : Calls Try.prog 76 #[btV a cap b] w (Tell (rightBt b) w) := by
  have C2 := Lib.hid (fun w => refTally_any b.wt w)
  have C3 := Lib.hid (fun w => refTick_any b.born w)
  have C4 := Lib.hid (fun w => refGroup_any b.car b.zone b.serv w h.car h.zone h.serv)
  have D := Lib.hid (BtB.new w a cap b)
  have B := Lib.hid ((Below.refl w.heap.size w).alloc (Nat.le_refl _) (Obj.cells (btC a cap b) 53))
  have L := Lib.hid (h.mem.below B.out)
  have HF := Lib.hid h.fit
  have hl := h.mem.len
  have hcp := h.mem.cap
  have HE := Lib.hid (right_doc b)
  clear h
  unfold btV
  unfold btC at *
  go_enter Try.func76, Try.ntmps76
  cases a1 : decide (b.id < 1) with
  | true =>
    go_wp2_with fail
    go_ret
    exact ⟨by rw [HE.out, a1]; rfl, B.out⟩
  | false =>
    cases a2 : decide (1000000000000 < b.id) with
    | true =>
      go_wp2_with fail
      go_ret
      exact ⟨by rw [HE.out, a1, a2]; rfl, B.out⟩
    | false =>
      go_wp2_with fail
      generalize w.alloc (Obj.cells #[Value.int IntKind.i64 b.id, Value.int IntKind.i64 b.wt, Value.int IntKind.i64 b.born, Value.int IntKind.i64 b.kind, Value.int IntKind.i64 b.phase, Value.string b.car, Value.string b.zone, Value.string b.serv, Value.slice a b.mem.length cap] 53) = W at *
      obtain ⟨⟨c0, c1, c2, c3, c4⟩, c5, c6, c7, c8⟩ := BtB.cells (b := b) D.out
      refine (C2.out _).mono ?_
      rintro e w1 ⟨rfl, rfl⟩
      cases h2 : tallyB b.wt with
      | false =>
        go_wp2_with fail
        go_ret
        exact ⟨by rw [HE.out, a1, a2, h2]; rfl, B.out⟩
      | true =>
        go_wp2_with fail
        refine (C3.out _).mono ?_
        rintro e w1 ⟨rfl, rfl⟩
        cases h3 : tickB b.born with
        | false =>
          go_wp2_with fail
          go_ret
          exact ⟨by rw [HE.out, a1, a2, h2, h3]; rfl, B.out⟩
        | true =>
          cases h5 : decide (64 < (b.mem.length : Int)) with
          | true =>
            go_wp2_with fail
            go_ret
            exact ⟨by rw [HE.out, a1, a2, h2, h3, h5]; rfl, B.out⟩
          | false =>
            cases hk : ((b.kind != 1) && (b.kind != 2)) with
            | true =>
              have hk2 := hk
              rw [Bool.and_eq_true] at hk2
              obtain ⟨ka, kb⟩ := hk2
              go_wp2_with fail
              go_ret
              exact ⟨by rw [HE.out, a1, a2, h2, h3, h5, hk]; rfl, B.out⟩
            | false =>
              cases ka : (b.kind != 1) with
              | true =>
                have kb : (b.kind != 2) = false := by rw [ka] at hk; exact hk
                cases p1 : decide (b.phase < 1) with
                | true =>
                  go_wp2_with fail
                  go_ret
                  exact ⟨by rw [HE.out, a1, a2, h2, h3, h5, hk, p1]; rfl, B.out⟩
                | false =>
                  cases p2 : decide (3 < b.phase) with
                  | true =>
                    go_wp2_with fail
                    go_ret
                    exact ⟨by rw [HE.out, a1, a2, h2, h3, h5, hk, p1, p2]; rfl, B.out⟩
                  | false =>
                    go_wp2_with fail
                    refine (C4.out _).mono ?_
                    rintro e w1 ⟨rfl, b1⟩
                    have D1 := Lib.hid (BtB.below (b := b) D.out b1)
                    have B1 := Lib.hid (B.out.trans (b1.mono B.out.size))
                    have L1 := Lib.hid (L.out.below b1)
                    obtain ⟨⟨d0, d1, d2, d3, d4⟩, d5, d6, d7, d8⟩ := BtB.cells (b := b) D1.out
                    clear b1 c0 c1 c2 c3 c4 c5 c6 c7 c8
                    cases h4 : groupB b.car b.zone b.serv with
                    | false =>
                      go_wp2_with fail
                      go_ret
                      exact ⟨by rw [HE.out, a1, a2, h2, h3, h5, hk, p1, p2, h4]; rfl, B1.out⟩
                    | true =>
                      have HM := Lib.hid (show rightBt b = goodM [] b.mem by rw [HE.out, a1, a2, h2, h3, h5, hk, p1, p2, h4]; rfl)
                      clear HE
                      clear L D B
                      have L := L1
                      have D := D1
                      have B := B1
                      clear L1 D1 B1
                      have BW := Lib.hid (Below.refl w1.heap.size w1)
                      have hsz0 := BtB.lt (b := b) D.out
                      clear d0 d1 d2 d3 d4 d5 d6 d7
                      go_wp2_with fail
                      go_loopw [59] (fun i wr => ∃ k : Nat, k ≤ b.mem.length ∧ i = .int .i64 k ∧ Hid (rightBt b = goodM (b.mem.take k) (b.mem.drop k)) ∧ Hid (Below w1.heap.size w1 wr)) (fun i _ => b.mem.length - (intOf i).toNat)
                      case atStart => exact ⟨0, Nat.zero_le _, rfl, HM, BW⟩
                      case round =>
                        obtain ⟨k, hk', rfl, HK, HW⟩ := hrel
                        by_cases hlt : k < b.mem.length
                        · have HP := Lib.hid (L.out.below HW.out)
                          have DW := Lib.hid (BtB.below (b := b) D.out HW.out)
                          obtain ⟨bb, oo, ha, q1, g1⟩ := HP.out.at k hlt
                          subst ha
                          have HS := Lib.hid (goodM_step b.mem k hlt)
                          have hsz := HF.out b.mem[k] (List.getElem_mem hlt)
                          have C := Lib.hid (fun w => show Calls Try.prog 72 #[.string b.mem[k]] w (Tell (rightT b.mem[k]) w) from refRight_any b.mem[k] w hsz)
                          clear hsz
                          generalize b.mem[k] = x at *
                          cases hr : rightT x with
                          | false =>
                            rw [hr] at C
                            have HE := Lib.hid (show rightBt b = false by rw [HK.out, HS.out, hr]; rfl)
                            go_wp2_with fail
                            refine (C.out _).mono ?_
                            rintro e w2 ⟨rfl, b2⟩
                            go_wp2_with fail
                            go_ret
                            exact ⟨by rw [HE.out]; rfl, B.out.trans ((HW.out.trans (b2.mono HW.out.size)).mono B.out.size)⟩
                          | true =>
                            rw [hr] at C
                            go_wp2_with fail
                            refine (C.out _).mono ?_
                            rintro e w2 ⟨rfl, b2⟩
                            have HW2 := Lib.hid (HW.out.trans (b2.mono HW.out.size))
                            have HP2 := Lib.hid (HP.out.below b2)
                            have DW2 := Lib.hid (BtB.below (b := b) DW.out b2)
                            clear b2 g1 q1
                            go_wp2_with fail
                            go_loopw [5] (fun i wr => ∃ j : Nat, j ≤ k ∧ i = .int .i64 j ∧ wr = w2 ∧ Hid (hasT (b.mem.take j) x = false)) (fun i _ => k - (intOf i).toNat)
                            case atStart => exact ⟨0, Nat.zero_le _, rfl, rfl, Lib.hid rfl⟩
                            case round =>
                              obtain ⟨j, hj, rfl, rfl, HJ⟩ := hrel
                              by_cases hjk : j < k
                              · obtain ⟨b3, o3, e3, q3, g3⟩ := HP2.out.at j (by omega)
                                injection e3 with e3
                                injection e3 with e3 e4
                                subst e3 e4
                                obtain ⟨_, _, _, _, d8⟩ := BtB.cells (b := b) DW2.out
                                have hjl : j < b.mem.length := by omega
                                have HT := Lib.hid (fun e => hasT_take b.mem x hjl HJ.out e)
                                have HU := Lib.hid (fun e => hasT_found b.mem x hjl hjk e)
                                generalize b.mem[j] = y at *
                                cases hy : (y.toList == x.toList) with
                                | true =>
                                  have HE := Lib.hid (show rightBt b = false by rw [HK.out, HS.out, hr, HU.out hy]; rfl)
                                  go_wp2_with fail
                                  go_ret
                                  exact ⟨by rw [HE.out]; rfl, B.out.trans (HW2.out.mono B.out.size)⟩
                                | false =>
                                  have HN := Lib.hid (HT.out hy)
                                  go_wp2_with fail
                                  go_roundw
                                  case rel => exact ⟨j + 1, by omega, by go_num, by trivial, HN⟩
                                  case measure => simp [intOf]; omega
                              · obtain rfl : j = k := by omega
                                have HE := Lib.hid (show rightBt b = goodM (b.mem.take (j + 1)) (b.mem.drop (j + 1)) by rw [HK.out, HS.out, hr, HJ.out]; rfl)
                                go_wp2_with fail
                                go_roundw
                                case rel => exact ⟨j + 1, by omega, by go_num, HE, HW2⟩
                                case measure => simp [intOf]; omega
                        · have HE := Lib.hid (show rightBt b = true by rw [HK.out, List.drop_eq_nil_of_le (by omega)]; rfl)
                          go_wp2_with fail
                          go_ret
                          exact ⟨by rw [HE.out]; rfl, B.out.trans (HW.out.mono B.out.size)⟩
              | false =>
                cases p1 : decide (b.phase < 1) with
                | true =>
                  go_wp2_with fail
                  go_ret
                  exact ⟨by rw [HE.out, a1, a2, h2, h3, h5, hk, p1]; rfl, B.out⟩
                | false =>
                  cases p2 : decide (3 < b.phase) with
                  | true =>
                    go_wp2_with fail
                    go_ret
                    exact ⟨by rw [HE.out, a1, a2, h2, h3, h5, hk, p1, p2]; rfl, B.out⟩
                  | false =>
                    go_wp2_with fail
                    refine (C4.out _).mono ?_
                    rintro e w1 ⟨rfl, b1⟩
                    have D1 := Lib.hid (BtB.below (b := b) D.out b1)
                    have B1 := Lib.hid (B.out.trans (b1.mono B.out.size))
                    have L1 := Lib.hid (L.out.below b1)
                    obtain ⟨⟨d0, d1, d2, d3, d4⟩, d5, d6, d7, d8⟩ := BtB.cells (b := b) D1.out
                    clear b1 c0 c1 c2 c3 c4 c5 c6 c7 c8
                    cases h4 : groupB b.car b.zone b.serv with
                    | false =>
                      go_wp2_with fail
                      go_ret
                      exact ⟨by rw [HE.out, a1, a2, h2, h3, h5, hk, p1, p2, h4]; rfl, B1.out⟩
                    | true =>
                      have HM := Lib.hid (show rightBt b = goodM [] b.mem by rw [HE.out, a1, a2, h2, h3, h5, hk, p1, p2, h4]; rfl)
                      clear HE
                      clear L D B
                      have L := L1
                      have D := D1
                      have B := B1
                      clear L1 D1 B1
                      have BW := Lib.hid (Below.refl w1.heap.size w1)
                      have hsz0 := BtB.lt (b := b) D.out
                      clear d0 d1 d2 d3 d4 d5 d6 d7
                      go_wp2_with fail
                      go_loopw [59] (fun i wr => ∃ k : Nat, k ≤ b.mem.length ∧ i = .int .i64 k ∧ Hid (rightBt b = goodM (b.mem.take k) (b.mem.drop k)) ∧ Hid (Below w1.heap.size w1 wr)) (fun i _ => b.mem.length - (intOf i).toNat)
                      case atStart => exact ⟨0, Nat.zero_le _, rfl, HM, BW⟩
                      case round =>
                        obtain ⟨k, hk', rfl, HK, HW⟩ := hrel
                        by_cases hlt : k < b.mem.length
                        · have HP := Lib.hid (L.out.below HW.out)
                          have DW := Lib.hid (BtB.below (b := b) D.out HW.out)
                          obtain ⟨bb, oo, ha, q1, g1⟩ := HP.out.at k hlt
                          subst ha
                          have HS := Lib.hid (goodM_step b.mem k hlt)
                          have hsz := HF.out b.mem[k] (List.getElem_mem hlt)
                          have C := Lib.hid (fun w => show Calls Try.prog 72 #[.string b.mem[k]] w (Tell (rightT b.mem[k]) w) from refRight_any b.mem[k] w hsz)
                          clear hsz
                          generalize b.mem[k] = x at *
                          cases hr : rightT x with
                          | false =>
                            rw [hr] at C
                            have HE := Lib.hid (show rightBt b = false by rw [HK.out, HS.out, hr]; rfl)
                            go_wp2_with fail
                            refine (C.out _).mono ?_
                            rintro e w2 ⟨rfl, b2⟩
                            go_wp2_with fail
                            go_ret
                            exact ⟨by rw [HE.out]; rfl, B.out.trans ((HW.out.trans (b2.mono HW.out.size)).mono B.out.size)⟩
                          | true =>
                            rw [hr] at C
                            go_wp2_with fail
                            refine (C.out _).mono ?_
                            rintro e w2 ⟨rfl, b2⟩
                            have HW2 := Lib.hid (HW.out.trans (b2.mono HW.out.size))
                            have HP2 := Lib.hid (HP.out.below b2)
                            have DW2 := Lib.hid (BtB.below (b := b) DW.out b2)
                            clear b2 g1 q1
                            go_wp2_with fail
                            go_loopw [5] (fun i wr => ∃ j : Nat, j ≤ k ∧ i = .int .i64 j ∧ wr = w2 ∧ Hid (hasT (b.mem.take j) x = false)) (fun i _ => k - (intOf i).toNat)
                            case atStart => exact ⟨0, Nat.zero_le _, rfl, rfl, Lib.hid rfl⟩
                            case round =>
                              obtain ⟨j, hj, rfl, rfl, HJ⟩ := hrel
                              by_cases hjk : j < k
                              · obtain ⟨b3, o3, e3, q3, g3⟩ := HP2.out.at j (by omega)
                                injection e3 with e3
                                injection e3 with e3 e4
                                subst e3 e4
                                obtain ⟨_, _, _, _, d8⟩ := BtB.cells (b := b) DW2.out
                                have hjl : j < b.mem.length := by omega
                                have HT := Lib.hid (fun e => hasT_take b.mem x hjl HJ.out e)
                                have HU := Lib.hid (fun e => hasT_found b.mem x hjl hjk e)
                                generalize b.mem[j] = y at *
                                cases hy : (y.toList == x.toList) with
                                | true =>
                                  have HE := Lib.hid (show rightBt b = false by rw [HK.out, HS.out, hr, HU.out hy]; rfl)
                                  go_wp2_with fail
                                  go_ret
                                  exact ⟨by rw [HE.out]; rfl, B.out.trans (HW2.out.mono B.out.size)⟩
                                | false =>
                                  have HN := Lib.hid (HT.out hy)
                                  go_wp2_with fail
                                  go_roundw
                                  case rel => exact ⟨j + 1, by omega, by go_num, by trivial, HN⟩
                                  case measure => simp [intOf]; omega
                              · obtain rfl : j = k := by omega
                                have HE := Lib.hid (show rightBt b = goodM (b.mem.take (j + 1)) (b.mem.drop (j + 1)) by rw [HK.out, HS.out, hr, HJ.out]; rfl)
                                go_wp2_with fail
                                go_roundw
                                case rel => exact ⟨j + 1, by omega, by go_num, HE, HW2⟩
                                case measure => simp [intOf]; omega
                        · have HE := Lib.hid (show rightBt b = true by rw [HK.out, List.drop_eq_nil_of_le (by omega)]; rfl)
                          go_wp2_with fail
                          go_ret
                          exact ⟨by rw [HE.out]; rfl, B.out.trans (HW.out.mono B.out.size)⟩
end

/- BtSame: What Same of package batch, and the document's, answer, at any two batches. -/
section
set_option maxRecDepth 100000
open Go.RowKit

theorem eq_grT (a b c x y z : ByteArray) (w : World) : (binOp .eql 44 (.agg #[.string a, .string b, .string c]) (.agg #[.string x, .string y, .string z])).run Try.prog w = .ok (.bool (sameG a b c x y z)) w := by
  have u9 := Try.underlying9
  have a9 := Try.isAgg9
  have z9 := Try.sizeOf9
  have hS : Try.prog.underlying 44 = some (.struct (Try.prog.fieldsOf 44)) := by kernel_rfl
  have hp : Try.prog.stoodInHeld 44 = false := by kernel_rfl
  unfold sameG
  rw [run_eql_struct, show (10000 : Nat) = 9999 + 1 from rfl, run_equalIn_agg w 9999 44 _ _ hS hp]
  simp only [Program.fieldsOf, Try.underlying44]
  cases h1 : (a.toList == x.toList) <;> cases h2 : (b.toList == y.toList) <;> cases h3 : (c.toList == z.toList) <;> go_simp

set_option maxHeartbeats 4000000 in
theorem btSame_any (a1 a2 : Option Addr) (c1 c2 : Nat) (x y : Bt) (w : World) (h1 : BtP w a1 c1 x) (h2 : BtP w a2 c2 y) : Calls Try.prog 47 #[btV a1 c1 x, btV a2 c2 y] w (Tell (sameBt x y) w) := by
  have D0 := Lib.hid (BtB.new w a1 c1 x)
  have D2 := Lib.hid (BtB.new (w.alloc (.cells (btC a1 c1 x) 53)) a2 c2 y)
  have hz : (w.alloc (.cells (btC a1 c1 x) 53)).heap.size = w.heap.size + 1 := by simp
  have D1 := Lib.hid (D0.out.below ((Below.refl _ _).alloc (Nat.le_refl _) (.cells (btC a2 c2 y) 53)))
  have B := Lib.hid (((Below.refl w.heap.size w).alloc (Nat.le_refl _) (Obj.cells (btC a1 c1 x) 53)).alloc (by simp) (Obj.cells (btC a2 c2 y) 53))
  have C := Lib.hid (equalT_any a1 a2 c1 c2 x.mem y.mem _ (h1.mem.below B.out) (h2.mem.below B.out))
  rw [hz] at D2
  have HE := Lib.hid (show sameBt x y = ((x.id == y.id) && ((x.wt == y.wt) && ((x.born == y.born) && ((x.kind == y.kind) && ((x.phase == y.phase) && (sameG x.car x.zone x.serv y.car y.zone y.serv && sameT x.mem y.mem)))))) from rfl)
  have Q := eq_grT x.car x.zone x.serv y.car y.zone y.serv
  clear h1 h2 hz D0
  unfold btV
  unfold btC at *
  go_enter Try.func47, Try.ntmps47
  obtain ⟨⟨c0, c1', c2', c3, c4⟩, c5, c6, c7, c8⟩ := BtB.cells (b := x) D1.out
  obtain ⟨⟨d0, d1, d2, d3, d4⟩, d5, d6, d7, d8⟩ := BtB.cells (b := y) D2.out
  clear D1 D2
  have BW := B.out
  cases k1 : (x.id == y.id) with
  | false =>
    go_wp2_with fail
    go_ret
    exact ⟨by rw [HE.out, k1]; rfl, BW⟩
  | true =>
    cases k2 : (x.wt == y.wt) with
    | false =>
      go_wp2_with fail
      go_ret
      exact ⟨by rw [HE.out, k1, k2]; rfl, BW⟩
    | true =>
      cases k3 : (x.born == y.born) with
      | false =>
        go_wp2_with fail
        go_ret
        exact ⟨by rw [HE.out, k1, k2, k3]; rfl, BW⟩
      | true =>
        cases k4 : (x.kind == y.kind) with
        | false =>
          go_wp2_with fail
          go_ret
          exact ⟨by rw [HE.out, k1, k2, k3, k4]; rfl, BW⟩
        | true =>
          cases k5 : (x.phase == y.phase) with
          | false =>
            go_wp2_with fail
            go_ret
            exact ⟨by rw [HE.out, k1, k2, k3, k4, k5]; rfl, BW⟩
          | true =>
            cases k6 : sameG x.car x.zone x.serv y.car y.zone y.serv with
            | false =>
              rw [k6] at Q
              go_wp2_with fail
              go_ret
              exact ⟨by rw [HE.out, k1, k2, k3, k4, k5, k6]; rfl, BW⟩
            | true =>
              rw [k6] at Q
              go_wp2_with fail
              refine C.out.mono ?_
              rintro e w1 ⟨rfl, b1⟩
              go_wp2_with fail
              go_ret
              exact ⟨by rw [HE.out, k1, k2, k3, k4, k5, k6]; rfl, BW.trans (b1.mono BW.size)⟩

set_option maxHeartbeats 4000000 in
theorem refBtSame_any (a1 a2 : Option Addr) (c1 c2 : Nat) (x y : Bt) (w : World) (h1 : BtP w a1 c1 x) (h2 : BtP w a2 c2 y) : Calls Try.prog 26 #[btV a1 c1 x, btV a2 c2 y] w (Tell (sameBt x y) w) := by
  have D0 := Lib.hid (BtB.new w a1 c1 x)
  have D2 := Lib.hid (BtB.new (w.alloc (.cells (btC a1 c1 x) 53)) a2 c2 y)
  have hz : (w.alloc (.cells (btC a1 c1 x) 53)).heap.size = w.heap.size + 1 := by simp
  have D1 := Lib.hid (D0.out.below ((Below.refl _ _).alloc (Nat.le_refl _) (.cells (btC a2 c2 y) 53)))
  have B := Lib.hid (((Below.refl w.heap.size w).alloc (Nat.le_refl _) (Obj.cells (btC a1 c1 x) 53)).alloc (by simp) (Obj.cells (btC a2 c2 y) 53))
  have C := Lib.hid (refSameT_any a1 a2 c1 c2 x.mem y.mem _ (h1.mem.below B.out) (h2.mem.below B.out))
  rw [hz] at D2
  have HE := Lib.hid (show sameBt x y = ((x.id == y.id) && ((x.wt == y.wt) && ((x.born == y.born) && ((x.kind == y.kind) && ((x.phase == y.phase) && (sameG x.car x.zone x.serv y.car y.zone y.serv && sameT x.mem y.mem)))))) from rfl)
  have Q := eq_grT x.car x.zone x.serv y.car y.zone y.serv
  clear h1 h2 hz D0
  unfold btV
  unfold btC at *
  go_enter Try.func26, Try.ntmps26
  obtain ⟨⟨c0, c1', c2', c3, c4⟩, c5, c6, c7, c8⟩ := BtB.cells (b := x) D1.out
  obtain ⟨⟨d0, d1, d2, d3, d4⟩, d5, d6, d7, d8⟩ := BtB.cells (b := y) D2.out
  clear D1 D2
  have BW := B.out
  cases k1 : (x.id == y.id) with
  | false =>
    go_wp2_with fail
    go_ret
    exact ⟨by rw [HE.out, k1]; rfl, BW⟩
  | true =>
    cases k2 : (x.wt == y.wt) with
    | false =>
      go_wp2_with fail
      go_ret
      exact ⟨by rw [HE.out, k1, k2]; rfl, BW⟩
    | true =>
      cases k3 : (x.born == y.born) with
      | false =>
        go_wp2_with fail
        go_ret
        exact ⟨by rw [HE.out, k1, k2, k3]; rfl, BW⟩
      | true =>
        cases k4 : (x.kind == y.kind) with
        | false =>
          go_wp2_with fail
          go_ret
          exact ⟨by rw [HE.out, k1, k2, k3, k4]; rfl, BW⟩
        | true =>
          cases k5 : (x.phase == y.phase) with
          | false =>
            go_wp2_with fail
            go_ret
            exact ⟨by rw [HE.out, k1, k2, k3, k4, k5]; rfl, BW⟩
          | true =>
            cases k6 : sameG x.car x.zone x.serv y.car y.zone y.serv with
            | false =>
              rw [k6] at Q
              go_wp2_with fail
              go_ret
              exact ⟨by rw [HE.out, k1, k2, k3, k4, k5, k6]; rfl, BW⟩
            | true =>
              rw [k6] at Q
              go_wp2_with fail
              refine C.out.mono ?_
              rintro e w1 ⟨rfl, b1⟩
              go_wp2_with fail
              go_ret
              exact ⟨by rw [HE.out, k1, k2, k3, k4, k5, k6]; rfl, BW.trans (b1.mono BW.size)⟩
end

/- BtHas: What the document's Has of batches answers. -/
section
set_option maxRecDepth 100000
open Go.RowKit Go.ChangeShapes Go.WideShapes Go.ChangeAt

theorem hasT_step (l : List ByteArray) (x : ByteArray) {k : Nat} (h : k < l.length) : hasT (l.drop k) x = ((l[k].toList == x.toList) || hasT (l.drop (k + 1)) x) := by
  rw [List.drop_eq_getElem_cons h]; rfl

set_option maxHeartbeats 4000000 in
theorem refHas_any (a : Option Addr) (cap : Nat) (b : Bt) (id : ByteArray) (w : World) (h : StrsP w a cap b.mem) : Calls Try.prog 41 #[btV a cap b, .string id] w (Tell (hasT b.mem id) w) := by
  have B := Lib.hid ((Below.refl w.heap.size w).alloc (Nat.le_refl _) (Obj.cells (btC a cap b) 53))
  have H := Lib.hid (h.below B.out)
  have hl := h.len
  clear h
  unfold btV
  unfold btC at *
  go_enter Try.func41, Try.ntmps41
  go_wp2_with fail
  generalize w.alloc (Obj.cells #[Value.int IntKind.i64 b.id, Value.int IntKind.i64 b.wt, Value.int IntKind.i64 b.born, Value.int IntKind.i64 b.kind, Value.int IntKind.i64 b.phase, Value.string b.car, Value.string b.zone, Value.string b.serv, Value.slice a b.mem.length cap] 53) = W at *
  go_loop [10] (fun i => ∃ k : Nat, k ≤ b.mem.length ∧ i = .int .i64 k ∧ Hid (hasT b.mem id = hasT (b.mem.drop k) id)) (fun i => b.mem.length - (intOf i).toNat)
  case atStart => exact ⟨0, Nat.zero_le _, rfl, Lib.hid rfl⟩
  case round =>
    obtain ⟨k, hk, rfl, HK⟩ := hrel
    by_cases hlt : k < b.mem.length
    · obtain ⟨bb, oo, rfl, q1, g1⟩ := H.out.at k hlt
      have p1 := H.out.cap
      have HS := Lib.hid (hasT_step b.mem id hlt)
      generalize b.mem[k] = y at *
      cases hy : (y.toList == id.toList) with
      | true =>
        have HE := Lib.hid (show hasT b.mem id = true by rw [HK.out, HS.out, hy]; rfl)
        go_wp2_with fail
        go_ret
        exact ⟨by rw [HE.out]; rfl, B.out⟩
      | false =>
        have HE := Lib.hid (show hasT b.mem id = hasT (b.mem.drop (k + 1)) id by rw [HK.out, HS.out, hy]; rfl)
        go_wp2_with fail
        go_round
        case rel => exact ⟨k + 1, by omega, by go_num, HE⟩
        case measure => simp [intOf]; omega
    · have HE := Lib.hid (show hasT b.mem id = false by rw [HK.out, List.drop_eq_nil_of_le (by omega)]; rfl)
      go_wp2_with fail
      go_ret
      exact ⟨by rw [HE.out]; rfl, B.out⟩
end

/- BtArgs0: What came in as a batch, as caps. -/
section
set_option maxRecDepth 100000
open Go.ChangeShapes Go.WideShapes Go.ChangeAt Go.RowKit

theorem cellsTs : Try.prog.cellsOf 51 = 1 := by kernel_rfl
theorem cellsBt : Try.prog.cellsOf 53 = 9 := by kernel_rfl
theorem cellsCp : Try.prog.cellsOf 23 = 2 := by kernel_rfl

theorem batch_of_trod {H : Type} {enc : TypeId × Value → H} {W : World} {base : Nat} {v : Value} {d : DataW H} {p : List MemPlace}
    (hv : Value.okWide Try.prog W .any base 53 v) (h : DataW.Trod enc Try.prog W 0 (fun _ => true) true 53 v d p) : ∃ a cap b, v = btV a cap b ∧ BtP W a cap b := by
  obtain ⟨cs, rfl, hsz⟩ := okWide_struct Try.underlying53 hv
  obtain ⟨fuel, hf⟩ := h
  obtain ⟨xs, m, _, _, hlen, hxl, hf⟩ := DataW.trod_struct Try.underlying53 hf
  rw [cellsBt] at hlen
  simp only [Value.cells] at hlen hf
  obtain ⟨l⟩ := cs
  match l, hlen with
  | [c0, c1, c2, c3, c4, c5, c6, c7, c8], _ =>
    have hx7 : xs.length = 7 := hxl
    match xs, hx7 with
    | [x0, x1, x2, x3, x4, x5, x6], _ =>
      have h0 := hf 0 _ rfl
      have h1 := hf 1 _ rfl
      have h2 := hf 2 _ rfl
      have h3 := hf 3 _ rfl
      have h4 := hf 4 _ rfl
      have h5 := hf 5 _ rfl
      have h6 := hf 6 _ rfl
      simp only [List.getElem?_cons_zero, List.getElem?_cons_succ] at h0 h1 h2 h3 h4 h5 h6
      obtain ⟨i, e0, _⟩ := DataW.trod_int Try.underlying2 h0
      obtain ⟨t, e1, _⟩ := DataW.trod_int Try.underlying2 h1
      obtain ⟨f, e2, _⟩ := DataW.trod_int Try.underlying2 h2
      obtain ⟨k, e3, _⟩ := DataW.trod_int Try.underlying3 h3
      obtain ⟨q, e4, _⟩ := DataW.trod_int Try.underlying3 h4
      obtain ⟨g1, g2, g3, e5, q1, q2, q3⟩ := group_of_trod h5
      obtain ⟨a, cap, ls, e6, hL, hl, hs⟩ := strs_cells_trod h6
      simp [cells2, cellsI, cellsTs, cellsGr] at e0 e1 e2 e3 e4 e5 e6
      obtain ⟨rfl, rfl, rfl⟩ := e5
      subst e0 e1 e2 e3 e4 e6
      exact ⟨a, cap, ⟨i, t, f, k, q, g1, g2, g3, ls⟩, rfl, hL, hs, q1, q2, q3⟩

theorem caps_of_trod {H : Type} {enc : TypeId × Value → H} {W : World} {base : Nat} {v : Value} {d : DataW H} {p : List MemPlace}
    (hv : Value.okWide Try.prog W .any base 23 v) (h : DataW.Trod enc Try.prog W 0 (fun _ => true) true 23 v d p) : ∃ c, v = cpV c := by
  obtain ⟨cs, rfl, hsz⟩ := okWide_struct Try.underlying23 hv
  obtain ⟨fuel, hf⟩ := h
  obtain ⟨xs, m, _, _, hlen, hxl, hf⟩ := DataW.trod_struct Try.underlying23 hf
  rw [cellsCp] at hlen
  simp only [Value.cells] at hlen hf
  obtain ⟨l⟩ := cs
  match l, hlen with
  | [c0, c1], _ =>
    have hx2 : xs.length = 2 := hxl
    match xs, hx2 with
    | [x0, x1], _ =>
      have h0 := hf 0 _ rfl
      have h1 := hf 1 _ rfl
      simp only [List.getElem?_cons_zero, List.getElem?_cons_succ] at h0 h1
      obtain ⟨n, e0, _⟩ := DataW.trod_int Try.underlying3 h0
      obtain ⟨t, e1, _⟩ := DataW.trod_int Try.underlying2 h1
      simp [cellsI, cells2] at e0 e1
      subst e0 e1
      exact ⟨⟨n, t⟩, rfl⟩
end

end Go.Proofs.Ytaghbfnikcldiaa
