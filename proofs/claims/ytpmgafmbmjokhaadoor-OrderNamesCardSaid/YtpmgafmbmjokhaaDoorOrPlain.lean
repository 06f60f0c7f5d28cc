/- Plain facts on orders: which can be, their bytes, and what bytes are read as; each order's bytes are read as that order, and none but these. -/
import Derived.Test.YtpmgafmbmjokhaaDoorLnPlain
import Derived.Test.YtpmgafmbmjokhaaDoorBkWrite
namespace Go.Proofs.YtpmgafmbmjokhaaDoor

/-- An order. -/
structure Od where
  id : ByteArray
  ls : List Ln
  car : ByteArray
  zone : ByteArray
  serv : ByteArray
  total : Int
  phase : Int
  given : Bool
  ref : Int
  batch : Int

def rightT (s : ByteArray) : Bool := rightB s.data.toList
def groupB (a b c : ByteArray) : Bool := rightT a && (rightT b && rightT c)
def phaseB (n : Int) : Bool := decide (1 ≤ n ∧ n ≤ 12)
def sagaB (p r : Int) : Bool := phaseB p && decide (0 ≤ r ∧ r ≤ 1000000)
def batchedB (p : Int) : Bool := decide (3 ≤ p ∧ p ≤ 6)
def tallyB (n : Int) : Bool := decide (0 ≤ n ∧ n ≤ 1000000000000)
def rightO (o : Od) : Bool := rightT o.id && groupB o.car o.zone o.serv && rightLB o.ls && tallyB o.total && sagaB o.phase o.ref && tallyB o.batch && (decide (o.batch ≠ 0) == batchedB o.phase)

/-- A line's bytes, an order's. -/
def lineL (x : Ln) : List Nat := textL x.sku ++ (numL x.qty.toNat ++ numL x.wt.toNat)
def linesL (l : List Ln) : List Nat := (l.map lineL).flatten
def givenN (b : Bool) : Nat := if b then 1 else 0
def orderL (o : Od) : List Nat :=
  textL o.id ++ (numL o.ls.length ++ (linesL o.ls ++ (textL o.car ++ (textL o.zone ++ (textL o.serv ++ (numL o.total.toNat ++ (numL o.phase.toNat ++ (numL (givenN o.given) ++ (numL o.ref.toNat ++ numL o.batch.toNat)))))))))

/-- What is left of bytes that are read: nothing, once they could not be. -/
abbrev Sc := Option (List Nat)
def numS (most : Nat) (s : Sc) : Nat × Sc :=
  match s with
  | none => (0, none)
  | some r => if (numAt most 0 0 r).2.2 = 0 then ((numAt most 0 0 r).1, some (r.drop (numAt most 0 0 r).2.1)) else (0, none)
def textS (most : Nat) (s : Sc) : List Nat × Sc :=
  match numS most s with
  | (_, none) => ([], none)
  | (n, some r) => if r.length < n then ([], none) else (r.take n, some (r.drop n))
def lineS (s : Sc) : Ln × Sc :=
  (⟨strB (textS 32 s).1, ((numS 1000 (textS 32 s).2).1 : Int), ((numS 100000 (numS 1000 (textS 32 s).2).2).1 : Int)⟩, (numS 100000 (numS 1000 (textS 32 s).2).2).2)
def linesS : Nat → Sc → List Ln × Sc
  | 0, s => ([], s)
  | n + 1, s => ((lineS s).1 :: (linesS n (lineS s).2).1, (linesS n (lineS s).2).2)

def takeS (s : Sc) : Od × Sc :=
  let i := textS 32 s
  let n := numS 8 i.2
  let l := linesS n.1 n.2
  let c := textS 32 l.2
  let z := textS 32 c.2
  let v := textS 32 z.2
  let t := numS 1000000000000 v.2
  let p := numS 12 t.2
  let g := numS 1 p.2
  let f := numS 1000000 g.2
  let b := numS 1000000000000 f.2
  (⟨strB i.1, l.1, strB c.1, strB z.1, strB v.1, (t.1 : Int), (p.1 : Int), decide (g.1 = 1), (f.1 : Int), (b.1 : Int)⟩, b.2)

/-- The order that stands next; none, if there is none. -/
def takeV (s : Sc) : Option Od := if (takeS s).2.isSome && rightO (takeS s).1 then some (takeS s).1 else none

/-- A text's bytes tell the text. -/
theorem strL_inj {a b : ByteArray} (h : strL a = strL b) : a = b := by
  unfold strL at h
  have e : a.data.toList = b.data.toList := by
    refine List.map_inj_right (f := UInt8.toNat) (fun x y e => UInt8.toNat_inj.1 e) |>.1 h
  cases a; cases b
  simp only at e
  rw [Array.toList_inj] at e
  rw [e]
theorem strB_strL (s : ByteArray) : strB (strL s) = s := strL_inj (strL_strB (strL_bytes s))

theorem chunk_two {x : List UInt8} (h : isChunk x = true) : x.length ≤ 2 := by
  match x, h with
  | [], _ => simp
  | [_], _ => simp
  | [_, _], _ => simp
  | _ :: _ :: _ :: _, h => simp [isChunk] at h

theorem flat_two : ∀ (cs : List (List UInt8)), (∀ x ∈ cs, isChunk x = true) → cs.flatten.length ≤ 2 * cs.length
  | [], _ => by simp
  | x :: r, h => by
    have h1 := chunk_two (h x (by simp))
    have h2 := flat_two r (fun y hy => h y (by simp [hy]))
    rw [List.flatten_cons, List.length_append, List.length_cons]
    omega

/-- A label has no more than 32 bytes. -/
theorem right_32 {s : ByteArray} (h : rightT s = true) : s.size ≤ 32 := by
  unfold rightT rightB at h
  obtain ⟨cs, hc⟩ := Option.isSome_iff_exists.1 h
  obtain ⟨h1, _, h3, _⟩ := labOf_some.1 hc
  obtain ⟨h4, h5⟩ := chunks_some h1
  have h6 := flat_two cs h5
  rw [h4, Array.length_toList] at h6
  have : s.data.size = s.size := rfl
  omega

theorem numS_none (m : Nat) : numS m none = (0, none) := rfl
theorem textS_none (m : Nat) : textS m none = ([], none) := rfl

theorem numS_put {n m : Nat} (h : n ≤ m) (r : List Nat) : numS m (some (numL n ++ r)) = (n, some r) := by
  have e := numAt_numL m r n 0 0 (by simp; omega) (by simp)
  unfold numS
  simp only [e]
  simp

theorem textS_put {s : ByteArray} {m : Nat} (h : s.size ≤ m) (r : List Nat) : textS m (some (textL s ++ r)) = (strL s, some r) := by
  have e := numS_put h (strL s ++ r)
  unfold textS textL
  rw [List.append_assoc, e]
  have h2 := strL_len s
  simp [h2.symm]

theorem lineS_put {x : Ln} (h : lineB x = true) (r : List Nat) : lineS (some (lineL x ++ r)) = (x, some r) := by
  obtain ⟨h0, h1, h2, h3, h4⟩ := lineB_of h
  have e1 := textS_put (m := 32) (right_32 (s := x.sku) h0) (numL x.qty.toNat ++ (numL x.wt.toNat ++ r))
  have e2 := numS_put (n := x.qty.toNat) (m := 1000) (by omega) (numL x.wt.toNat ++ r)
  have e3 := numS_put (n := x.wt.toNat) (m := 100000) (by omega) r
  unfold lineS lineL
  rw [List.append_assoc, List.append_assoc, e1]
  simp only [e2, e3, strB_strL]
  rw [Int.toNat_of_nonneg (by omega), Int.toNat_of_nonneg h3]

theorem linesL_cons (x : Ln) (l : List Ln) : linesL (x :: l) = lineL x ++ linesL l := by simp [linesL]

theorem linesS_put : ∀ (l : List Ln) (_ : ∀ x ∈ l, lineB x = true) (r : List Nat), linesS l.length (some (linesL l ++ r)) = (l, some r)
  | [], _, r => by simp [linesS, linesL]
  | x :: l, h, r => by
    rw [linesL_cons, List.append_assoc, List.length_cons, linesS, lineS_put (h x (by simp))]
    simp only
    rw [linesS_put l (fun y hy => h y (by simp [hy])) r]

theorem rightO_of {o : Od} (h : rightO o = true) : rightT o.id = true ∧ groupB o.car o.zone o.serv = true ∧ rightLB o.ls = true ∧ (0 ≤ o.total ∧ o.total ≤ 1000000000000) ∧ ((1 ≤ o.phase ∧ o.phase ≤ 12) ∧ 0 ≤ o.ref ∧ o.ref ≤ 1000000) ∧ (0 ≤ o.batch ∧ o.batch ≤ 1000000000000) := by
  simp only [rightO, Bool.and_eq_true, tallyB, sagaB, phaseB, decide_eq_true_eq] at h
  exact ⟨h.1.1.1.1.1.1, h.1.1.1.1.1.2, h.1.1.1.1.2, h.1.1.1.2, h.1.1.2, h.1.2⟩

theorem groupB_of {a b c : ByteArray} (h : groupB a b c = true) : rightT a = true ∧ rightT b = true ∧ rightT c = true := by
  simpa [groupB] using h

theorem givenN_one (b : Bool) : decide (givenN b = 1) = b := by cases b <;> rfl
theorem givenN_le (b : Bool) : givenN b ≤ 1 := by cases b <;> simp [givenN]

/-- What is written is read. -/
theorem takeS_put {o : Od} (h : rightO o = true) (r : List Nat) : takeS (some (orderL o ++ r)) = (o, some r) := by
  obtain ⟨h1, h2, h3, h4, h5, h6⟩ := rightO_of h
  obtain ⟨g1, g2, g3⟩ := groupB_of h2
  obtain ⟨l1, l2, _⟩ := (rightLB_iff _).1 h3
  unfold takeS orderL
  simp only [List.append_assoc]
  rw [textS_put (right_32 h1)]
  simp only
  rw [numS_put (by omega)]
  simp only
  rw [linesS_put _ l2]
  simp only
  rw [textS_put (right_32 g1)]
  simp only
  rw [textS_put (right_32 g2)]
  simp only
  rw [textS_put (right_32 g3)]
  simp only
  rw [numS_put (by omega)]
  simp only
  rw [numS_put (by omega)]
  simp only
  rw [numS_put (givenN_le _)]
  simp only
  rw [numS_put (by omega)]
  simp only
  rw [numS_put (by omega)]
  simp only [strB_strL, givenN_one]
  rw [Int.toNat_of_nonneg h4.1, Int.toNat_of_nonneg (by omega), Int.toNat_of_nonneg h5.2.1, Int.toNat_of_nonneg h6.1]

/-- Bytes are left, if anything is. -/
def BytesS (s : Sc) : Prop := ∀ b, s = some b → Bytes b

theorem numS_bytes {s : Sc} (h : BytesS s) (m : Nat) : BytesS (numS m s).2 := by
  cases s with
  | none => intro b e; cases e
  | some r =>
    intro b e
    unfold numS at e
    simp only at e
    split at e
    · cases e
      exact fun x hx => h r rfl x (List.mem_of_mem_drop hx)
    · cases e

theorem textS_eq (m : Nat) (s : Sc) : textS m s = match (numS m s).2 with | none => ([], none) | some r => if r.length < (numS m s).1 then ([], none) else (r.take (numS m s).1, some (r.drop (numS m s).1)) := by
  unfold textS
  rcases numS m s with ⟨n, _ | r⟩ <;> rfl

theorem textS_bytes {s : Sc} (h : BytesS s) (m : Nat) : BytesS (textS m s).2 ∧ Bytes (textS m s).1 := by
  have h1 := numS_bytes h m
  rw [textS_eq]
  cases e : (numS m s).2 with
  | none => exact ⟨fun b e => (by cases e), fun b hb => (by simp at hb)⟩
  | some r =>
    have hr := h1 r e
    simp only
    split
    · exact ⟨fun b e => (by cases e), fun b hb => (by simp at hb)⟩
    · exact ⟨fun b e => (by cases e; exact fun x hx => hr x (List.mem_of_mem_drop hx)), fun x hx => hr x (List.mem_of_mem_take hx)⟩

theorem numS_le (m : Nat) (s : Sc) (h : BytesS s) : (numS m s).1 ≤ m := by
  cases s with
  | none => exact Nat.zero_le _
  | some b =>
    unfold numS
    simp only
    split
    · rename_i he
      rcases hn : numAt m 0 0 b with ⟨v, k, e⟩
      rw [hn] at he
      simp only at he
      subst he
      obtain ⟨_, _, _, _, _, h4, _⟩ := numAt_alone m b 0 0 v k (h b rfl) (Nat.zero_le _) hn
      exact h4
    · exact Nat.zero_le _

/-- What is read is as it would be written. -/
theorem numS_back {s : Sc} (h : BytesS s) {m : Nat} {r : List Nat} (e : (numS m s).2 = some r) : s = some (numL (numS m s).1 ++ r) := by
  cases s with
  | none => cases e
  | some b =>
    unfold numS at e ⊢
    simp only at e ⊢
    split at e
    · rename_i he
      rw [if_pos he]
      cases e
      rcases hn : numAt m 0 0 b with ⟨v, k, e⟩
      rw [hn] at he
      simp only at he
      subst he
      obtain ⟨q, r, h1, h2, h3, _⟩ := numAt_alone m b 0 0 v k (h b rfl) (Nat.zero_le _) hn
      simp at h2 h3
      subst h2 h3
      simp only
      rw [h1]
      simp
    · cases e

theorem textS_back {s : Sc} (h : BytesS s) {m : Nat} {r : List Nat} (e : (textS m s).2 = some r) : s = some (textL (strB (textS m s).1) ++ r) := by
  have hb := (textS_bytes h m).2
  rw [textS_eq] at e hb ⊢
  cases e2 : (numS m s).2 with
  | none => rw [e2] at e; cases e
  | some t =>
    rw [e2] at e hb
    simp only at e hb ⊢
    split at e
    · cases e
    · rename_i hl
      rw [if_neg hl] at hb ⊢
      cases e
      have h1 := numS_back h e2
      simp only at hb ⊢
      rw [textL, strB_size, strL_strB hb, List.append_assoc, List.take_append_drop, List.length_take, Nat.min_eq_left (by omega)]
      exact h1

theorem lineS_bytes {s : Sc} (h : BytesS s) : BytesS (lineS s).2 := numS_bytes (numS_bytes (textS_bytes h 32).1 1000) 100000

theorem lineS_back {s : Sc} (h : BytesS s) {r : List Nat} (e : (lineS s).2 = some r) : s = some (lineL (lineS s).1 ++ r) := by
  have b1 := (textS_bytes h 32).1
  have b2 := numS_bytes b1 1000
  have e3 := numS_back b2 (m := 100000) (r := r) e
  have e2 := numS_back b1 e3
  have e1 := textS_back h e2
  unfold lineL lineS
  simp only [Int.toNat_natCast, List.append_assoc]
  exact e1

theorem linesS_len : ∀ (n : Nat) (s : Sc), (linesS n s).1.length = n
  | 0, _ => rfl
  | n + 1, s => by rw [linesS]; simp [linesS_len n]

theorem linesS_bytes : ∀ (n : Nat) {s : Sc} (_ : BytesS s), BytesS (linesS n s).2
  | 0, _, h => h
  | n + 1, _, h => linesS_bytes n (lineS_bytes h)

theorem linesS_back : ∀ (n : Nat) {s : Sc} (_ : BytesS s) {r : List Nat} (_ : (linesS n s).2 = some r), s = some (linesL (linesS n s).1 ++ r)
  | 0, s, _, r, e => by simpa [linesS, linesL] using e
  | n + 1, s, h, r, e => by
    rw [linesS] at e ⊢
    simp only at e ⊢
    have e2 := linesS_back n (lineS_bytes h) e
    have e1 := lineS_back h e2
    rw [linesL_cons, List.append_assoc]
    exact e1

theorem takeS_back {s : Sc} (h : BytesS s) {r : List Nat} (e : (takeS s).2 = some r) : s = some (orderL (takeS s).1 ++ r) := by
  unfold takeS at e ⊢
  simp only at e ⊢
  have b1 := (textS_bytes h 32).1
  have b2 := numS_bytes b1 8
  generalize hi : textS 32 s = i at *
  generalize hn : numS 8 i.2 = n at *
  have b3 := linesS_bytes n.1 b2
  have n3 := linesS_len n.1 n.2
  generalize hl : linesS n.1 n.2 = l at *
  have b4 := (textS_bytes b3 32).1
  generalize hc : textS 32 l.2 = c at *
  have b5 := (textS_bytes b4 32).1
  generalize hz : textS 32 c.2 = z at *
  have b6 := (textS_bytes b5 32).1
  generalize hv : textS 32 z.2 = v at *
  have b7 := numS_bytes b6 1000000000000
  generalize ht : numS 1000000000000 v.2 = t at *
  have b8 := numS_bytes b7 12
  generalize hp : numS 12 t.2 = p at *
  have b9 := numS_bytes b8 1
  have g1 := numS_le 1 p.2 b8
  generalize hg : numS 1 p.2 = g at *
  have b10 := numS_bytes b9 1000000
  generalize hf : numS 1000000 g.2 = f at *
  have e11 := numS_back b10 (m := 1000000000000) (r := r) e
  generalize hb : numS 1000000000000 f.2 = b at *
  have e10 := numS_back b9 (m := 1000000) (by rw [hf]; exact e11)
  rw [hf] at e10
  have e9 := numS_back b8 (m := 1) (by rw [hg]; exact e10)
  rw [hg] at e9
  have e8 := numS_back b7 (m := 12) (by rw [hp]; exact e9)
  rw [hp] at e8
  have e7 := numS_back b6 (m := 1000000000000) (by rw [ht]; exact e8)
  rw [ht] at e7
  have e6 := textS_back b5 (m := 32) (by rw [hv]; exact e7)
  rw [hv] at e6
  have e5 := textS_back b4 (m := 32) (by rw [hz]; exact e6)
  rw [hz] at e5
  have e4 := textS_back b3 (m := 32) (by rw [hc]; exact e5)
  rw [hc] at e4
  have e3 := linesS_back n.1 b2 (by rw [hl]; exact e4)
  rw [hl] at e3
  have e2 := numS_back b1 (m := 8) (by rw [hn]; exact e3)
  rw [hn] at e2
  have e1 := textS_back h (m := 32) (by rw [hi]; exact e2)
  rw [hi] at e1
  have hgg : givenN (decide (g.1 = 1)) = g.1 := by
    unfold givenN
    by_cases hg1 : g.1 = 1
    · simp [hg1]
    · simp [hg1]; omega
  unfold orderL
  simp only [Int.toNat_natCast, List.append_assoc, hgg, n3]
  exact e1

theorem takeV_put {o : Od} (h : rightO o = true) (r : List Nat) : takeV (some (orderL o ++ r)) = some o := by
  unfold takeV
  rw [takeS_put h]
  simp [h]

theorem takeV_some {s : Sc} {o : Od} (h : takeV s = some o) : ∃ r, takeS s = (o, some r) ∧ rightO o = true := by
  unfold takeV at h
  split at h
  · rename_i h1
    simp only [Bool.and_eq_true] at h1
    obtain ⟨r, hr⟩ := Option.isSome_iff_exists.1 h1.1
    cases h
    exact ⟨r, by rw [← hr], h1.2⟩
  · cases h

theorem lineL_bytes (x : Ln) : Bytes (lineL x) := bytes_app (textL_bytes _) (bytes_app (numL_bytes _) (numL_bytes _))
theorem linesL_bytes : ∀ (l : List Ln), Bytes (linesL l)
  | [] => fun b hb => by simp [linesL] at hb
  | x :: l => by rw [linesL_cons]; exact bytes_app (lineL_bytes x) (linesL_bytes l)
theorem orderL_bytes (o : Od) : Bytes (orderL o) := by
  unfold orderL
  repeat' (first | exact textL_bytes _ | exact numL_bytes _ | exact linesL_bytes _ | apply bytes_app)

/-- An order's bytes, cut off, are none. -/
theorem takeV_cut {o : Od} (h : rightO o = true) {n : Nat} (hn : n < (orderL o).length) : takeV (some ((orderL o).take n)) = none := by
  cases e : takeV (some ((orderL o).take n)) with
  | none => rfl
  | some x =>
    exfalso
    obtain ⟨r, h1, h2⟩ := takeV_some e
    have hb : BytesS (some ((orderL o).take n)) := fun b hb => by cases hb; exact fun y hy => orderL_bytes o y (List.mem_of_mem_take hy)
    have e1 := takeS_back hb (r := r) (by rw [h1])
    rw [h1] at e1
    injection e1 with e1
    have e2 : orderL o = orderL x ++ (r ++ (orderL o).drop n) := by rw [← List.append_assoc, ← e1, List.take_append_drop]
    have e3 := takeS_put h2 (r ++ (orderL o).drop n)
    rw [← e2] at e3
    have e4 := takeS_put h []
    rw [List.append_nil, e3] at e4
    have e5 := congrArg Prod.snd e4
    simp at e5
    omega

/-- Of two orders' bytes neither begins the other's, but they are the same. -/
theorem order_begins {a b : Od} (ha : rightO a = true) (hb : rightO b = true) {r : List Nat} (e : orderL b = orderL a ++ r) : a = b ∧ r = [] := by
  have e1 := takeS_put ha r
  have e2 := takeS_put hb []
  rw [List.append_nil, e, e1] at e2
  injection e2 with e3 e4
  exact ⟨e3, by injection e4⟩

end Go.Proofs.YtpmgafmbmjokhaaDoor
