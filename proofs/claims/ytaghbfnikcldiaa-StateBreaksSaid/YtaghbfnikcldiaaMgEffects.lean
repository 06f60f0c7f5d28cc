/- Effects, phases. -/
import Derived.Test.YtaghbfnikcldiaaMgLines
import Derived.Test.YtaghbfnikcldiaaMgBatches
import Derived.Test.YtaghbfnikcldiaaSl
import Derived.Deep.RegionLaw
import Derived.Test.YtaghbfnikcldiaaRw
import Derived.Maps.OwnSet
import Derived.Maps.OwnOps
namespace Go.Proofs.Ytaghbfnikcldiaa

/- ObPlain: Plain facts on what is asked of the outside: which can be, what is sent and settled, their bytes, and what bytes are read as. -/
section
set_option maxRecDepth 100000

/-- One that is asked. -/
structure Ef where
  key : Int
  batch : Int
  due : Int
  kind : Int
  tries : Int
  order : ByteArray

def noEf : Ef := ⟨0, 0, 0, 0, 0, ⟨#[]⟩⟩
def triesB (n : Int) : Bool := decide (0 ≤ n ∧ n ≤ 1000000)
def bothB (n : Int) : Bool := decide (n = 3 ∨ n = 4)
def soleB (n : Int) : Bool := decide (n = 1 ∨ n = 2 ∨ n = 5 ∨ n = 6 ∨ n = 7)
def emptyT (s : ByteArray) : Bool := s.toList == []
def ofB (e : Ef) : Bool := if bothB e.kind then aboveB e.batch && emptyT e.order else if soleB e.kind then decide (e.batch = 0) && rightT e.order else false
def oneB (e : Ef) : Bool := aboveB e.key && (tickB e.due && (triesB e.tries && ofB e))
/-- Those of l, behind a key. -/
def goodE (last : Int) : List Ef → Bool
  | [] => true
  | e :: r => oneB e && decide (last < e.key) && goodE e.key r
def rightE (l : List Ef) : Bool := goodE 0 l
/-- The key ahead of a place. -/
def keyAt (l : List Ef) (k : Nat) : Int := if k = 0 then 0 else (l[k - 1]?.map (·.key)).getD 0
theorem goodE_step (l : List Ef) (k : Nat) (h : k < l.length) : goodE (keyAt l k) (l.drop k) = (oneB l[k] && decide (keyAt l k < l[k].key) && goodE (keyAt l (k + 1)) (l.drop (k + 1))) := by
  rw [List.drop_eq_getElem_cons h, goodE]
  have : keyAt l (k + 1) = l[k].key := by simp [keyAt, h]
  rw [this]
theorem rightE_at (l : List Ef) : rightE l = goodE (keyAt l 0) (l.drop 0) := by simp [rightE, keyAt]

theorem goodE_iff : ∀ (l : List Ef) (last : Int), goodE last l = true ↔ (∀ e ∈ l, oneB e = true) ∧ (last :: l.map (·.key)).Pairwise (· < ·)
  | [], last => by simp [goodE]
  | e :: r, last => by
    have ih := goodE_iff r e.key
    simp only [goodE, Bool.and_eq_true, decide_eq_true_eq, ih, List.map_cons]
    constructor
    · rintro ⟨⟨h1, h2⟩, h3, h4⟩
      refine ⟨fun y hy => ?_, ?_⟩
      · rcases List.mem_cons.1 hy with rfl | hy
        · exact h1
        · exact h3 y hy
      · rw [List.pairwise_cons]
        refine ⟨fun y hy => ?_, h4⟩
        rcases List.mem_cons.1 hy with rfl | hy
        · exact h2
        · exact Int.lt_trans h2 ((List.pairwise_cons.1 h4).1 y hy)
    · rintro ⟨h1, h2⟩
      obtain ⟨h3, h4⟩ := List.pairwise_cons.1 h2
      exact ⟨⟨h1 e (by simp), h3 _ (by simp)⟩, fun y hy => h1 y (by simp [hy]), h4⟩
/-- It is right just where each can be and the keys rise. -/
theorem rightE_iff (l : List Ef) : rightE l = true ↔ (∀ e ∈ l, oneB e = true) ∧ (l.map (·.key)).Pairwise (· < ·) := by
  unfold rightE
  rw [goodE_iff, List.pairwise_cons]
  constructor
  · rintro ⟨h1, _, h3⟩; exact ⟨h1, h3⟩
  · rintro ⟨h1, h3⟩
    refine ⟨h1, fun y hy => ?_, h3⟩
    obtain ⟨e, he, rfl⟩ := List.mem_map.1 hy
    have := h1 e he
    simp only [oneB, Bool.and_eq_true, aboveB_iff] at this
    omega
theorem emptyT_size {s : ByteArray} (h : emptyT s = true) : s.size = 0 := by
  have e := (toList_iff s ByteArray.empty).1 (by unfold emptyT at h; rw [beq_iff_eq] at h; rw [h]; simp)
  rw [e]; rfl
theorem oneB_of {e : Ef} (h : oneB e = true) : (1 ≤ e.key ∧ e.key ≤ 1000000000000) ∧ (0 ≤ e.due ∧ e.due ≤ 1099511627776) ∧ (0 ≤ e.tries ∧ e.tries ≤ 1000000) ∧ (1 ≤ e.kind ∧ e.kind ≤ 7) ∧ (0 ≤ e.batch ∧ e.batch ≤ 1000000000000) ∧ e.order.size ≤ 32 := by
  simp only [oneB, Bool.and_eq_true, aboveB_iff, tickB_iff, triesB, decide_eq_true_eq] at h
  obtain ⟨h1, h2, h3, h4⟩ := h
  refine ⟨h1, h2, h3, ?_⟩
  unfold ofB at h4
  split at h4
  · rename_i hk
    simp only [bothB, decide_eq_true_eq] at hk
    simp only [Bool.and_eq_true, aboveB_iff] at h4
    refine ⟨by omega, by omega, ?_⟩
    rw [emptyT_size h4.2]; decide
  · split at h4
    · rename_i hk
      simp only [soleB, decide_eq_true_eq] at hk
      simp only [Bool.and_eq_true, decide_eq_true_eq] at h4
      exact ⟨by omega, by omega, right_32 h4.2⟩
    · cases h4

/-- The one of a key. -/
def hasK (e : Ef) (key : Int) : Bool := decide (e.key = key)
def findE (l : List Ef) (key : Int) : Option Ef := l.find? (hasK · key)
def findV (l : List Ef) (key : Int) : Ef := (findE l key).getD noEf
def findN (l : List Ef) (key : Int) : Int := if (findE l key).isSome then 0 else 131
def dueE (l : List Ef) (now : Int) : List Ef := l.filter fun e => decide (e.due ≤ now)
def backN (n : Int) : Int := 2 ^ (min n.toNat 6)
def bumpE (now : Int) (e : Ef) : Ef := ⟨e.key, e.batch, if 1099511627776 < now + backN e.tries then 1099511627776 else now + backN e.tries, e.kind, if e.tries < 1000000 then e.tries + 1 else e.tries, e.order⟩
def addEN (l : List Ef) (e : Ef) : Int := if rightE (l ++ [e]) then 0 else 131
def addEV (l : List Ef) (e : Ef) : List Ef := if rightE (l ++ [e]) then l ++ [e] else []
def sentOf (l : List Ef) (key now : Int) : List Ef := l.map fun e => if hasK e key then bumpE now e else e
def sentN (l : List Ef) (key now : Int) : Int := if (findE l key).isSome && tickB now then 0 else 131
def sentV (l : List Ef) (key now : Int) : List Ef := if (findE l key).isSome && tickB now then sentOf l key now else []
def restOf (l : List Ef) (key : Int) : List Ef := l.filter fun e => !hasK e key
def settleN (l : List Ef) (key : Int) : Int := findN l key
def settleV (l : List Ef) (key : Int) : List Ef := if (findE l key).isSome then restOf l key else []

theorem backN_in (n : Int) : 1 ≤ backN n ∧ backN n ≤ 64 := by
  unfold backN
  have h : min n.toNat 6 ≤ 6 := Nat.min_le_right _ _
  generalize min n.toNat 6 = k at h
  match k, h with
  | 0, _ => decide
  | 1, _ => decide
  | 2, _ => decide
  | 3, _ => decide
  | 4, _ => decide
  | 5, _ => decide
  | 6, _ => decide
  | _ + 7, h => omega
theorem bumpE_key (now : Int) (e : Ef) : (bumpE now e).key = e.key := rfl
theorem bumpE_one {now : Int} (hn : tickB now = true) {e : Ef} (h : oneB e = true) : oneB (bumpE now e) = true := by
  have hb := backN_in e.tries
  rw [tickB_iff] at hn
  simp only [oneB, Bool.and_eq_true, tickB_iff, triesB, decide_eq_true_eq] at h ⊢
  obtain ⟨h1, h2, h3, h4⟩ := h
  refine ⟨h1, ?_, ?_, h4⟩
  · simp only [bumpE]; split <;> omega
  · simp only [bumpE]; split <;> omega
theorem sentOf_keys (l : List Ef) (key now : Int) : (sentOf l key now).map (·.key) = l.map (·.key) := by
  unfold sentOf
  rw [List.map_map]
  refine List.map_congr_left fun e _ => ?_
  show (if hasK e key then bumpE now e else e).key = e.key
  split <;> rfl
theorem right_sent {l : List Ef} (h : rightE l = true) (key : Int) {now : Int} (hn : tickB now = true) : rightE (sentOf l key now) = true := by
  rw [rightE_iff] at h ⊢
  refine ⟨fun e he => ?_, by rw [sentOf_keys]; exact h.2⟩
  obtain ⟨x, hx, rfl⟩ := List.mem_map.1 he
  split
  · exact bumpE_one hn (h.1 x hx)
  · exact h.1 x hx
theorem right_filter {l : List Ef} (h : rightE l = true) (p : Ef → Bool) : rightE (l.filter p) = true := by
  rw [rightE_iff] at h ⊢
  exact ⟨fun e he => h.1 e (List.mem_filter.1 he).1, h.2.sublist (List.Sublist.map _ List.filter_sublist)⟩
theorem right_rest {l : List Ef} (h : rightE l = true) (key : Int) : rightE (restOf l key) = true := right_filter h _
theorem right_due {l : List Ef} (h : rightE l = true) (now : Int) : rightE (dueE l now) = true := right_filter h _

/-- It can be put at the end just where it can be and its key is above all. -/
theorem right_add (l : List Ef) (e : Ef) : rightE (l ++ [e]) = (rightE l && oneB e && decide (keyAt l l.length < e.key)) := by
  have key : ∀ (l : List Ef) (last : Int), goodE last (l ++ [e]) = (goodE last l && oneB e && decide ((l.getLast?.map (·.key)).getD last < e.key)) := by
    intro l
    induction l with
    | nil =>
      intro last
      rw [List.nil_append, goodE, goodE, goodE]
      simp only [Bool.and_true, Bool.true_and]
      rfl
    | cons x r ih =>
      intro last
      rw [List.cons_append, goodE, goodE, ih]
      have : ((x :: r).getLast?.map (·.key)).getD last = (r.getLast?.map (·.key)).getD x.key := by
        cases r with
        | nil => rfl
        | cons y t => rw [List.getLast?_cons_cons, List.getLast?_cons]; rfl
      rw [this]
      simp only [Bool.and_assoc]
  unfold rightE
  rw [key]
  have : (l.getLast?.map (·.key)).getD 0 = keyAt l l.length := by
    unfold keyAt
    cases l with
    | nil => rfl
    | cons x r => rw [if_neg (by simp), List.getLast?_eq_getElem?]
  rw [this]

theorem find_mem {l : List Ef} {key : Int} {e : Ef} (h : findE l key = some e) : e ∈ l ∧ e.key = key := by
  refine ⟨List.mem_of_find?_eq_some h, ?_⟩
  have := List.find?_some h
  simpa [hasK] using this
theorem find_no {l : List Ef} {key : Int} (h : findE l key = none) : ∀ e ∈ l, hasK e key = false := by
  intro e he
  have := List.find?_eq_none.1 h e he
  simpa using this
theorem find_drop (l : List Ef) (key : Int) (k : Nat) (h : k < l.length) : findE (l.drop k) key = if hasK l[k] key then some l[k] else findE (l.drop (k + 1)) key := by
  unfold findE
  rw [List.drop_eq_getElem_cons h, List.find?_cons]
  cases hasK l[k] key <;> rfl
/-- Where keys rise, each stands once. -/
theorem right_once {l : List Ef} (h : rightE l = true) {i : Nat} (hi : i < l.length) : ∀ e ∈ l.take i ++ l.drop (i + 1), hasK e l[i].key = false := by
  have hp := ((rightE_iff l).1 h).2
  have e : l = l.take i ++ l[i] :: l.drop (i + 1) := by rw [← List.drop_eq_getElem_cons hi, List.take_append_drop]
  generalize l[i] = x at *
  generalize l.take i = p at *
  generalize l.drop (i + 1) = q at *
  subst e
  rw [List.map_append, List.map_cons, List.pairwise_append, List.pairwise_cons] at hp
  obtain ⟨_, ⟨h1, _⟩, h2⟩ := hp
  intro y hy
  unfold hasK
  rw [decide_eq_false_iff_not]
  rcases List.mem_append.1 hy with hy | hy
  · have := h2 y.key (List.mem_map.2 ⟨y, hy, rfl⟩) x.key (by simp)
    omega
  · have := h1 y.key (List.mem_map.2 ⟨y, hy, rfl⟩)
    omega
theorem find_of {l : List Ef} (h : rightE l = true) {i : Nat} (hi : i < l.length) : findE l l[i].key = some l[i] := by
  have ho := right_once h hi
  have e : l = l.take i ++ l[i] :: l.drop (i + 1) := by rw [← List.drop_eq_getElem_cons hi, List.take_append_drop]
  unfold findE
  generalize l[i] = x at *
  generalize l.take i = p at *
  generalize l.drop (i + 1) = q at *
  subst e
  rw [List.find?_append, List.find?_eq_none.2 (fun y hy => by rw [ho y (by simp [hy])]; decide), Option.none_or, List.find?_cons]
  simp [hasK]
theorem rest_of {l : List Ef} (h : rightE l = true) {i : Nat} (hi : i < l.length) : restOf l l[i].key = l.take i ++ l.drop (i + 1) := by
  have ho := right_once h hi
  have e : l = l.take i ++ l[i] :: l.drop (i + 1) := by rw [← List.drop_eq_getElem_cons hi, List.take_append_drop]
  unfold restOf
  generalize l[i] = x at *
  generalize l.take i = p at *
  generalize l.drop (i + 1) = q at *
  subst e
  have hp : p.filter (fun e => !hasK e x.key) = p := List.filter_eq_self.2 (fun y hy => by rw [ho y (by simp [hy])]; rfl)
  have hq : q.filter (fun e => !hasK e x.key) = q := List.filter_eq_self.2 (fun y hy => by rw [ho y (by simp [hy])]; rfl)
  rw [List.filter_append, List.filter_cons, hp, hq]
  simp [hasK]
theorem sent_of {l : List Ef} (h : rightE l = true) {i : Nat} (hi : i < l.length) (now : Int) : sentOf l l[i].key now = l.set i (bumpE now l[i]) := by
  have ho := right_once h hi
  rw [List.set_eq_take_append_cons_drop, if_pos hi]
  have e : l = l.take i ++ l[i] :: l.drop (i + 1) := by rw [← List.drop_eq_getElem_cons hi, List.take_append_drop]
  unfold sentOf
  generalize l[i] = x at *
  generalize l.take i = p at *
  generalize l.drop (i + 1) = q at *
  subst e
  rw [List.map_append, List.map_cons]
  have hm : ∀ t : List Ef, (∀ y ∈ t, hasK y x.key = false) → (t.map fun e => if hasK e x.key then bumpE now e else e) = t := fun t ht => by
    rw [List.map_congr_left (g := id) (fun y hy => by rw [ht y hy]; rfl), List.map_id]
  rw [hm p (fun y hy => ho y (by simp [hy])), hm q (fun y hy => ho y (by simp [hy]))]
  simp [hasK]
/-- What is added and settled leaves the rest as it was. -/
theorem rest_add {l : List Ef} {e : Ef} (h : rightE (l ++ [e]) = true) : restOf (l ++ [e]) e.key = l := by
  have hi : l.length < (l ++ [e]).length := by simp
  have := rest_of h hi
  have he : (l ++ [e])[l.length] = e := by simp
  rw [he] at this
  rw [this]
  simp
theorem find_add {l : List Ef} {e : Ef} (h : rightE (l ++ [e]) = true) : findE (l ++ [e]) e.key = some e := by
  have hi : l.length < (l ++ [e]).length := by simp
  have := find_of h hi
  have he : (l ++ [e])[l.length] = e := by simp
  rwa [he] at this
/-- What is sent changes nobody else's. -/
theorem sent_add {l : List Ef} {e : Ef} (h : rightE (l ++ [e]) = true) (now : Int) : sentOf (l ++ [e]) e.key now = l ++ [bumpE now e] := by
  have hi : l.length < (l ++ [e]).length := by simp
  have := sent_of h hi now
  have he : (l ++ [e])[l.length] = e := by simp
  rw [he] at this
  rw [this]
  simp

/-- One's bytes. -/
def effL (e : Ef) : List Nat := numL e.key.toNat ++ (numL e.kind.toNat ++ (numL e.tries.toNat ++ (numL e.due.toNat ++ (numL e.batch.toNat ++ textL e.order))))
def effsL (l : List Ef) : List Nat := (l.map effL).flatten
def boxL (l : List Ef) : List Nat := numL l.length ++ effsL l
def effS (s : Sc) : Ef × Sc :=
  let k := numS 1000000000000 s
  let d := numS 7 k.2
  let t := numS 1000000 d.2
  let f := numS 1099511627776 t.2
  let b := numS 1000000000000 f.2
  let o := textS 32 b.2
  (⟨(k.1 : Int), (b.1 : Int), (f.1 : Int), (d.1 : Int), (t.1 : Int), strB o.1⟩, o.2)
def effsS : Nat → Sc → List Ef × Sc
  | 0, s => ([], s)
  | n + 1, s => ((effS s).1 :: (effsS n (effS s).2).1, (effsS n (effS s).2).2)
def boxS (s : Sc) : List Ef × Sc := effsS (numS 1048576 s).1 (numS 1048576 s).2
/-- The outbox that stands next; none, if there is none. -/
def boxO (s : Sc) : Option (List Ef) := if (boxS s).2.isSome && rightE (boxS s).1 then some (boxS s).1 else none
def boxV (s : Sc) : List Ef := (boxO s).getD []

theorem effsL_cons (e : Ef) (l : List Ef) : effsL (e :: l) = effL e ++ effsL l := by simp [effsL]
theorem effsL_drop {l : List Ef} {k : Nat} (h : k < l.length) : effsL (l.drop k) = effL l[k] ++ effsL (l.drop (k + 1)) := by rw [List.drop_eq_getElem_cons h, effsL_cons]
theorem effL_bytes (e : Ef) : Bytes (effL e) := by
  unfold effL
  repeat' (first | exact textL_bytes _ | exact numL_bytes _ | apply bytes_app)
theorem effsL_bytes : ∀ (l : List Ef), Bytes (effsL l)
  | [] => fun b hb => by simp [effsL] at hb
  | e :: l => by rw [effsL_cons]; exact bytes_app (effL_bytes e) (effsL_bytes l)
theorem boxL_bytes (l : List Ef) : Bytes (boxL l) := bytes_app (numL_bytes _) (effsL_bytes l)
theorem effS_put {e : Ef} (h : oneB e = true) (r : List Nat) : effS (some (effL e ++ r)) = (e, some r) := by
  obtain ⟨r1, r2, r3, r4, r5, r6⟩ := oneB_of h
  unfold effS effL
  simp only [List.append_assoc]
  rw [numS_put (by omega)]
  simp only
  rw [numS_put (by omega)]
  simp only
  rw [numS_put (by omega)]
  simp only
  rw [numS_put (by omega)]
  simp only
  rw [numS_put (by omega)]
  simp only
  rw [textS_put r6]
  simp only [strB_strL]
  rw [Int.toNat_of_nonneg (by omega), Int.toNat_of_nonneg (by omega), Int.toNat_of_nonneg (by omega), Int.toNat_of_nonneg (by omega), Int.toNat_of_nonneg (by omega)]
theorem effsS_put : ∀ (l : List Ef) (_ : ∀ e ∈ l, oneB e = true) (r : List Nat), effsS l.length (some (effsL l ++ r)) = (l, some r)
  | [], _, r => by simp [effsS, effsL]
  | e :: l, h, r => by
    rw [effsL_cons, List.append_assoc, List.length_cons, effsS, effS_put (h e (by simp))]
    simp only
    rw [effsS_put l (fun y hy => h y (by simp [hy]))]
theorem boxS_put {l : List Ef} (h : rightE l = true) (hl : l.length ≤ 1048576) (r : List Nat) : boxS (some (boxL l ++ r)) = (l, some r) := by
  unfold boxS boxL
  rw [List.append_assoc, numS_put hl]
  exact effsS_put l ((rightE_iff l).1 h).1 r
theorem boxO_put {l : List Ef} (h : rightE l = true) (hl : l.length ≤ 1048576) (r : List Nat) : boxO (some (boxL l ++ r)) = some l := by
  unfold boxO
  rw [boxS_put h hl]
  simp [h]
theorem effS_bytes {s : Sc} (h : BytesS s) : BytesS (effS s).2 := (textS_bytes (numS_bytes (numS_bytes (numS_bytes (numS_bytes (numS_bytes h _) _) _) _) _) 32).1
theorem effS_back {s : Sc} (h : BytesS s) {r : List Nat} (e : (effS s).2 = some r) : s = some (effL (effS s).1 ++ r) := by
  unfold effS at e ⊢
  simp only at e ⊢
  have b1 := numS_bytes h 1000000000000
  generalize hi : numS 1000000000000 s = i at *
  have b2 := numS_bytes b1 7
  generalize hk : numS 7 i.2 = k at *
  have b3 := numS_bytes b2 1000000
  generalize hp : numS 1000000 k.2 = p at *
  have b4 := numS_bytes b3 1099511627776
  generalize ht : numS 1099511627776 p.2 = t at *
  have b5 := numS_bytes b4 1000000000000
  generalize hf : numS 1000000000000 t.2 = f at *
  have e6 := textS_back b5 (m := 32) e
  generalize textS 32 f.2 = g at *
  have e5 := numS_back b4 (m := 1000000000000) (by rw [hf]; exact e6)
  rw [hf] at e5
  have e4 := numS_back b3 (m := 1099511627776) (by rw [ht]; exact e5)
  rw [ht] at e4
  have e3 := numS_back b2 (m := 1000000) (by rw [hp]; exact e4)
  rw [hp] at e3
  have e2 := numS_back b1 (m := 7) (by rw [hk]; exact e3)
  rw [hk] at e2
  have e1 := numS_back h (m := 1000000000000) (by rw [hi]; exact e2)
  rw [hi] at e1
  unfold effL
  simp only [Int.toNat_natCast, List.append_assoc]
  exact e1
theorem effsS_len : ∀ (n : Nat) (s : Sc), (effsS n s).1.length = n
  | 0, _ => rfl
  | n + 1, s => by rw [effsS]; simp [effsS_len n]
theorem effsS_bytes : ∀ (n : Nat) {s : Sc} (_ : BytesS s), BytesS (effsS n s).2
  | 0, _, h => h
  | n + 1, _, h => effsS_bytes n (effS_bytes h)
theorem effsS_back : ∀ (n : Nat) {s : Sc} (_ : BytesS s) {r : List Nat} (_ : (effsS n s).2 = some r), s = some (effsL (effsS n s).1 ++ r)
  | 0, s, _, r, e => by simpa [effsS, effsL] using e
  | n + 1, s, h, r, e => by
    rw [effsS] at e ⊢
    simp only at e ⊢
    have e2 := effsS_back n (effS_bytes h) e
    have e1 := effS_back h e2
    rw [effsL_cons, List.append_assoc]
    exact e1
theorem boxS_back {s : Sc} (h : BytesS s) {r : List Nat} (e : (boxS s).2 = some r) : s = some (boxL (boxS s).1 ++ r) := by
  unfold boxS at e ⊢
  have b1 := numS_bytes h 1048576
  have e1 := effsS_back _ b1 e
  have e2 := numS_back h (m := 1048576) e1
  unfold boxL
  rw [effsS_len, List.append_assoc]
  exact e2
theorem boxO_some {s : Sc} {l : List Ef} (h : boxO s = some l) : ∃ r, boxS s = (l, some r) ∧ rightE l = true := by
  unfold boxO at h
  split at h
  · rename_i h1
    simp only [Bool.and_eq_true] at h1
    obtain ⟨r, hr⟩ := Option.isSome_iff_exists.1 h1.1
    cases h
    exact ⟨r, by rw [← hr], h1.2⟩
  · cases h
theorem boxS_le {s : Sc} (h : BytesS s) : (boxS s).1.length ≤ 1048576 := by
  unfold boxS
  rw [effsS_len]
  exact numS_le _ _ h
/-- An outbox's bytes, cut off, are none. -/
theorem boxO_cut {l : List Ef} (h : rightE l = true) (hl : l.length ≤ 1048576) {n : Nat} (hn : n < (boxL l).length) : boxO (some ((boxL l).take n)) = none := by
  cases e : boxO (some ((boxL l).take n)) with
  | none => rfl
  | some x =>
    exfalso
    obtain ⟨r, h1, h2⟩ := boxO_some e
    have hb : BytesS (some ((boxL l).take n)) := fun b' hb => by cases hb; exact fun y hy => boxL_bytes l y (List.mem_of_mem_take hy)
    have e1 := boxS_back hb (r := r) (by rw [h1])
    have hx := boxS_le hb
    rw [h1] at e1 hx
    injection e1 with e1
    have e2 : boxL l = boxL x ++ (r ++ (boxL l).drop n) := by rw [← List.append_assoc, ← e1, List.take_append_drop]
    have e3 := boxS_put h2 hx (r ++ (boxL l).drop n)
    rw [← e2] at e3
    have e4 := boxS_put h hl []
    rw [List.append_nil, e3] at e4
    have e5 := congrArg Prod.snd e4
    simp at e5
    omega
/-- Once nothing can be read, nothing is. -/
theorem effS_none : (effS none).2 = none := by
  unfold effS
  simp only [numS_none, textS_none]
theorem effsS_none : ∀ (n : Nat), (effsS n none).2 = none
  | 0 => rfl
  | n + 1 => by rw [effsS]; simp only [effS_none]; exact effsS_none n
end

/- ObLay: Effects as values: how they lie, whole loads and stores told at once, when two are the same. -/
section
set_option maxRecDepth 100000
open Go.RowKit Go.ChangeShapes Go.WideShapes Go.ChangeAt

def efL (e : Ef) : List Value := [.int .i64 e.key, .int .i64 e.batch, .int .i64 e.due, .int .i64 e.kind, .int .i64 e.tries, .string e.order]
def efC (e : Ef) : Array Value := #[.int .i64 e.key, .int .i64 e.batch, .int .i64 e.due, .int .i64 e.kind, .int .i64 e.tries, .string e.order]
def efV (e : Ef) : Value := .agg (efC e)
theorem efL_arr (e : Ef) : (efL e).toArray = efC e := rfl
def LE : Lay Ef := ⟨efL, 6, 55, 27, efV noEf, 56⟩
theorem LE_ok : LE.Ok where
  len := fun _ => rfl
  one := fun x v h => by
    simp only [LE, efL, List.mem_cons, List.not_mem_nil, or_false] at h
    rcases h with rfl | rfl | rfl | rfl | rfl | rfl <;> rfl
  und := Try.underlying27
  info := by kernel_rfl
  zs := rfl
  pos := by decide
  few := by decide
  agg := fun W => by show (isAgg 55).run Try.prog W = _; kernel_rfl

section
variable (ev : Operand → Value) (d : Option Tmp) (ty : TypeId) (pos : String) (af : Array Edge) (gd : Option (Nat × Bool)) (w : World)
theorem ldEf (x : Operand) : (execOp ev ⟨d, .load 55 x, ty, pos, af, gd⟩).run Try.prog w = LdX 55 (ev x) w := rfl
theorem stEf (x y : Operand) : (execOp ev ⟨d, .store 55 x y, ty, pos, af, gd⟩).run Try.prog w = StX 55 (ev x) (ev y) w := rfl
theorem alEf : (execOp ev ⟨d, .alloc 55, ty, pos, af, gd⟩).run Try.prog w = AlX 55 w := rfl
theorem bxEf (x : Operand) : (execOp ev ⟨d, .box 55 x, ty, pos, af, gd⟩).run Try.prog w = BxX 55 (ev x) w := rfl
theorem eqEf (op : BinOp) (x y : Operand) (z : TypeId) : (execOp ev ⟨d, .binOp op 55 x y z, ty, pos, af, gd⟩).run Try.prog w = EqX op 55 x y (ev x) (ev y) w := rfl
theorem bdEf (ps : Array (Nat × Operand)) : (execOp ev ⟨d, .build 55 ps, ty, pos, af, gd⟩).run Try.prog w = BdX 55 (ps.map fun (i, x) => (i, ev x)) w := rfl
theorem bsEf (n : Nat) (ps : Array (Nat × Operand)) : (execOp ev ⟨d, .buildSlice 27 n ps, ty, pos, af, gd⟩).run Try.prog w = BsX 27 n (ps.map fun (i, x) => (i, ev x)) w := rfl
theorem bd_ef : BdX 55 #[] w = .ok (.value (efV noEf)) w := by kernel_rfl
theorem bs_ef (e : Ef) : BsX 27 1 #[(0, efV e)] w = .ok (.value (.slice (some ⟨w.heap.size, 0, none⟩) 1 1)) (w.alloc (.cells (efC e) 55)) := by kernel_rfl
theorem bs_ef0 : BsX 27 0 #[] w = .ok (.value (.slice (some ⟨w.heap.size, 0, none⟩) 0 0)) (w.alloc (.cells #[] 55)) := by kernel_rfl
theorem zeroEf (W : World) : (zeroValue 55).run Try.prog W = .ok (.agg (efC noEf)) W := by kernel_rfl
theorem al_ef : AlX 55 w = .ok (.value (.pointer (some ⟨w.heap.size, 0, none⟩))) (w.alloc (.cells (efC noEf) 55)) := al_any _ _ w zeroEf
theorem bx_ef (e : Ef) : BxX 55 (efV e) w = .ok (.value (.pointer (some ⟨w.heap.size, 0, none⟩))) (w.alloc (.cells (efC e) 55)) := bx_any _ _ w
theorem guardEf : Try.prog.eqGuardType Try.prog.depth 55 = false := by kernel_rfl
theorem fieldsEf : Try.prog.underlying 55 = some (.struct (Try.prog.fieldsOf 55)) := by kernel_rfl
end

theorem size6 (e : Ef) : (Try.prog.info? 55).map (·.size) = some (efC e).size := by
  show _ = some 6
  kernel_rfl
theorem load6 {W : World} {g : Nat} {e : Ef} (h : Row W g 55 (efC e)) : (loadVar 55 ⟨g, 0, none⟩).run Try.prog W = .ok (.agg (efC e)) W :=
  run_loadVar_row (P := Try.prog) W g 55 55 _ (0, 0) _ h Try.underlying55 rfl (size6 e)
theorem row_set {W : World} {g : Nat} {o : Ef} (h : Row W g 55 (efC o)) (e : Ef) : Row (W.setRow g (efC e)) g 55 (efC e) := setRow_heap _ _ _ _ _ _ h
theorem ld_row {W : World} {g : Nat} {e : Ef} (h : Row W g 55 (efC e)) : LdX 55 (.pointer (some ⟨g, 0, none⟩)) W = .ok (.value (efV e)) W := by
  have := run_loadVar_row (P := Try.prog) W g 55 55 _ (0, 0) _ h Try.underlying55 rfl (size6 e)
  simp only [LdX, Instr.loadAt, Instr.sureAddr, Sem.run_bind, Sem.run_pure, Result.andThen_ok, this]
  rfl
theorem st_row {W : World} {g : Nat} {o : Ef} (h : Row W g 55 (efC o)) (e : Ef) : StX 55 (.pointer (some ⟨g, 0, none⟩)) (efV e) W = .ok .skip (W.setRow g (efC e)) := by
  have := run_storeVar_row (P := Try.prog) W g 55 55 (efC o) (efC e) h (size6 e) rfl (by simp [efC, Value.oneCell'])
  simp only [StX, Instr.storeAt, Instr.sureAddr, Sem.run_bind, Sem.run_pure, Result.andThen_ok, efV]
  rw [this]
  rfl

theorem st_new (W : World) (e : Ef) : StX 55 (.pointer (some ⟨W.heap.size, 0, none⟩)) (efV e) (W.alloc (.cells (efC noEf) 55)) = .ok .skip (W.alloc (.cells (efC e) 55)) := by
  rw [st_row (Row.new W (efC noEf) 55) e, alloc_setRow]

/-- Whether two are the same. -/
def eqB (x y : Ef) : Bool := x.key == y.key && (x.batch == y.batch && (x.due == y.due && (x.kind == y.kind && (x.tries == y.tries && x.order.toList == y.order.toList))))
theorem eqB_iff (x y : Ef) : eqB x y = true ↔ x = y := by
  obtain ⟨a1, a2, a3, a4, a5, a6⟩ := x
  obtain ⟨b1, b2, b3, b4, b5, b6⟩ := y
  simp only [eqB, Bool.and_eq_true, toList_iff]
  simp only [beq_iff_eq, Ef.mk.injEq]
theorem eqB_refl (x : Ef) : eqB x x = true := (eqB_iff x x).2 rfl
end

/- ObArgs0: What came in as an effect, as effects. -/
section
set_option maxRecDepth 100000
open Go.ChangeShapes Go.WideShapes Go.ChangeAt Go.RowKit

theorem cellsEf : Try.prog.cellsOf 55 = 6 := by kernel_rfl
theorem effect_cells {H : Type} {enc : TypeId × Value → H} {W : World} {base : Nat} {spare : Nat → Bool} {held : Bool} {n : Nat} {cs : List Value} {x : DataW H × List MemPlace}
    (h : DataW.trod enc Try.prog W base spare held n 55 cs = some x) : ∃ y : Ef, cs = efL y ∧ y.order.size ≤ maxLen := by
  obtain ⟨xs, m, _, _, hlen, hxl, hf⟩ := DataW.trod_struct Try.underlying55 h
  rw [cellsEf] at hlen
  match cs, hlen with
  | [c0, c1, c2, c3, c4, c5], _ =>
    have hx : xs.length = 6 := hxl
    match xs, hx with
    | [x0, x1, x2, x3, x4, x5], _ =>
      have h0 := hf 0 _ rfl
      have h1 := hf 1 _ rfl
      have h2 := hf 2 _ rfl
      have h3 := hf 3 _ rfl
      have h4 := hf 4 _ rfl
      have h5 := hf 5 _ rfl
      simp only [List.getElem?_cons_zero, List.getElem?_cons_succ] at h0 h1 h2 h3 h4 h5
      obtain ⟨q0, e0, _, _⟩ := DataW.trod_int Try.underlying2 h0
      obtain ⟨q1, e1, _, _⟩ := DataW.trod_int Try.underlying2 h1
      obtain ⟨q2, e2, _, _⟩ := DataW.trod_int Try.underlying2 h2
      obtain ⟨q3, e3, _, _⟩ := DataW.trod_int Try.underlying3 h3
      obtain ⟨q4, e4, _, _⟩ := DataW.trod_int Try.underlying3 h4
      obtain ⟨s, e5, _, hs⟩ := DataW.trod_string Try.underlying9 h5
      injection e0 with e0
      injection e1 with e1
      injection e2 with e2
      injection e3 with e3
      injection e4 with e4
      injection e5 with e5
      exact ⟨⟨q0, q1, q2, q3, q4, s⟩, by rw [e0, e1, e2, e3, e4, e5]; rfl, hs⟩
theorem effect_of_trod {H : Type} {enc : TypeId × Value → H} {W : World} {base : Nat} {v : Value} {d : DataW H} {p : List MemPlace}
    (hv : Value.okWide Try.prog W .any base 55 v) (h : DataW.Trod enc Try.prog W 0 (fun _ => true) true 55 v d p) : ∃ e, v = efV e ∧ e.order.size ≤ maxLen := by
  obtain ⟨cs, rfl, hsz⟩ := okWide_struct Try.underlying55 hv
  obtain ⟨fuel, hf⟩ := h
  obtain ⟨y, e, hs⟩ := effect_cells hf
  refine ⟨y, ?_, hs⟩
  simp only [Value.cells] at e
  obtain ⟨l⟩ := cs
  simp only at e
  subst e
  rfl
theorem effs_of_trod {H : Type} {enc : TypeId × Value → H} {W : World} {base : Nat} {v : Value} {d : DataW H} {p : List MemPlace}
    (hv : Value.okWide Try.prog W .any base 27 v) (h : DataW.Trod enc Try.prog W 0 (fun _ => true) true 27 v d p) : ∃ a cap l, v = .slice a (List.length l) cap ∧ SlP LE W a cap l ∧ ∀ y ∈ l, y.order.size ≤ maxLen := by
  obtain ⟨a, cap, l, e, hS, _, hP⟩ := sl_of_trod (L := LE) LE_ok cellsEf (P := fun y => y.order.size ≤ maxLen) (fun h => effect_cells h) hv h
  exact ⟨a, cap, l, e, hS, hP⟩
end

/- ObLeaf: What the small functions of package outbox answer: whether an effect can be, how long one waits; the document's. -/
section
set_option maxRecDepth 100000
open Go.RowKit Go.ChangeShapes Go.WideShapes Go.ChangeAt
attribute [local go_sem ↓] ldEf stEf alEf bxEf eqEf
attribute [local go_sem] al_ef bx_ef

set_option maxHeartbeats 1000000 in
theorem obTick_any (n : Int) (w : World) : Calls Try.prog 28 #[.int .i64 n] w (BoolSame (tickB n) w) := by
  have HE := Lib.hid (show tickB n = (decide (0 ≤ n) && decide (n ≤ 1099511627776)) by rw [Bool.eq_iff_iff]; simp [tickB])
  cases h1 : decide (0 ≤ n) <;> cases h2 : decide (n ≤ 1099511627776)
  all_goals
    rw [h1, h2] at HE
    go_enter Try.func28, Try.ntmps28
    go_wp2_with fail
    go_ret
    exact ⟨by rw [HE.out]; rfl, rfl⟩
set_option maxHeartbeats 1000000 in
theorem obRefTick_any (n : Int) (w : World) : Calls Try.prog 36 #[.int .i64 n] w (BoolSame (tickB n) w) := by
  have HE := Lib.hid (show tickB n = (decide (0 ≤ n) && decide (n ≤ 1099511627776)) by rw [Bool.eq_iff_iff]; simp [tickB])
  cases h1 : decide (0 ≤ n) <;> cases h2 : decide (n ≤ 1099511627776)
  all_goals
    rw [h1, h2] at HE
    go_enter Try.func36, Try.ntmps36
    go_wp2_with fail
    go_ret
    exact ⟨by rw [HE.out]; rfl, rfl⟩
set_option maxHeartbeats 1000000 in
theorem obAbove_any (n : Int) (w : World) : Calls Try.prog 129 #[.int .i64 n] w (BoolSame (aboveB n) w) := by
  have HE := Lib.hid (show aboveB n = (decide (0 < n) && tallyB n) by rw [Bool.eq_iff_iff]; simp [aboveB, tallyB]; omega)
  have C := Lib.hid (fun w => tally_any n w)
  generalize tallyB n = t at *
  cases h1 : decide (0 < n)
  · rw [h1] at HE
    go_enter Try.func129, Try.ntmps129
    go_wp2_with fail
    go_ret
    exact ⟨by rw [HE.out]; rfl, rfl⟩
  · rw [h1] at HE
    go_enter Try.func129, Try.ntmps129
    go_wp2_with fail
    refine (C.out _).mono ?_
    rintro e w' ⟨rfl, rfl⟩
    go_wp2_with fail
    go_ret
    exact ⟨by rw [HE.out]; rfl, rfl⟩

theorem Row.c {W : World} {g : Nat} {e : Ef} (h : Row W g 55 (efC e)) : W.cell? ⟨g, 0, none⟩ = some (.int .i64 e.key) ∧ W.cell? ⟨g, 1, none⟩ = some (.int .i64 e.batch) ∧ W.cell? ⟨g, 2, none⟩ = some (.int .i64 e.due) ∧ W.cell? ⟨g, 3, none⟩ = some (.int .i64 e.kind) ∧ W.cell? ⟨g, 4, none⟩ = some (.int .i64 e.tries) ∧ W.cell? ⟨g, 5, none⟩ = some (.string e.order) :=
  ⟨h.cell 0, h.cell 1, h.cell 2, h.cell 3, h.cell 4, h.cell 5⟩
theorem Row.f {W : World} {g : Nat} {e : Ef} (h : Row W g 55 (efC e)) : W.frozen? ⟨g, 0, none⟩ = false ∧ W.frozen? ⟨g, 1, none⟩ = false ∧ W.frozen? ⟨g, 2, none⟩ = false ∧ W.frozen? ⟨g, 3, none⟩ = false ∧ W.frozen? ⟨g, 4, none⟩ = false ∧ W.frozen? ⟨g, 5, none⟩ = false :=
  ⟨h.free 0, h.free 1, h.free 2, h.free 3, h.free 4, h.free 5⟩

theorem emptyT_test (s : ByteArray) : s.toList.isEmpty = emptyT s := by
  unfold emptyT
  cases s.toList <;> rfl
theorem kinds_of (n : Int) : bothB n = ((n == 3) || (n == 4)) ∧ soleB n = ((n == 1) || ((n == 2) || ((n == 5) || ((n == 6) || (n == 7))))) := by
  constructor
  · rw [Bool.eq_iff_iff]; simp [bothB]
  · rw [Bool.eq_iff_iff]; simp [soleB]
theorem ofB_both {e : Ef} (h : bothB e.kind = true) : ofB e = (aboveB e.batch && emptyT e.order) := by simp [ofB, h]
theorem ofB_sole {e : Ef} (h1 : bothB e.kind = false) (h : soleB e.kind = true) : ofB e = ((e.batch == 0) && rightT e.order) := by
  simp only [ofB, h1, h, if_true, Bool.false_eq_true, if_false]
  congr 1
theorem ofB_none {e : Ef} (h1 : bothB e.kind = false) (h : soleB e.kind = false) : ofB e = false := by simp [ofB, h1, h]

/-- Whether it is for a batch alone, or for an order alone. -/
theorem forOne_any (e : Ef) (w : World) (hs : e.order.size ≤ maxLen) : Calls Try.prog 130 #[efV e] w (Tell (ofB e) w) := by
  have C1 := Lib.hid (fun w => obAbove_any e.batch w)
  have C2 := Lib.hid (fun w => right_any e.order w hs)
  have B := Lib.hid ((Below.refl w.heap.size w).alloc (Nat.le_refl _) (Obj.cells (efC e) 55))
  have D : Row (w.alloc (.cells (efC e) 55)) w.heap.size 55 (efC e) := Row.new _ _ _
  have H1 := Lib.hid (ofB_both (e := e))
  have H2 := Lib.hid (ofB_sole (e := e))
  have H3 := Lib.hid (ofB_none (e := e))
  have ET := emptyT_test e.order
  unfold rightT at H2
  obtain ⟨c0, c1, c2, c3, c4, c5⟩ := D.c
  clear D c0 c2 c4
  by_cases hb : bothB e.kind = true
  · have HO := Lib.hid (H1.out hb)
    have hk : e.kind = 3 ∨ e.kind = 4 := by simpa [bothB] using hb
    clear H1 H2 H3 hb
    rcases hk with hk | hk
    all_goals
      rw [hk] at c3
      clear hk
      go_enter Try.func130, Try.ntmps130
      go_wp2_with fail
      refine (C1.out _).mono ?_
      rintro x w1 ⟨rfl, rfl⟩
      cases h1 : aboveB e.batch with
      | false =>
        rw [h1] at HO
        go_wp2_with fail
        go_ret
        exact ⟨by rw [HO.out]; rfl, B.out⟩
      | true =>
        rw [h1] at HO
        go_wp2_with fail
        go_ret
        exact ⟨by rw [HO.out, ← ET]; rfl, B.out⟩
  · have hb : bothB e.kind = false := by simpa using hb
    by_cases hs : soleB e.kind = true
    · have HO := Lib.hid (H2.out hb hs)
      have hk : e.kind = 1 ∨ e.kind = 2 ∨ e.kind = 5 ∨ e.kind = 6 ∨ e.kind = 7 := by simpa [soleB] using hs
      clear H1 H2 H3 hb hs
      rcases hk with hk | hk | hk | hk | hk
      all_goals
        rw [hk] at c3
        clear hk
        cases h1 : (e.batch == 0) with
        | false =>
          rw [h1] at HO
          go_enter Try.func130, Try.ntmps130
          go_wp2_with fail
          go_ret
          exact ⟨by rw [HO.out]; rfl, B.out⟩
        | true =>
          rw [h1] at HO
          go_enter Try.func130, Try.ntmps130
          go_wp2_with fail
          refine (C2.out _).mono ?_
          rintro x w1 ⟨rfl, b1⟩
          go_wp2_with fail
          go_ret
          exact ⟨by rw [HO.out]; rfl, B.out.trans (b1.mono B.out.size)⟩
    · have hs : soleB e.kind = false := by simpa using hs
      have HO := Lib.hid (H3.out hb hs)
      clear H1 H2 H3
      obtain ⟨kb, ks⟩ := kinds_of e.kind
      rw [kb] at hb
      rw [ks] at hs
      simp only [Bool.or_eq_false_iff] at hb hs
      obtain ⟨k3, k4⟩ := hb
      obtain ⟨k1, k2, k5, k6, k7⟩ := hs
      clear kb ks
      go_enter Try.func130, Try.ntmps130
      go_wp2_with fail
      go_ret
      exact ⟨by rw [HO.out]; rfl, B.out⟩

theorem one_all (e : Ef) : oneB e = (aboveB e.key && (tickB e.due && (decide (0 ≤ e.tries) && (decide (e.tries ≤ 1000000) && ofB e)))) := by
  have : triesB e.tries = (decide (0 ≤ e.tries) && decide (e.tries ≤ 1000000)) := by rw [Bool.eq_iff_iff]; simp [triesB]
  rw [oneB, this, Bool.and_assoc]

/-- Whether it can be. -/
theorem one_any (e : Ef) (w : World) (hs : e.order.size ≤ maxLen) : Calls Try.prog 121 #[efV e] w (Tell (oneB e) w) := by
  have C1 := Lib.hid (fun w => obAbove_any e.key w)
  have C2 := Lib.hid (fun w => obTick_any e.due w)
  have C3 := Lib.hid (fun w => forOne_any e w hs)
  have B := Lib.hid ((Below.refl w.heap.size w).alloc (Nat.le_refl _) (Obj.cells (efC e) 55))
  have D : Row (w.alloc (.cells (efC e) 55)) w.heap.size 55 (efC e) := Row.new _ _ _
  have HE := Lib.hid (one_all e)
  obtain ⟨c0, c1, c2, c3, c4, c5⟩ := D.c
  have ld := ld_row D
  clear D c1 c3 c5
  go_enter Try.func121, Try.ntmps121
  go_wp2_with fail
  generalize w.alloc (Obj.cells (efC e) 55) = W at *
  refine (C1.out _).mono ?_
  rintro x w1 ⟨rfl, rfl⟩
  cases h1 : aboveB e.key with
  | false =>
    go_wp2_with fail
    go_ret
    exact ⟨by rw [HE.out, h1]; rfl, B.out⟩
  | true =>
    go_wp2_with fail
    refine (C2.out _).mono ?_
    rintro x w1 ⟨rfl, rfl⟩
    cases h2 : tickB e.due with
    | false =>
      go_wp2_with fail
      go_ret
      exact ⟨by rw [HE.out, h1, h2]; rfl, B.out⟩
    | true =>
      cases h3 : decide (0 ≤ e.tries) with
      | false =>
        go_wp2_with fail
        go_ret
        exact ⟨by rw [HE.out, h1, h2, h3]; rfl, B.out⟩
      | true =>
        cases h4 : decide (e.tries ≤ 1000000) with
        | false =>
          go_wp2_with fail
          go_ret
          exact ⟨by rw [HE.out, h1, h2, h3, h4]; rfl, B.out⟩
        | true =>
          go_wp2_with fail
          refine (C3.out _).mono ?_
          rintro x w1 ⟨rfl, b1⟩
          go_wp2_with fail
          go_ret
          exact ⟨by rw [HE.out, h1, h2, h3, h4]; rfl, B.out.trans (b1.mono B.out.size)⟩

def cmpI (a b : Int) : Int := if a < b then -1 else if b < a then 1 else 0
end

/- ObFind: Where the effect of a key stands: what BinarySearchFunc of package slices answers, and place of package outbox. -/
section
set_option maxRecDepth 100000
open Go.RowKit Go.ChangeShapes Go.WideShapes Go.ChangeAt
attribute [local go_sem ↓] ldEf stEf alEf bxEf eqEf
attribute [local go_sem] al_ef bx_ef

/-- The one at a place: its cells, and whole. -/
theorem SlP.ef {w : World} {a : Option Addr} {cap : Nat} {l : List Ef} (h : SlP LE w a cap l) (j : Nat) (hj : j < l.length) :
    ∃ b o, a = some ⟨b, o, none⟩ ∧ b < w.heap.size ∧ LdX 55 (.pointer (some ⟨b, o + j * 6, none⟩)) w = .ok (.value (efV l[j])) w ∧ w.cell? ⟨b, o + j * 6, none⟩ = some (.int .i64 l[j].key) ∧ w.cell? ⟨b, o + j * 6 + 2, none⟩ = some (.int .i64 l[j].due) ∧ w.cell? ⟨b, o + j * 6 + 4, none⟩ = some (.int .i64 l[j].tries) := by
  obtain ⟨b, o, e, hb, hc, hl⟩ := h.at LE_ok j hj
  exact ⟨b, o, e, hb, hl, hc 0 _ rfl, hc 2 _ rfl, hc 4 _ rfl⟩

/-- So many have a lower key, from the first one on. -/
def posE : List Ef → Int → Nat
  | [], _ => 0
  | e :: r, key => if e.key < key then posE r key + 1 else 0
theorem posE_le : ∀ (l : List Ef) (key : Int), posE l key ≤ l.length
  | [], _ => Nat.le_refl _
  | e :: r, key => by
    have := posE_le r key
    rw [posE]
    split
    · simp; omega
    · simp
def risesE (l : List Ef) : Prop := (l.map (·.key)).Pairwise (· < ·)
theorem rises_of {l : List Ef} (h : rightE l = true) : risesE l := ((rightE_iff l).1 h).2
theorem posE_iff : ∀ (l : List Ef) (key : Int) (_ : risesE l) (m : Nat) (hm : m < l.length), l[m].key < key ↔ m < posE l key
  | [], _, _, m, hm => by simp at hm
  | e :: r, key, h, m, hm => by
    unfold risesE at h
    rw [List.map_cons, List.pairwise_cons] at h
    rw [posE]
    cases m with
    | zero =>
      simp only [List.getElem_cons_zero]
      split <;> simp [*]
    | succ m =>
      have hm' : m < r.length := by simpa using hm
      have ih := posE_iff r key h.2 m hm'
      simp only [List.getElem_cons_succ]
      have hlt := h.1 r[m].key (List.mem_map.2 ⟨_, List.getElem_mem hm', rfl⟩)
      split
      · rw [ih]; omega
      · constructor
        · intro h; omega
        · intro h; omega
theorem find_pos {l : List Ef} {key : Int} (h : risesE l) : (findE l key).isSome = decide (∃ hp : posE l key < l.length, l[posE l key].key = key) := by
  rw [Bool.eq_iff_iff, decide_eq_true_eq]
  constructor
  · intro hs
    obtain ⟨e, he⟩ := Option.isSome_iff_exists.1 hs
    obtain ⟨hm, hk⟩ := find_mem he
    obtain ⟨i, hi, rfl⟩ := List.mem_iff_getElem.1 hm
    have h1 := posE_iff l key h i hi
    have hip : ¬ i < posE l key := fun hc => by have := h1.2 hc; omega
    have hle : posE l key ≤ i := by omega
    have hp : posE l key < l.length := by omega
    refine ⟨hp, ?_⟩
    have h2 := posE_iff l key h _ hp
    have h3 : ¬ l[posE l key].key < key := fun hc => by have := h2.1 hc; omega
    rcases Nat.lt_or_ge (posE l key) i with hlt | hge
    · have := List.pairwise_iff_getElem.1 h (posE l key) i (by simpa using hp) (by simpa using hi) hlt
      simp only [List.getElem_map] at this
      omega
    · have : posE l key = i := by omega
      simp only [this]; exact hk
  · rintro ⟨hp, hk⟩
    cases e : findE l key with
    | some _ => rfl
    | none =>
      have := find_no e _ (List.getElem_mem hp)
      simp [hasK, hk] at this
theorem find_end {l : List Ef} {key : Int} (h : risesE l) (hp : ¬ posE l key < l.length) : (findE l key).isSome = false := by
  rw [find_pos h, decide_eq_false_iff_not]
  rintro ⟨hp', _⟩
  exact hp hp'
theorem find_cmp {l : List Ef} {key : Int} (h : risesE l) (hp : posE l key < l.length) : (findE l key).isSome = (cmpI l[posE l key].key key == 0) := by
  have h2 := posE_iff l key h _ hp
  have h3 : ¬ l[posE l key].key < key := fun hc => by have := h2.1 hc; omega
  rw [find_pos h, Bool.eq_iff_iff, decide_eq_true_eq, beq_iff_eq]
  unfold cmpI
  rw [if_neg h3]
  constructor
  · rintro ⟨_, hk⟩; rw [if_neg (by omega)]
  · intro hc
    refine ⟨hp, ?_⟩
    split at hc
    · cases hc
    · omega
theorem cmpI_neg (a b : Int) : cmpI a b < 0 ↔ a < b := by
  unfold cmpI
  split
  · simp [*]
  · split <;> simp [*]

end

/- ObRight: Whether an effect can stand behind others, and whether all can: package outbox. -/
section
set_option maxRecDepth 100000
open Go.RowKit Go.ChangeShapes Go.WideShapes Go.ChangeAt
attribute [local go_sem ↓] ldEf stEf alEf bxEf eqEf
attribute [local go_sem] al_ef bx_ef st_new

/-- It can be, and its key is above the last one's. -/
def followB (l : List Ef) (e : Ef) : Bool := oneB e && ((l.length == 0) || decide ((l.getLast?.map (·.key)).getD 0 < e.key))
theorem keyAt_last (l : List Ef) (h : l ≠ []) : (l.getLast?.map (·.key)).getD 0 = keyAt l l.length := by
  unfold keyAt
  cases l with
  | nil => exact absurd rfl h
  | cons x r => rw [if_neg (by simp), List.getLast?_eq_getElem?]
/-- So it stands behind what can be, just where all can be together. -/
theorem follow_add {l : List Ef} (h : rightE l = true) (e : Ef) : followB l e = rightE (l ++ [e]) := by
  rw [right_add, h, Bool.true_and]
  unfold followB
  cases hl : l with
  | nil =>
    simp only [List.length_nil, keyAt, if_pos]
    cases ho : oneB e with
    | false => simp
    | true =>
      have := (oneB_of ho).1
      simp; omega
  | cons x r =>
    rw [← hl, keyAt_last l (by simp [hl])]
    have : (l.length == 0) = false := by simp [hl]
    rw [this, Bool.false_or]
theorem follow_at {l : List Ef} {k : Nat} (h : k < l.length) : followB (l.take k) l[k] = (oneB l[k] && decide (keyAt l k < l[k].key)) := by
  unfold followB
  cases k with
  | zero =>
    simp only [List.take_zero, List.length_nil, keyAt, if_pos]
    cases ho : oneB l[0] with
    | false => simp
    | true =>
      have := (oneB_of ho).1
      simp; omega
  | succ k =>
    have hl : (l.take (k + 1)).length = k + 1 := by simp; omega
    rw [keyAt_last _ (by intro e; rw [e] at hl; simp at hl), hl]
    have e1 : ((k + 1 : Nat) == 0) = false := by simp
    rw [e1, Bool.false_or]
    have e2 : keyAt (l.take (k + 1)) (k + 1) = keyAt l (k + 1) := by
      unfold keyAt
      rw [if_neg (by omega), if_neg (by omega), List.getElem?_take, if_pos (by omega)]
    rw [e2]

set_option maxHeartbeats 4000000 in
/-- Whether e can be, and can stand behind l. -/
theorem follow_any (a : Option Addr) (cap : Nat) (l : List Ef) (e : Ef) (w : World) (h : SlP LE w a cap l) (hs : e.order.size ≤ maxLen) : Calls Try.prog 104 #[.slice a l.length cap, efV e] w (Tell (followB l e) w) := by
  have B := Lib.hid ((Below.refl w.heap.size w).alloc (Nat.le_refl _) (Obj.cells (efC e) 55))
  have D := Lib.hid (show Row (w.alloc (.cells (efC e) 55)) w.heap.size 55 (efC e) from Row.new _ _ _)
  have H := Lib.hid (h.below B.out)
  clear h
  have hc := H.out.cap
  go_enter Try.func104, Try.ntmps104
  go_wp2_with fail
  generalize w.alloc (Obj.cells (efC e) 55) = W at *
  have hg := D.out.lt
  have f1 : ∀ p : Far W, LdX 55 (.pointer (some ⟨w.heap.size, 0, none⟩)) (farOf W p) = .ok (.value (efV e)) (farOf W p) := fun p => ld_row (D.out.below (far_below W p))
  have f2 : ∀ p : Far W, (farOf W p).cell? ⟨w.heap.size, 0, none⟩ = some (.int .i64 e.key) := fun p => (D.out.below (far_below W p)).c.1
  have C := Lib.hid (fun p : Far W => one_any e (farOf W p) hs)
  have HB := Lib.hid (show followB l e = (oneB e && ((l.length == 0) || decide ((l.getLast?.map (·.key)).getD 0 < e.key))) from rfl)
  generalize followB l e = F at *
  generalize oneB e = O at *
  by_cases hl : 0 < l.length
  · obtain ⟨m, hm⟩ : ∃ m, l.length = m + 1 := ⟨l.length - 1, by omega⟩
    have hml : m < l.length := by omega
    obtain ⟨b, o, rfl, hb, _, k1, _⟩ := H.out.ef m hml
    have f3 : ∀ p : Far W, (farOf W p).cell? ⟨b, o + m * 6, none⟩ = some (.int .i64 l[m].key) := fun p => far_cell hb k1 p
    have HL : (l.getLast?.map (·.key)).getD 0 = l[m].key := by
      rw [List.getLast?_eq_getElem?, hm, Nat.add_sub_cancel, List.getElem?_eq_getElem hml]; rfl
    have hl0 : (l.length == 0) = false := by rw [hm]; rfl
    rw [HL, hl0, Bool.false_or] at HB
    generalize l[m].key = K at *
    have hl1 : ((m : Int) + 1 == 0) = false := by simp only [beq_eq_false_iff_ne]; omega
    have hlm := H.out.len
    unfold maxLen at hlm
    have hw : IntKind.i64.wrap (m : Int) = (m : Int) := by rw [IntKind.wrap_i64]; omega
    clear k1 HL hl0
    cases O <;> cases hk : decide (K < e.key)
    all_goals
      rw [hk] at HB
      refine wp_region_far (by kernel_rfl) (by kernel_rfl) ?_
      repeat (first | go_big_quiet_step (first | (go_at_call 121; exact calls_far (C.out _))) | quiet_step (first | (go_at_call 121; exact calls_far (C.out _))))
      refine wpQuiet_nil ?_
      intro _ hw'
      obtain ⟨p, hw''⟩ := hw'
      subst hw''
      have B4 := Lib.hid (B.out.trans ((far_below W p).mono B.out.size))
      go_wp2_with fail
      go_ret
      exact ⟨by rw [HB.out]; rfl, B4.out⟩
  · have hl0 : l.length = 0 := by omega
    have hl1 : ((l.length : Int) == 0) = true := by simp [hl0]
    have hl2 : (l.length == 0) = true := by simp [hl0]
    rw [hl2, Bool.true_or, Bool.and_true] at HB
    cases O
    all_goals
      refine wp_region_far (by kernel_rfl) (by kernel_rfl) ?_
      repeat (first | go_big_quiet_step (first | (go_at_call 121; exact calls_far (C.out _))) | quiet_step (first | (go_at_call 121; exact calls_far (C.out _))))
      refine wpQuiet_nil ?_
      intro _ hw'
      obtain ⟨p, hw''⟩ := hw'
      subst hw''
      have B4 := Lib.hid (B.out.trans ((far_below W p).mono B.out.size))
      go_wp2_with fail
      go_ret
      exact ⟨by rw [HB.out]; rfl, B4.out⟩

theorem right_step {l : List Ef} {k : Nat} (h : k < l.length) (e : rightE l = goodE (keyAt l k) (l.drop k)) : rightE l = (followB (l.take k) l[k] && goodE (keyAt l (k + 1)) (l.drop (k + 1))) := by
  rw [e, goodE_step l k h, follow_at h]

set_option maxHeartbeats 4000000 in
/-- Whether all can be. -/
theorem obRight_any (a : Option Addr) (cap : Nat) (l : List Ef) (w : World) (h : SlP LE w a cap l) (hs : ∀ e ∈ l, e.order.size ≤ maxLen) : Calls Try.prog 70 #[.slice a l.length cap] w (Tell (rightE l) w) := by
  have H := Lib.hid h
  have hc := h.cap
  have hlm := h.len
  unfold maxLen at hlm
  clear h
  go_enter Try.func70, Try.ntmps70
  go_wp2_with fail
  go_loopw [7] (fun i wr => ∃ k : Nat, k ≤ l.length ∧ i = .int .i64 k ∧ Hid (rightE l = goodE (keyAt l k) (l.drop k)) ∧ Below w.heap.size w wr) (fun i _ => l.length - (intOf i).toNat)
  case atStart => exact ⟨0, Nat.zero_le _, rfl, Lib.hid (rightE_at l), Below.refl _ _⟩
  case round =>
    obtain ⟨k, hk, rfl, HG, hbw⟩ := hrel
    by_cases hlt : k < l.length
    · have hks : k ≤ l.length := hk
      obtain ⟨a', c', s1, s2⟩ := sl_to LE_ok (a := a) hc k (k : Int) rfl hk
      have HN := Lib.hid (right_step hlt HG.out)
      have hy := hs _ (List.getElem_mem hlt)
      obtain ⟨b, o, ea, hb, ld, _⟩ := (H.out.below hbw).ef k hlt
      have bW := Lib.hid ((Below.refl wr.heap.size wr).alloc (Nat.le_refl _) (Obj.cells (efC l[k]) 55))
      have R := Lib.hid (show Row (wr.alloc (.cells (efC l[k]) 55)) wr.heap.size 55 (efC l[k]) from Row.new _ _ _)
      have HT := Lib.hid (s2 _ ((H.out.below hbw).below bW.out))
      have s1 : ∀ W, (Instr.slice 27 (.slice a l.length cap) none (some (.int .i64 (k : Int))) none).run Try.prog W = .ok (.slice a' (l.take k).length c') W := s1
      clear HG s2
      subst ea
      generalize l[k] = y at *
      generalize l.take k = T at *
      go_wp2_with fail
      generalize wr.alloc (Obj.cells (efC y) 55) = W at *
      have hg := R.out.lt
      have f1 : ∀ p : Far W, LdX 55 (.pointer (some ⟨wr.heap.size, 0, none⟩)) (farOf W p) = .ok (.value (efV y)) (farOf W p) := fun p => ld_row (R.out.below (far_below W p))
      have C := Lib.hid (fun p : Far W => follow_any a' c' T y (farOf W p) (HT.out.below (far_below W p)) hy)
      clear ld
      generalize followB T y = F at *
      cases F
      all_goals
        refine wp_region_far (by kernel_rfl) (by kernel_rfl) ?_
        repeat (first | go_big_quiet_step (first | (go_at_call 104; exact calls_far (C.out _))) | quiet_step (first | (go_at_call 104; exact calls_far (C.out _))))
        refine wpQuiet_nil ?_
        intro _ hw'
        obtain ⟨p, hw''⟩ := hw'
        subst hw''
        have B4 := Lib.hid ((hbw.trans (bW.out.mono hbw.size)).trans ((far_below W p).mono (Nat.le_trans hbw.size bW.out.size)))
        clear f1 C
        go_wp2_with fail
      · go_ret
        exact ⟨by rw [HN.out]; rfl, B4.out⟩
      · go_roundw
        case rel => exact ⟨k + 1, hlt, by go_num, Lib.hid (by rw [HN.out, Bool.true_and]), B4.out⟩
        case measure => simp [intOf]; omega
    · have HE := Lib.hid (show rightE l = true by rw [HG.out, List.drop_eq_nil_of_le (by omega)]; rfl)
      go_wp2_with fail
      go_ret
      exact ⟨by rw [HE.out]; rfl, hbw⟩
end

/- ObAdd: What own, Add and Find of package outbox answer. -/
section
set_option maxRecDepth 100000
open Go.RowKit Go.ChangeShapes Go.WideShapes Go.ChangeAt
attribute [local go_sem ↓] ldEf stEf alEf bxEf eqEf bdEf bsEf
attribute [local go_sem] al_ef bx_ef st_new bd_ef bs_ef bs_ef0

theorem OwnS.alloc {α : Type} {L : Lay α} {w : World} {base : Nat} {v : Value} {l : List α} (h : OwnS L w base v l) (o : Obj) : OwnS L (w.alloc o) base v l := h.below ((Below.refl _ _).alloc (Nat.le_refl _) o)
theorem SlP.alloc {α : Type} {L : Lay α} {w : World} {a : Option Addr} {cap : Nat} {l : List α} (h : SlP L w a cap l) (o : Obj) : SlP L (w.alloc o) a cap l := h.below ((Below.refl _ _).alloc (Nat.le_refl _) o)
theorem Row.alloc {w : World} {g : Nat} {T : TypeId} {cs : Array Value} (h : Row w g T cs) (o : Obj) : Row (w.alloc o) g T cs := h.below ((Below.refl _ _).alloc (Nat.le_refl _) o)

theorem ef_one (W : World) (n : Nat) (hn : W.heap.size = n) (y : Ef) : SlP LE (W.alloc (.cells (efC y) 55)) (some ⟨n, 0, none⟩) 1 [y] := hn ▸ SlP.one LE_ok W y

/-- An effect that came in, in a variable; others, in a slice; all that was there stays. -/
structure AddI (w : World) (a : Option Addr) (cap : Nat) (l : List Ef) (g : Nat) (e : Ef) (W : World) : Prop where
  row : Row W g 55 (efC e)
  sl : SlP LE W a cap l
  low : Below w.heap.size w W
theorem AddI.below {w W W' : World} {a : Option Addr} {cap : Nat} {l : List Ef} {g : Nat} {e : Ef} (h : AddI w a cap l g e W) (b : Below W.heap.size W W') : AddI w a cap l g e W' := ⟨h.row.below b, h.sl.below b, h.low.trans (b.mono h.low.size)⟩
theorem AddI.alloc {w W : World} {a : Option Addr} {cap : Nat} {l : List Ef} {g : Nat} {e : Ef} (h : AddI w a cap l g e W) (o : Obj) : AddI w a cap l g e (W.alloc o) := h.below ((Below.refl _ _).alloc (Nat.le_refl _) o)
theorem AddI.drew {w W : World} {a : Option Addr} {cap : Nat} {l : List Ef} {g : Nat} {e : Ef} (h : AddI w a cap l g e W) : AddI w a cap l g e W.drew := h.below (Below.refl _ _).drew
theorem AddI.begin {w : World} {a : Option Addr} {cap : Nat} {l : List Ef} (h : SlP LE w a cap l) (e : Ef) : AddI w a cap l w.heap.size e (w.alloc (.cells (efC e) 55)) := ⟨Row.new _ _ _, h.alloc _, (Below.refl _ _).alloc (Nat.le_refl _) _⟩

def addFV (l : List Ef) (e : Ef) : List Ef := if followB l e then l ++ [e] else []
def addFN (l : List Ef) (e : Ef) : Int := if followB l e then 0 else 131
theorem addF_of {l : List Ef} (h : rightE l = true) (e : Ef) : addFV l e = addEV l e ∧ addFN l e = addEN l e := by
  unfold addFV addFN addEV addEN
  rw [follow_add h]
  exact ⟨rfl, rfl⟩

end

/- ObFindC: What Find and Due of package outbox answer. -/
section
set_option maxRecDepth 100000
open Go.RowKit Go.ChangeShapes Go.WideShapes Go.ChangeAt
attribute [local go_sem ↓] ldEf stEf alEf bxEf eqEf bdEf bsEf
attribute [local go_sem] al_ef bx_ef st_new bd_ef bs_ef bs_ef0

/-- Where it stands, and what is then found, left and sent. -/
theorem place_is {l : List Ef} {key : Int} (h : rightE l = true) (hs : (findE l key).isSome = true) : ∃ hp : posE l key < l.length, l[posE l key].key = key ∧ findE l key = some l[posE l key] ∧ restOf l key = l.take (posE l key) ++ l.drop (posE l key + 1) ∧ ∀ now, sentOf l key now = l.set (posE l key) (bumpE now l[posE l key]) := by
  rw [find_pos (rises_of h), decide_eq_true_eq] at hs
  obtain ⟨hp, hk⟩ := hs
  refine ⟨hp, hk, ?_, ?_, fun now => ?_⟩
  · have := find_of h hp
    rwa [hk] at this
  · have := rest_of h hp
    rwa [hk] at this
  · have := sent_of h hp now
    rwa [hk] at this
theorem findVN_some {l : List Ef} {key : Int} {e : Ef} (h : findE l key = some e) : findV l key = e ∧ findN l key = 0 := by
  unfold findV findN
  rw [h]
  exact ⟨rfl, rfl⟩
theorem findVN_none {l : List Ef} {key : Int} (h : (findE l key).isSome = false) : findV l key = noEf ∧ findN l key = 131 := by
  unfold findV findN
  cases e : findE l key with
  | none => exact ⟨rfl, rfl⟩
  | some _ => rw [e] at h; cases h

/-- An effect and an error's number are answered; all that was there stays. -/
def FindP (v : Ef) (n : Int) (w : World) (x : Ending) (w' : World) : Prop := x = .returned (.tuple #[efV v, .int .i64 n]) ∧ Below w.heap.size w w'
theorem low_set {w W : World} (h : Below w.heap.size w W) (cs : Array Value) : Below w.heap.size w (W.setRow w.heap.size cs) := Below.row h (Nat.le_refl _) cs

theorem dueE_drop {l : List Ef} {k : Nat} (h : k < l.length) (now : Int) : dueE (l.drop k) now = (if decide (l[k].due ≤ now) then [l[k]] else []) ++ dueE (l.drop (k + 1)) now := by
  rw [List.drop_eq_getElem_cons h]
  unfold dueE
  rw [List.filter_cons]
  split <;> rfl

end

/- ObSame: When two effects are the same; the document's Same. -/
section
set_option maxRecDepth 100000
open Go.RowKit Go.ChangeShapes Go.WideShapes Go.ChangeAt
attribute [local go_sem ↓] ldEf stEf alEf bxEf eqEf bdEf bsEf
attribute [local go_sem] al_ef bx_ef st_new bd_ef bs_ef bs_ef0

theorem stoodEf : Try.prog.stoodInHeld 55 = false := by kernel_rfl
set_option maxHeartbeats 4000000 in
theorem run_eq_ef (w : World) (x y : Ef) : (Op.equalIn 10000 55 (efV x) (efV y)).run Try.prog w = .ok (eqB x y) w := by
  unfold efV
  rw [run_equalIn_struct w 9999 55 _ _ fieldsEf stoodEf]
  have hf : (Try.prog.fieldsOf 55).toList = (match Try.prog.underlying 55 with | some (.struct fs) => fs | _ => #[]).toList := rfl
  rw [hf, Try.underlying55]
  simp only [efC]
  unfold eqB
  cases h1 : x.key == y.key
  · go_simp
  · cases h2 : x.batch == y.batch
    · go_simp
    · cases h3 : x.due == y.due
      · go_simp
      · cases h4 : x.kind == y.kind
        · go_simp
        · cases h5 : x.tries == y.tries
          · go_simp
          · cases h6 : x.order.toList == y.order.toList
            · go_simp
            · go_simp
theorem ne_ef (w : World) (x y : Ef) (a b : Operand) : EqX .neq 55 a b (efV x) (efV y) w = .ok (.value (.bool (!(eqB x y)))) w := by
  have h := run_eq_ef w x y
  unfold efV at *
  simp only [EqX, Sem.run_bind, Sem.run_pure, Result.andThen_ok, run_eqGuard_agg w .neq 55 a b (efC x) (efC y) guardEf, run_neq_struct, h]
theorem eq_ef (w : World) (x y : Ef) (a b : Operand) : EqX .eql 55 a b (efV x) (efV y) w = .ok (.value (.bool (eqB x y))) w := by
  have h := run_eq_ef w x y
  unfold efV at *
  simp only [EqX, Sem.run_bind, Sem.run_pure, Result.andThen_ok, run_eqGuard_agg w .eql 55 a b (efC x) (efC y) guardEf, run_eql_struct, h]

def sameE : List Ef → List Ef → Bool
  | [], [] => true
  | x :: a, y :: b => eqB x y && sameE a b
  | _, _ => false
theorem sameE_iff : ∀ (a b : List Ef), sameE a b = true ↔ a = b
  | [], [] => by simp [sameE]
  | [], _ :: _ => by simp [sameE]
  | _ :: _, [] => by simp [sameE]
  | x :: a, y :: b => by
    simp only [sameE, Bool.and_eq_true, eqB_iff, sameE_iff a b, List.cons.injEq]
theorem sameE_self (a : List Ef) : sameE a a = true := (sameE_iff a a).2 rfl
theorem sameE_len {a b : List Ef} (h : a.length ≠ b.length) : sameE a b = false := by
  cases e : sameE a b with
  | false => rfl
  | true => exact absurd (congrArg List.length ((sameE_iff a b).1 e)) h
theorem sameE_step {a b : List Ef} {k : Nat} (h1 : k < a.length) (h2 : k < b.length) : sameE (a.drop k) (b.drop k) = (eqB a[k] b[k] && sameE (a.drop (k + 1)) (b.drop (k + 1))) := by
  rw [List.drop_eq_getElem_cons h1, List.drop_eq_getElem_cons h2, sameE]

set_option maxHeartbeats 4000000 in
theorem obRefSame_any (a b : Option Addr) (ca cb : Nat) (l m : List Ef) (w : World) (h1 : SlP LE w a ca l) (h2 : SlP LE w b cb m) : Calls Try.prog 24 #[.slice a l.length ca, .slice b m.length cb] w (Tell (sameE l m) w) := by
  have H1 := Lib.hid h1
  have H2 := Lib.hid h2
  have k1 := h1.cap
  have k2 := h2.cap
  have hlm := h1.len
  have hlm2 := h2.len
  unfold maxLen at hlm hlm2
  clear h1 h2
  by_cases hl : l.length = m.length
  · have hq : ((l.length : Int) != (m.length : Int)) = false := by rw [hl]; simp
    go_enter Try.func24, Try.ntmps24
    go_wp2_with fail
    go_loopw [13] (fun i wr => ∃ k : Nat, k ≤ l.length ∧ i = .int .i64 k ∧ Hid (sameE l m = sameE (l.drop k) (m.drop k)) ∧ Below w.heap.size w wr) (fun i _ => l.length - (intOf i).toNat)
    case atStart => exact ⟨0, Nat.zero_le _, rfl, Lib.hid rfl, Below.refl _ _⟩
    case round =>
      obtain ⟨k, hk, rfl, HS, hbw⟩ := hrel
      by_cases hlt : k < l.length
      · have hlt2 : k < m.length := by omega
        obtain ⟨b1, o1, rfl, q1, ld1, _⟩ := (H1.out.below hbw).ef k hlt
        obtain ⟨b2, o2, rfl, q2, ld2, _⟩ := (H2.out.below hbw).ef k hlt2
        have ld1d : LdX 55 (.pointer (some ⟨b1, o1 + k * 6, none⟩)) wr.drew = .ok (.value (efV l[k])) wr.drew := ((H1.out.below hbw).below ((Below.refl _ _).drew)).ef k hlt |>.elim fun b' h => h.elim fun o' h => by
          obtain ⟨e, _, h, _⟩ := h
          injection e with e
          injection e with e1 e2
          subst e1 e2
          exact h
        have ld2d : LdX 55 (.pointer (some ⟨b2, o2 + k * 6, none⟩)) wr.drew = .ok (.value (efV m[k])) wr.drew := ((H2.out.below hbw).below ((Below.refl _ _).drew)).ef k hlt2 |>.elim fun b' h => h.elim fun o' h => by
          obtain ⟨e, _, h, _⟩ := h
          injection e with e
          injection e with e1 e2
          subst e1 e2
          exact h
        have HN := Lib.hid (HS.out.trans (sameE_step hlt hlt2))
        have ne := fun W a b => ne_ef W l[k] m[k] a b
        have B2 := Lib.hid hbw.drew
        generalize l[k] = x at *
        generalize m[k] = y at *
        generalize hE : eqB x y = E at *
        go_wp2_with fail
        go_region
        cases E with
        | false =>
          go_wp2_with fail
          go_ret
          exact ⟨by rw [HN.out]; rfl, B2.out⟩
        | true =>
          go_wp2_with fail
          go_roundw
          case rel => exact ⟨k + 1, hlt, by go_num, Lib.hid (by rw [HN.out, Bool.true_and]), B2.out⟩
          case measure => simp [intOf]; omega
      · have HE := Lib.hid (show sameE l m = true by rw [HS.out, List.drop_eq_nil_of_le (by omega), List.drop_eq_nil_of_le (by omega)]; rfl)
        go_wp2_with fail
        go_ret
        exact ⟨by rw [HE.out]; rfl, hbw⟩
  · have hq : ((l.length : Int) != (m.length : Int)) = true := by simp; omega
    have HE := Lib.hid (sameE_len hl)
    go_enter Try.func24, Try.ntmps24
    go_wp2_with fail
    go_ret
    exact ⟨by rw [HE.out]; rfl, Below.refl _ _⟩
end

/- ObRef: The document's One, Right and Backoff. -/
section
set_option maxRecDepth 100000
open Go.RowKit Go.ChangeShapes Go.WideShapes Go.ChangeAt
attribute [local go_sem ↓] ldEf stEf alEf bxEf eqEf bdEf bsEf
attribute [local go_sem] al_ef bx_ef st_new bd_ef bs_ef bs_ef0

theorem above_two (n : Int) : aboveB n = (!decide (n < 1) && !decide (1000000000000 < n)) := by
  rw [Bool.eq_iff_iff]
  simp [aboveB]
theorem above_pos (n : Int) : aboveB n = (decide (0 < n) && decide (n ≤ 1000000000000)) := by
  rw [Bool.eq_iff_iff]
  simp [aboveB]; omega
theorem one_doc (e : Ef) : oneB e = (!decide (e.key < 1) && (!decide (1000000000000 < e.key) && (tickB e.due && (!decide (e.tries < 0) && (!decide (1000000 < e.tries) && ofB e))))) := by
  have : triesB e.tries = (!decide (e.tries < 0) && !decide (1000000 < e.tries)) := by rw [Bool.eq_iff_iff]; simp [triesB]
  rw [oneB, this, above_two]
  simp only [Bool.and_assoc]

set_option maxHeartbeats 4000000 in
theorem refOne_any (e : Ef) (w : World) (hs : e.order.size ≤ maxLen) : Calls Try.prog 109 #[efV e] w (Tell (oneB e) w) := by
  have C1 := Lib.hid (fun w => obRefTick_any e.due w)
  have C2 := Lib.hid (fun w => refRight_any e.order w hs)
  have B := Lib.hid ((Below.refl w.heap.size w).alloc (Nat.le_refl _) (Obj.cells (efC e) 55))
  have D : Row (w.alloc (.cells (efC e) 55)) w.heap.size 55 (efC e) := Row.new _ _ _
  have HE := Lib.hid (one_doc e)
  have H1 := Lib.hid (ofB_both (e := e))
  have H2 := Lib.hid (ofB_sole (e := e))
  have H3 := Lib.hid (ofB_none (e := e))
  have ET := emptyT_test e.order
  unfold rightT at H2
  obtain ⟨c0, c1, c2, c3, c4, c5⟩ := D.c
  clear D
  cases k1 : decide (e.key < 1) with
  | true =>
    go_enter Try.func109, Try.ntmps109
    go_wp2_with fail
    go_ret
    exact ⟨by rw [HE.out, k1]; rfl, B.out⟩
  | false =>
    cases k2 : decide (1000000000000 < e.key) with
    | true =>
      go_enter Try.func109, Try.ntmps109
      go_wp2_with fail
      go_ret
      exact ⟨by rw [HE.out, k1, k2]; rfl, B.out⟩
    | false =>
      go_enter Try.func109, Try.ntmps109
      go_wp2_with fail
      refine (C1.out _).mono ?_
      rintro x w1 ⟨rfl, rfl⟩
      generalize w.alloc (Obj.cells (efC e) 55) = W at *
      cases k3 : tickB e.due with
      | false =>
        go_wp2_with fail
        go_ret
        exact ⟨by rw [HE.out, k1, k2, k3]; rfl, B.out⟩
      | true =>
        cases k4 : decide (e.tries < 0) with
        | true =>
          go_wp2_with fail
          go_ret
          exact ⟨by rw [HE.out, k1, k2, k3, k4]; rfl, B.out⟩
        | false =>
          cases k5 : decide (1000000 < e.tries) with
          | true =>
            go_wp2_with fail
            go_ret
            exact ⟨by rw [HE.out, k1, k2, k3, k4, k5]; rfl, B.out⟩
          | false =>
            have HF := Lib.hid (show oneB e = ofB e by rw [HE.out, k1, k2, k3, k4, k5]; rfl)
            clear HE C1 k1 k2 k3
            by_cases hb : bothB e.kind = true
            · have HO := Lib.hid ((H1.out hb).trans (by rw [above_pos]))
              have hk : e.kind = 3 ∨ e.kind = 4 := by simpa [bothB] using hb
              clear H1 H2 H3 hb
              rcases hk with hk | hk
              all_goals
                rw [hk] at c3
                clear hk
                cases p1 : decide (0 < e.batch) <;> cases p2 : decide (e.batch ≤ 1000000000000)
                all_goals
                  rw [p1, p2] at HO
                  go_wp2_with fail
                  go_ret
                  first
                    | exact ⟨by rw [HF.out, HO.out]; rfl, B.out⟩
                    | exact ⟨by rw [HF.out, HO.out, ← ET]; rfl, B.out⟩
            · have hb : bothB e.kind = false := by simpa using hb
              by_cases hs : soleB e.kind = true
              · have HO := Lib.hid (H2.out hb hs)
                have hk : e.kind = 1 ∨ e.kind = 2 ∨ e.kind = 5 ∨ e.kind = 6 ∨ e.kind = 7 := by simpa [soleB] using hs
                clear H1 H2 H3 hb hs
                rcases hk with hk | hk | hk | hk | hk
                all_goals
                  rw [hk] at c3
                  clear hk
                  cases h1 : (e.batch == 0) with
                  | false =>
                    rw [h1] at HO
                    go_wp2_with fail
                    go_ret
                    exact ⟨by rw [HF.out, HO.out]; rfl, B.out⟩
                  | true =>
                    rw [h1] at HO
                    go_wp2_with fail
                    refine (C2.out _).mono ?_
                    rintro x w1 ⟨rfl, b1⟩
                    go_wp2_with fail
                    go_ret
                    exact ⟨by rw [HF.out, HO.out]; rfl, B.out.trans (b1.mono B.out.size)⟩
              · have hs : soleB e.kind = false := by simpa using hs
                have HO := Lib.hid (H3.out hb hs)
                clear H1 H2 H3
                obtain ⟨kb, ks⟩ := kinds_of e.kind
                rw [kb] at hb
                rw [ks] at hs
                simp only [Bool.or_eq_false_iff] at hb hs
                obtain ⟨k3, k4⟩ := hb
                obtain ⟨k1, k2, k5, k6, k7⟩ := hs
                clear kb ks
                go_wp2_with fail
                go_ret
                exact ⟨by rw [HF.out, HO.out]; rfl, B.out⟩

set_option maxHeartbeats 4000000 in
theorem refObRight_any (a : Option Addr) (cap : Nat) (l : List Ef) (w : World) (h : SlP LE w a cap l) (hs : ∀ e ∈ l, e.order.size ≤ maxLen) : Calls Try.prog 82 #[.slice a l.length cap] w (Tell (rightE l) w) := by
  have H := Lib.hid h
  have hc := h.cap
  have hlm := h.len
  unfold maxLen at hlm
  clear h
  go_enter Try.func82, Try.ntmps82
  go_wp2_with fail
  go_loopw [3, 8] (fun s3 i wr => ∃ k : Nat, k ≤ l.length ∧ i = .int .i64 k ∧ s3 = .int .i64 (keyAt l k) ∧ Hid (rightE l = goodE (keyAt l k) (l.drop k)) ∧ Below w.heap.size w wr) (fun _ i _ => l.length - (intOf i).toNat)
  case atStart => exact ⟨0, Nat.zero_le _, rfl, rfl, Lib.hid (rightE_at l), Below.refl _ _⟩
  case round =>
    obtain ⟨k, hk, rfl, rfl, HG, hbw⟩ := hrel
    by_cases hlt : k < l.length
    · have HN := Lib.hid (HG.out.trans (goodE_step l k hlt))
      have hy := hs _ (List.getElem_mem hlt)
      have hkk : keyAt l (k + 1) = l[k].key := by simp [keyAt, hlt]
      obtain ⟨b, o, rfl, hb, ld, hrest⟩ := (H.out.below hbw).ef k hlt
      have R := Lib.hid (Row.new wr (efC l[k]) 55)
      have BW := Lib.hid (hbw.alloc hbw.size (.cells (efC l[k]) 55))
      have ld2 := ld_row R.out
      obtain ⟨c0, _⟩ := R.out.c
      have C := Lib.hid (fun w => refOne_any l[k] w hy)
      clear HG hrest
      generalize l[k] = y at *
      generalize keyAt l k = K at *
      go_wp2_with fail
      generalize wr.alloc (Obj.cells (efC y) 55) = W at *
      refine (C.out _).mono ?_
      rintro x w1 ⟨rfl, b1⟩
      have R1 := Lib.hid (R.out.below b1)
      have B1 := Lib.hid (BW.out.trans (b1.mono BW.out.size))
      obtain ⟨d0, _⟩ := R1.out.c
      clear c0 ld ld2 b1 R
      cases ho : oneB y with
      | false =>
        go_wp2_with fail
        go_ret
        exact ⟨by rw [HN.out, ho]; rfl, B1.out⟩
      | true =>
        cases hlk : decide (K < y.key) with
        | false =>
          have hle : y.key ≤ K := by simpa using hlk
          go_wp2_with fail
          go_ret
          exact ⟨by rw [HN.out, ho, hlk]; rfl, B1.out⟩
        | true =>
          have hle : ¬ y.key ≤ K := by simpa using hlk
          go_wp2_with fail
          go_roundw
          case rel => exact ⟨k + 1, hlt, by go_num, by rw [hkk], Lib.hid (by rw [HN.out, ho, hlk, Bool.true_and, Bool.true_and]), B1.out⟩
          case measure => simp [intOf]; omega
    · have HE := Lib.hid (show rightE l = true by rw [HG.out, List.drop_eq_nil_of_le (by omega)]; rfl)
      go_wp2_with fail
      go_ret
      exact ⟨by rw [HE.out]; rfl, hbw⟩

end

/- SgPlain: Plain facts on what becomes of an order: the table, one step, and what follows of many. -/
section
set_option maxRecDepth 100000

/-- What becomes of an order. -/
structure Sg where
  phase : Int
  given : Bool
  ref : Int

/-- The phase then, and what is asked for; 0: it can't be; below: it is too late. -/
def rowT (g : Bool) : Nat → Nat → Int × Int
  | 1, 1 => if g then (10, 7) else (2, 2)
  | 1, 2 => (11, 0)
  | 1, 3 => (1, 0)
  | 2, 1 => if g then (9, 6) else (3, 0)
  | 2, 2 => (10, 7)
  | 2, 3 => (2, 0)
  | 3, 3 => (9, 6)
  | 3, 4 => (4, 0)
  | 4, 1 => if g then (9, 6) else (5, 0)
  | 4, 2 => (9, 6)
  | 4, 3 => (4, 0)
  | 5, 3 => (9, 6)
  | 5, 4 => (6, 0)
  | 6, 1 => (7, 5)
  | 6, 2 => (9, 6)
  | 6, 3 => (-1, 0)
  | 7, 1 => (8, 0)
  | 7, 2 => (7, 5)
  | 7, 3 => (-1, 0)
  | 8, 3 => (-1, 0)
  | 9, 1 => (10, 7)
  | 9, 2 => (9, 6)
  | 9, 3 => (9, 0)
  | 10, 1 => (11, 0)
  | 10, 2 => (10, 7)
  | 10, 3 => (10, 0)
  | 11, 3 => (11, 0)
  | 12, 3 => (-1, 0)
  | _, _ => (0, 0)
def undoB (p : Int) : Bool := p == 9 || p == 10
/-- One more refusal. -/
def moreR (n : Int) : Int := (if n < 999999 then n else 999999) + 1
def capR (limit : Int) : Int := if limit < 1 then 1 else limit
def stuckB (s : Sg) (event limit : Int) : Bool := event == 2 && undoB s.phase && decide (capR limit ≤ moreR s.ref)
/-- The saga behind an event, what it asks for, the error's number. -/
def stepS (s : Sg) (event limit : Int) : Sg × Int × Int :=
  if 1 ≤ s.phase ∧ s.phase ≤ 12 ∧ 1 ≤ event ∧ event ≤ 4 then
    let r := rowT s.given s.phase.toNat event.toNat
    if r.1 = 0 then (s, 0, 142)
    else if r.1 < 0 then (s, 0, 141)
    else if stuckB s event limit then (⟨12, s.given, moreR s.ref⟩, 0, 0)
    else (⟨r.1, s.given || (event == 3 && decide (s.phase < 6)), if event == 2 && undoB s.phase then moreR s.ref else if event == 1 && s.phase == 9 then 0 else s.ref⟩, r.2, 0)
  else (s, 0, 142)
def asksN (p : Int) : Int := if p = 1 then 1 else if p = 2 then 2 else if p = 7 then 5 else if p = 9 then 6 else if p = 10 then 7 else 0
def leftB (p : Int) : Bool := p == 7 || p == 8

theorem step_out {s : Sg} {event limit : Int} (h : ¬ (1 ≤ s.phase ∧ s.phase ≤ 12 ∧ 1 ≤ event ∧ event ≤ 4)) : stepS s event limit = (s, 0, 142) := by
  unfold stepS
  rw [if_neg h]
/-- Each phase and each event. -/
theorem step_cases (P : Sg → Int → Prop) (hp : ∀ (p e : Int) (g : Bool) (r : Int), (p = 1 ∨ p = 2 ∨ p = 3 ∨ p = 4 ∨ p = 5 ∨ p = 6 ∨ p = 7 ∨ p = 8 ∨ p = 9 ∨ p = 10 ∨ p = 11 ∨ p = 12) → (e = 1 ∨ e = 2 ∨ e = 3 ∨ e = 4) → P ⟨p, g, r⟩ e)
    (s : Sg) (event : Int) (h : 1 ≤ s.phase ∧ s.phase ≤ 12 ∧ 1 ≤ event ∧ event ≤ 4) : P s event := by
  obtain ⟨p, g, r⟩ := s
  obtain ⟨h1, h2, h3, h4⟩ := h
  simp only at h1 h2
  exact hp p event g r (by omega) (by omega)
/-- At an error it is as it was. -/
theorem step_err {s : Sg} {event limit : Int} (h : (stepS s event limit).2.2 ≠ 0) : (stepS s event limit).1 = s ∧ (stepS s event limit).2.1 = 0 := by
  unfold stepS at h ⊢
  split at h
  · rename_i hc
    rw [if_pos hc]
    dsimp only at h ⊢
    split at h
    · rename_i h1; rw [if_pos h1]; exact ⟨rfl, rfl⟩
    · rename_i h1
      rw [if_neg h1]
      split at h
      · rename_i h2; rw [if_pos h2]; exact ⟨rfl, rfl⟩
      · split at h <;> simp at h
  · rename_i hc
    rw [if_neg hc]
    exact ⟨rfl, rfl⟩

/-- A Cancel was fine: it is to be given up, and hasn't been sent; or it is being undone. -/
def upB (s : Sg) : Prop := (s.given = true ∧ (s.phase = 1 ∨ s.phase = 2 ∨ s.phase = 4)) ∨ (9 ≤ s.phase ∧ s.phase ≤ 12)
theorem up_left {s : Sg} (h : upB s) : leftB s.phase = false := by
  unfold upB at h
  unfold leftB
  rw [Bool.or_eq_false_iff]
  constructor <;> (rw [beq_eq_false_iff_ne]; omega)
theorem row_facts : ∀ (g : Bool) (p : Fin 13) (e : Fin 5), 0 < (rowT g p.val e.val).1 →
    (1 ≤ (rowT g p.val e.val).1 ∧ (rowT g p.val e.val).1 ≤ 12) ∧ ((rowT g p.val e.val).2 = 0 ∨ (rowT g p.val e.val).2 = asksN (rowT g p.val e.val).1) ∧ (e.val ≠ 3 → (rowT g p.val e.val).2 = asksN (rowT g p.val e.val).1) ∧ (8 ≤ p.val → (p.val : Int) ≤ (rowT g p.val e.val).1) ∧
    ((g = true ∧ (p.val = 1 ∨ p.val = 2 ∨ p.val = 4)) ∨ 9 ≤ p.val ∨ e.val = 3 → (9 ≤ (rowT g p.val e.val).1) ∨ ((g = true ∨ (e.val = 3 ∧ p.val < 6)) ∧ ((rowT g p.val e.val).1 = 1 ∨ (rowT g p.val e.val).1 = 2 ∨ (rowT g p.val e.val).1 = 4))) := by decide +kernel
theorem row_at (g : Bool) {p e : Int} (hp : 1 ≤ p ∧ p ≤ 12) (he : 1 ≤ e ∧ e ≤ 4) (h : 0 < (rowT g p.toNat e.toNat).1) :
    (1 ≤ (rowT g p.toNat e.toNat).1 ∧ (rowT g p.toNat e.toNat).1 ≤ 12) ∧ ((rowT g p.toNat e.toNat).2 = 0 ∨ (rowT g p.toNat e.toNat).2 = asksN (rowT g p.toNat e.toNat).1) ∧ (e ≠ 3 → (rowT g p.toNat e.toNat).2 = asksN (rowT g p.toNat e.toNat).1) ∧ (8 ≤ p → p ≤ (rowT g p.toNat e.toNat).1) ∧
    ((g = true ∧ (p = 1 ∨ p = 2 ∨ p = 4)) ∨ 9 ≤ p ∨ e = 3 → (9 ≤ (rowT g p.toNat e.toNat).1) ∨ ((g = true ∨ (e = 3 ∧ p < 6)) ∧ ((rowT g p.toNat e.toNat).1 = 1 ∨ (rowT g p.toNat e.toNat).1 = 2 ∨ (rowT g p.toNat e.toNat).1 = 4))) := by
  obtain ⟨h1, h2, h3, h4, h5⟩ := row_facts g ⟨p.toNat, by omega⟩ ⟨e.toNat, by omega⟩ h
  simp only at h1 h2 h3 h4 h5
  refine ⟨h1, h2, fun h => h3 (by omega), fun h => ?_, fun h => ?_⟩
  · have := h4 (by omega)
    omega
  · rcases h5 (by
      rcases h with ⟨a, b⟩ | b | b
      · exact .inl ⟨a, by omega⟩
      · exact .inr (.inl (by omega))
      · exact .inr (.inr (by omega))) with b | ⟨b, c⟩
    · exact .inl b
    · refine .inr ⟨?_, c⟩
      rcases b with b | ⟨b, d⟩
      · exact .inl b
      · exact .inr ⟨by omega, by omega⟩

/-- A step that is fine: by the table, or it is stuck. -/
theorem step_fine {s : Sg} {event limit : Int} (h : (stepS s event limit).2.2 = 0) : (1 ≤ s.phase ∧ s.phase ≤ 12) ∧ (1 ≤ event ∧ event ≤ 4) ∧
    ((stuckB s event limit = true ∧ stepS s event limit = (⟨12, s.given, moreR s.ref⟩, 0, 0)) ∨
     (stuckB s event limit = false ∧ 0 < (rowT s.given s.phase.toNat event.toNat).1 ∧ stepS s event limit = (⟨(rowT s.given s.phase.toNat event.toNat).1, s.given || (event == 3 && decide (s.phase < 6)), if event == 2 && undoB s.phase then moreR s.ref else if event == 1 && s.phase == 9 then 0 else s.ref⟩, (rowT s.given s.phase.toNat event.toNat).2, 0))) := by
  unfold stepS at h ⊢
  split at h
  · rename_i hc
    obtain ⟨c1, c2, c3, c4⟩ := hc
    refine ⟨⟨c1, c2⟩, ⟨c3, c4⟩, ?_⟩
    rw [if_pos ⟨c1, c2, c3, c4⟩]
    dsimp only at h ⊢
    split at h
    · cases h
    · rename_i h1
      rw [if_neg h1]
      split at h
      · cases h
      · rename_i h2
        rw [if_neg h2]
        cases hs : stuckB s event limit with
        | true => exact .inl ⟨rfl, by simp⟩
        | false => exact .inr ⟨rfl, by omega, by simp⟩
  · cases h
theorem step_ok {s : Sg} {event limit : Int} (h : (stepS s event limit).2.2 = 0) :
    (1 ≤ (stepS s event limit).1.phase ∧ (stepS s event limit).1.phase ≤ 12) ∧
    (upB s ∨ event = 3 → upB (stepS s event limit).1) ∧
    ((stepS s event limit).2.1 = 0 ∨ (stepS s event limit).2.1 = asksN (stepS s event limit).1.phase) ∧
    (event ≠ 3 → (stepS s event limit).2.1 = asksN (stepS s event limit).1.phase) ∧
    (8 ≤ s.phase → s.phase ≤ (stepS s event limit).1.phase) := by
  obtain ⟨hp, he, ⟨_, e⟩ | ⟨_, h0, e⟩⟩ := step_fine h
  · rw [e]
    exact ⟨⟨show (1 : Int) ≤ 12 by decide, show (12 : Int) ≤ 12 by decide⟩, fun _ => .inr ⟨show (9 : Int) ≤ 12 by decide, show (12 : Int) ≤ 12 by decide⟩, .inl rfl, fun _ => rfl, fun _ => hp.2⟩
  · obtain ⟨h1, h2, h3, h4, h5⟩ := row_at s.given hp he h0
    rw [e]
    refine ⟨h1, fun hu => ?_, h2, h3, h4⟩
    rcases h5 (by
      rcases hu with (⟨a, b⟩ | ⟨a, b⟩) | a
      · exact .inl ⟨a, b⟩
      · exact .inr (.inl a)
      · exact .inr (.inr a)) with a | ⟨a, b⟩
    · exact .inr ⟨a, h1.2⟩
    · refine .inl ⟨?_, b⟩
      rcases a with a | ⟨a, c⟩
      · simp [a]
      · simp [a, c]

/-- Refusals stay within bounds. -/
theorem more_in {n : Int} (h0 : 0 ≤ n) (h1 : n ≤ 1000000) : 1 ≤ moreR n ∧ moreR n ≤ 1000000 := by
  unfold moreR
  split <;> omega
theorem step_ref {s : Sg} {event limit : Int} (h : 0 ≤ s.ref ∧ s.ref ≤ 1000000) : 0 ≤ (stepS s event limit).1.ref ∧ (stepS s event limit).1.ref ≤ 1000000 := by
  obtain ⟨m1, m2⟩ := more_in h.1 h.2
  by_cases he : (stepS s event limit).2.2 = 0
  · obtain ⟨_, _, ⟨_, e⟩ | ⟨_, _, e⟩⟩ := step_fine he
    · rw [e]; exact ⟨by simp only; omega, m2⟩
    · rw [e]
      simp only
      split
      · omega
      · split
        · omega
        · exact h
  · rw [(step_err he).1]; exact h

/-- Who is over stays so. -/
def overB (p : Int) : Bool := p == 8 || (p == 11 || p == 12)
theorem over_same {s : Sg} (h : overB s.phase = true) (event limit : Int) : (stepS s event limit).1 = s := by
  by_cases he : (stepS s event limit).2.2 = 0
  · obtain ⟨hp, hv, ⟨h1, e⟩ | ⟨h1, h0, e⟩⟩ := step_fine he
    · exfalso
      simp only [stuckB, undoB, Bool.and_eq_true, Bool.or_eq_true, beq_iff_eq] at h1
      simp only [overB, Bool.or_eq_true, beq_iff_eq] at h
      omega
    · rw [e]
      obtain ⟨p, g, r⟩ := s
      simp only [overB, Bool.or_eq_true, beq_iff_eq] at h
      have hv4 : event = 1 ∨ event = 2 ∨ event = 3 ∨ event = 4 := by omega
      clear e h1 he hp hv
      rcases h with h | h | h <;> (try simp only at h) <;> subst h <;> rcases hv4 with rfl | rfl | rfl | rfl <;> dsimp only at h0 <;> first | (exfalso; revert h0; cases g <;> decide) | simp [rowT, undoB]
  · exact (step_err he).1

/-- So many steps are left, if all is answered. -/
def remN (p : Int) : Int := if p = 1 then 7 else if p = 2 then 6 else if p = 3 then 5 else if p = 4 then 4 else if p = 5 then 3 else if p = 6 then 2 else if p = 7 then 1 else if p = 9 then 2 else if p = 10 then 1 else 0
theorem rem_in (p : Int) : 0 ≤ remN p ∧ remN p ≤ 7 := by
  unfold remN
  repeat' split
  all_goals decide
theorem rem_pos {p : Int} (h1 : 1 ≤ p ∧ p ≤ 12) (h : overB p = false) : 1 ≤ remN p := by
  have : p = 1 ∨ p = 2 ∨ p = 3 ∨ p = 4 ∨ p = 5 ∨ p = 6 ∨ p = 7 ∨ p = 8 ∨ p = 9 ∨ p = 10 ∨ p = 11 ∨ p = 12 := by omega
  rcases this with rfl | rfl | rfl | rfl | rfl | rfl | rfl | rfl | rfl | rfl | rfl | rfl <;> first | decide | (exfalso; revert h; decide)
/-- What goes on: what waits goes out, all else is answered. -/
def goesB (p event : Int) : Prop := if p = 3 ∨ p = 5 then event = 4 else event = 1 ∨ event = 2
theorem row_goes : ∀ (g : Bool) (p : Fin 13) (e : Fin 5), (p.val = 1 ∨ p.val = 2 ∨ p.val = 3 ∨ p.val = 4 ∨ p.val = 5 ∨ p.val = 6 ∨ p.val = 7 ∨ p.val = 9 ∨ p.val = 10) → ((p.val = 3 ∨ p.val = 5) ∧ e.val = 4 ∨ ¬ (p.val = 3 ∨ p.val = 5) ∧ (e.val = 1 ∨ e.val = 2)) →
    0 < (rowT g p.val e.val).1 ∧ (e.val ≠ 2 → remN (rowT g p.val e.val).1 + 1 ≤ remN p.val) ∧ ((rowT g p.val e.val).1 ≠ 12) ∧ (9 ≤ p.val → 9 ≤ (rowT g p.val e.val).1) := by decide +kernel
/-- Refusals of what is being undone are counted. -/
def countB (s : Sg) (n limit : Int) : Prop := (s.phase < 9 → s.ref = 0 ∧ n = 0) ∧ ((s.phase = 9 ∨ s.phase = 10) → s.ref = n) ∧ (s.phase = 12 → limit ≤ n)
def countN (s : Sg) (event n : Int) : Int := if undoB s.phase then (if event = 2 then n + 1 else if event = 1 then 0 else n) else n
theorem goes_step {s : Sg} {event limit n : Int} (hp : 1 ≤ s.phase ∧ s.phase ≤ 12) (ho : overB s.phase = false) (hg : goesB s.phase event) (hl : 1 ≤ limit) (hc : countB s n limit) (hn : 0 ≤ n ∧ n ≤ 1000) :
    (stepS s event limit).2.2 = 0 ∧ (1 ≤ (stepS s event limit).1.phase ∧ (stepS s event limit).1.phase ≤ 12) ∧ (event ≠ 2 → remN (stepS s event limit).1.phase + 1 ≤ remN s.phase) ∧ countB (stepS s event limit).1 (countN s event n) limit := by
  obtain ⟨p, g, r⟩ := s
  simp only at hp ho hg hc
  have hp9 : p = 1 ∨ p = 2 ∨ p = 3 ∨ p = 4 ∨ p = 5 ∨ p = 6 ∨ p = 7 ∨ p = 9 ∨ p = 10 := by
    simp only [overB, Bool.or_eq_false_iff, beq_eq_false_iff_ne] at ho
    omega
  have he : 1 ≤ event ∧ event ≤ 4 := by
    unfold goesB at hg
    split at hg <;> omega
  obtain ⟨h1, h2, h3, h4⟩ := row_goes g ⟨p.toNat, by omega⟩ ⟨event.toNat, by omega⟩ (by simp only; omega) (by
    unfold goesB at hg
    split at hg
    · left; simp only; omega
    · right; simp only; omega)
  simp only at h1 h2 h3 h4
  rw [show ((p.toNat : Nat) : Int) = p by omega] at h2
  have hs : stepS ⟨p, g, r⟩ event limit = if stuckB ⟨p, g, r⟩ event limit then (⟨12, g, moreR r⟩, 0, 0) else (⟨(rowT g p.toNat event.toNat).1, g || (event == 3 && decide (p < 6)), if event == 2 && undoB p then moreR r else if event == 1 && p == 9 then 0 else r⟩, (rowT g p.toNat event.toNat).2, 0) := by
    unfold stepS
    rw [if_pos ⟨hp.1, hp.2, he.1, he.2⟩]
    dsimp only
    rw [if_neg (by omega), if_neg (by omega)]
  have hk := row_at g hp he h1
  obtain ⟨c1, c2, c3⟩ := hc
  rw [hs]
  cases hst : stuckB ⟨p, g, r⟩ event limit with
  | true =>
    rw [if_pos rfl]
    simp only [stuckB, Bool.and_eq_true, beq_iff_eq, decide_eq_true_eq] at hst
    obtain ⟨⟨q1, q2⟩, q3⟩ := hst
    have q4 : p = 9 ∨ p = 10 := by simpa [undoB] using q2
    refine ⟨rfl, ⟨show (1 : Int) ≤ 12 by decide, show (12 : Int) ≤ 12 by decide⟩, fun h => absurd q1 h, ?_⟩
    have hr := c2 q4
    simp only at hr
    refine ⟨fun h => absurd h (by simp), fun h => absurd h (by simp), fun _ => ?_⟩
    unfold countN
    simp only
    rw [if_pos q2, if_pos q1]
    unfold capR at q3
    rw [if_neg (by omega)] at q3
    unfold moreR at q3
    split at q3 <;> omega
  | false =>
    rw [if_neg (by decide)]
    refine ⟨rfl, hk.1, fun h => h2 (by omega), ?_⟩
    by_cases hu : p = 9 ∨ p = 10
    · have hub : undoB p = true := by simpa [undoB] using hu
      have hr := c2 hu
      simp only at hr
      have h9 := h4 (by omega)
      refine ⟨fun h => ?_, fun h => ?_, fun h => absurd h h3⟩
      · simp only at h; omega
      · simp only at h ⊢
        unfold countN
        simp only
        rw [if_pos hub]
        have he2 : event = 1 ∨ event = 2 := by
          unfold goesB at hg
          rw [if_neg (by omega)] at hg
          exact hg
        rcases he2 with rfl | rfl
        · rcases hu with rfl | rfl
          · simp [undoB]
          · exfalso
            revert h
            cases g <;> decide
        · simp only [hub]
          have : moreR r = n + 1 := by
            unfold moreR
            rw [if_pos (by omega)]
            omega
          simp [this]
    · have hub : undoB p = false := by simpa [undoB] using hu
      obtain ⟨r0, n0⟩ := c1 (by simp only; omega)
      simp only at r0
      have hr1 : (if event == 2 && undoB p then moreR r else if event == 1 && p == 9 then 0 else r) = 0 := by
        have h9 : (p == 9) = false := by rw [beq_eq_false_iff_ne]; omega
        rw [hub, h9, Bool.and_false, Bool.and_false]
        simp [r0]
      refine ⟨fun _ => ⟨hr1, ?_⟩, fun _ => ?_, fun h => absurd h h3⟩
      · simp [countN, hub, n0]
      · have : countN ⟨p, g, r⟩ event n = 0 := by simp [countN, hub, n0]
        rw [this]
        exact hr1

/-- What undoes is tried as often as the limit says. -/
theorem refuse_on {p : Int} (hp : p = 9 ∨ p = 10) {k limit : Int} (hk : 1 ≤ k) (hk2 : k ≤ 2000) (hl : k < capR limit) : stepS ⟨p, false, k - 1⟩ 2 limit = (⟨p, false, k⟩, asksN p, 0) := by
  have hm : moreR (k - 1) = k := by unfold moreR; rw [if_pos (by omega)]; omega
  have hs : stuckB ⟨p, false, k - 1⟩ 2 limit = false := by
    unfold stuckB
    simp only [hm]
    rw [show decide (capR limit ≤ k) = false by simp; omega, Bool.and_false]
  rcases hp with rfl | rfl
  · simp [stepS, rowT, hs, undoB, hm, asksN]
  · simp [stepS, rowT, hs, undoB, hm, asksN]
theorem refuse_last {p : Int} (hp : p = 9 ∨ p = 10) {k limit : Int} (hk : 1 ≤ k) (hk2 : k ≤ 2000) (hl : capR limit = k) : stepS ⟨p, false, k - 1⟩ 2 limit = (⟨12, false, k⟩, 0, 0) := by
  have hm : moreR (k - 1) = k := by unfold moreR; rw [if_pos (by omega)]; omega
  have hs : stuckB ⟨p, false, k - 1⟩ 2 limit = true := by
    unfold stuckB
    simp only [hm]
    rcases hp with rfl | rfl <;> simp [undoB, hl]
  rcases hp with rfl | rfl
  · simp [stepS, rowT, hs, hm]
  · simp [stepS, rowT, hs, hm]
end

/- SgLay: A saga as a value: whole loads and stores told at once, when two are the same. -/
section
set_option maxRecDepth 100000
open Go.RowKit Go.ChangeShapes Go.WideShapes Go.ChangeAt

def sgC (s : Sg) : Array Value := #[.int .i64 s.phase, .bool s.given, .int .i64 s.ref]
def sgV (s : Sg) : Value := .agg (sgC s)
def noSg : Sg := ⟨0, false, 0⟩
section
variable (ev : Operand → Value) (d : Option Tmp) (ty : TypeId) (pos : String) (af : Array Edge) (gd : Option (Nat × Bool)) (w : World)
theorem ldSg (x : Operand) : (execOp ev ⟨d, .load 46 x, ty, pos, af, gd⟩).run Try.prog w = LdX 46 (ev x) w := rfl
theorem stSg (x y : Operand) : (execOp ev ⟨d, .store 46 x y, ty, pos, af, gd⟩).run Try.prog w = StX 46 (ev x) (ev y) w := rfl
theorem alSg : (execOp ev ⟨d, .alloc 46, ty, pos, af, gd⟩).run Try.prog w = AlX 46 w := rfl
theorem bxSg (x : Operand) : (execOp ev ⟨d, .box 46 x, ty, pos, af, gd⟩).run Try.prog w = BxX 46 (ev x) w := rfl
theorem eqSg (op : BinOp) (x y : Operand) (z : TypeId) : (execOp ev ⟨d, .binOp op 46 x y z, ty, pos, af, gd⟩).run Try.prog w = EqX op 46 x y (ev x) (ev y) w := rfl
theorem bdSg (ps : Array (Nat × Operand)) : (execOp ev ⟨d, .build 46 ps, ty, pos, af, gd⟩).run Try.prog w = BdX 46 (ps.map fun (i, x) => (i, ev x)) w := rfl
theorem bd_sg (p : Int) : BdX 46 #[(0, .int .i64 p)] w = .ok (.value (sgV ⟨p, false, 0⟩)) w := by kernel_rfl
theorem bd_sg0 : BdX 46 #[] w = .ok (.value (sgV noSg)) w := by kernel_rfl
theorem zeroSg (W : World) : (zeroValue 46).run Try.prog W = .ok (.agg (sgC noSg)) W := by kernel_rfl
theorem al_sg : AlX 46 w = .ok (.value (.pointer (some ⟨w.heap.size, 0, none⟩))) (w.alloc (.cells (sgC noSg) 46)) := al_any _ _ w zeroSg
theorem bx_sg (s : Sg) : BxX 46 (sgV s) w = .ok (.value (.pointer (some ⟨w.heap.size, 0, none⟩))) (w.alloc (.cells (sgC s) 46)) := bx_any _ _ w
theorem guardSg : Try.prog.eqGuardType Try.prog.depth 46 = false := by kernel_rfl
theorem fieldsSg : Try.prog.underlying 46 = some (.struct (Try.prog.fieldsOf 46)) := by kernel_rfl
end
theorem size3 (s : Sg) : (Try.prog.info? 46).map (·.size) = some (sgC s).size := by
  show _ = some 3
  kernel_rfl
theorem load3 {W : World} {g : Nat} {s : Sg} (h : Row W g 46 (sgC s)) : (loadVar 46 ⟨g, 0, none⟩).run Try.prog W = .ok (.agg (sgC s)) W :=
  run_loadVar_row (P := Try.prog) W g 46 46 _ (0, 0) _ h Try.underlying46 rfl (size3 s)
theorem sg_set {W : World} {g : Nat} {o : Sg} (h : Row W g 46 (sgC o)) (s : Sg) : Row (W.setRow g (sgC s)) g 46 (sgC s) := setRow_heap _ _ _ _ _ _ h
theorem ld_sg {W : World} {g : Nat} {s : Sg} (h : Row W g 46 (sgC s)) : LdX 46 (.pointer (some ⟨g, 0, none⟩)) W = .ok (.value (sgV s)) W := by
  simp only [LdX, Instr.loadAt, Instr.sureAddr, Sem.run_bind, Sem.run_pure, Result.andThen_ok, load3 h]
  rfl
theorem st_sg {W : World} {g : Nat} {o : Sg} (h : Row W g 46 (sgC o)) (s : Sg) : StX 46 (.pointer (some ⟨g, 0, none⟩)) (sgV s) W = .ok .skip (W.setRow g (sgC s)) := by
  have := run_storeVar_row (P := Try.prog) W g 46 46 (sgC o) (sgC s) h (size3 s) rfl (by simp [sgC, Value.oneCell'])
  simp only [StX, Instr.storeAt, Instr.sureAddr, Sem.run_bind, Sem.run_pure, Result.andThen_ok, sgV]
  rw [this]
  rfl
theorem st_sgnew (W : World) (s : Sg) : StX 46 (.pointer (some ⟨W.heap.size, 0, none⟩)) (sgV s) (W.alloc (.cells (sgC noSg) 46)) = .ok .skip (W.alloc (.cells (sgC s) 46)) := by
  rw [st_sg (Row.new W (sgC noSg) 46) s, alloc_setRow]
theorem Row.s {W : World} {g : Nat} {s : Sg} (h : Row W g 46 (sgC s)) : (W.cell? ⟨g, 0, none⟩ = some (.int .i64 s.phase) ∧ W.cell? ⟨g, 1, none⟩ = some (.bool s.given) ∧ W.cell? ⟨g, 2, none⟩ = some (.int .i64 s.ref)) ∧ W.frozen? ⟨g, 0, none⟩ = false ∧ W.frozen? ⟨g, 1, none⟩ = false ∧ W.frozen? ⟨g, 2, none⟩ = false :=
  ⟨⟨h.cell 0, h.cell 1, h.cell 2⟩, h.free 0, h.free 1, h.free 2⟩
theorem Row.more {w : World} {g : Nat} {T : TypeId} {cs : Array Value} (h : Row w g T cs) (o : Obj) : Row (w.alloc o) g T cs := h.below ((Below.refl _ _).alloc (Nat.le_refl _) o)

/-- Whether two are the same. -/
def sagaEq (x y : Sg) : Bool := x.phase == y.phase && (x.given == y.given && x.ref == y.ref)
theorem sagaEq_iff (x y : Sg) : sagaEq x y = true ↔ x = y := by
  obtain ⟨a1, a2, a3⟩ := x
  obtain ⟨b1, b2, b3⟩ := y
  simp only [sagaEq, Bool.and_eq_true, beq_iff_eq, Sg.mk.injEq]
theorem sagaEq_self (x : Sg) : sagaEq x x = true := (sagaEq_iff x x).2 rfl
theorem stoodSg : Try.prog.stoodInHeld 46 = false := by kernel_rfl
set_option maxHeartbeats 4000000 in
theorem run_eq_sg (w : World) (x y : Sg) : (Op.equalIn 10000 46 (sgV x) (sgV y)).run Try.prog w = .ok (sagaEq x y) w := by
  unfold sgV
  rw [run_equalIn_struct w 9999 46 _ _ fieldsSg stoodSg]
  have hf : (Try.prog.fieldsOf 46).toList = (match Try.prog.underlying 46 with | some (.struct fs) => fs | _ => #[]).toList := rfl
  rw [hf, Try.underlying46]
  simp only [sgC]
  unfold sagaEq
  cases h1 : x.phase == y.phase
  · go_simp
  · cases h2 : x.given == y.given
    · go_simp
    · cases h3 : x.ref == y.ref
      · go_simp
      · go_simp
theorem nes_sg (w : World) (x y : Sg) (a b : Operand) : EqX .neq 46 a b (sgV x) (sgV y) w = .ok (.value (.bool (!(sagaEq x y)))) w := by
  have h := run_eq_sg w x y
  unfold sgV at *
  simp only [EqX, Sem.run_bind, Sem.run_pure, Result.andThen_ok, run_eqGuard_agg w .neq 46 a b (sgC x) (sgC y) guardSg, run_neq_struct, h]
theorem eqs_sg (w : World) (x y : Sg) (a b : Operand) : EqX .eql 46 a b (sgV x) (sgV y) w = .ok (.value (.bool (sagaEq x y))) w := by
  have h := run_eq_sg w x y
  unfold sgV at *
  simp only [EqX, Sem.run_bind, Sem.run_pure, Result.andThen_ok, run_eqGuard_agg w .eql 46 a b (sgC x) (sgC y) guardSg, run_eql_struct, h]

theorem results_cell_two {fn : Func} {p u v : Tmp} {ty : TypeId} (h : fn.results = #[.cell p ty, .tmp u, .tmp v]) (tmps : Array Value) (w : World) (g : Nat) (cs : Array Value)
    (hp : tmps.getD p undef = .pointer (some ⟨g, 0, none⟩)) (hl : (loadVar ty ⟨g, 0, none⟩).run Try.prog w = .ok (.agg cs) w) :
    (results fn tmps).run Try.prog w = .ok (.tuple #[.agg cs, tmps.getD u undef, tmps.getD v undef]) w := by
  have hp' : tmps[p]?.getD undef = .pointer (some ⟨g, 0, none⟩) := by simpa using hp
  simp [results, h, hp', asAddr, hl]

/-- A saga, what it asks for and an error's number are answered; all that was there stays. -/
def StepP (r : Sg × Int × Int) (w : World) (e : Ending) (w' : World) : Prop := e = .returned (.tuple #[sgV r.1, .int .i64 r.2.1, .int .i64 r.2.2]) ∧ Below w.heap.size w w'
/-- A number is answered; all that was there stays. -/
def NumP (n : Int) (w : World) (e : Ending) (w' : World) : Prop := e = .returned (.int .i64 n) ∧ Below w.heap.size w w'
end

/- SgProg: What Asks and Left of package saga answer. -/
section
set_option maxRecDepth 100000
open Go.RowKit Go.ChangeShapes Go.WideShapes Go.ChangeAt
attribute [local go_sem ↓] ldSg stSg alSg bxSg eqSg bdSg
attribute [local go_sem] al_sg bx_sg bd_sg bd_sg0 st_sgnew

set_option maxHeartbeats 1000000 in
theorem asks_any (p : Int) (w : World) : Calls Try.prog 105 #[.int .i64 p] w (NumP (asksN p) w) := by
  by_cases h : p = 1 ∨ p = 2 ∨ p = 7 ∨ p = 9 ∨ p = 10
  · rcases h with rfl | rfl | rfl | rfl | rfl
    all_goals
      go_enter Try.func105, Try.ntmps105
      go_wp2_with fail
      go_ret
      exact ⟨rfl, Below.refl _ _⟩
  · have h1 : (p == 1) = false := by rw [beq_eq_false_iff_ne]; omega
    have h2 : (p == 2) = false := by rw [beq_eq_false_iff_ne]; omega
    have h3 : (p == 7) = false := by rw [beq_eq_false_iff_ne]; omega
    have h4 : (p == 9) = false := by rw [beq_eq_false_iff_ne]; omega
    have h5 : (p == 10) = false := by rw [beq_eq_false_iff_ne]; omega
    have HE := Lib.hid (show asksN p = 0 by unfold asksN; rw [if_neg (by omega), if_neg (by omega), if_neg (by omega), if_neg (by omega), if_neg (by omega)])
    clear h
    go_enter Try.func105, Try.ntmps105
    go_wp2_with fail
    go_ret
    exact ⟨by rw [HE.out]; rfl, Below.refl _ _⟩
end

/- SgAsk: The document's Asks: a map. -/
section
set_option maxRecDepth 100000
open Go.RowKit Go.Maps

theorem wf_small {a : Int} (h : -1 ≤ a ∧ a ≤ 100) : (Lit.int .i64 a).wf = true := by
  simp [Lit.wf, IntKind.min, IntKind.max, IntKind.signed, IntKind.bits]
  omega
theorem run_makeMap0 (w : World) : (Instr.makeMap 126 none).run Try.prog w = .ok (.map (some w.heap.size)) (w.alloc (.map #[] 0)) := by rfl
theorem zero3 (w : World) : (zeroValue 3).run Try.prog w = .ok (.int .i64 0) w := by kernel_rfl
/-- The map's entries, one behind the other. -/
def putD (D : DataW Unit) (k v : Int) : DataW Unit := D.put (.int .i64 k) (.lit (.int .i64 v))
def askD : DataW Unit := putD (putD (putD (putD (putD (.map []) 1 1) 2 2) 7 5) 9 6) 10 7
theorem isMap_put {D : DataW Unit} (h : IsMap D) (k v : Int) : IsMap (putD D k v) := by
  obtain ⟨es, rfl⟩ := h
  exact ⟨_, rfl⟩
theorem at_put {D : DataW Unit} (h : IsMap D) (k v p : Int) (z : DataW Unit) : (putD D k v).atKey (.int .i64 p) z = if p = k then .lit (.int .i64 v) else D.atKey (.int .i64 p) z := by
  unfold putD
  split
  · rename_i e
    subst e
    exact atKey_put_same (k := .int .i64 p) h trivial _ _
  · rename_i e
    exact atKey_put_other (fun hc => e (by injection hc)) _ _
theorem ask_at (p : Int) : askD.atKey (.int .i64 p) (.lit (.int .i64 0)) = .lit (.int .i64 (asksN p)) := by
  have m0 : IsMap (.map [] : DataW Unit) := isMap_empty
  have m1 := isMap_put m0 1 1
  have m2 := isMap_put m1 2 2
  have m3 := isMap_put m2 7 5
  have m4 := isMap_put m3 9 6
  unfold askD
  rw [at_put m4, at_put m3, at_put m2, at_put m1, at_put m0]
  unfold asksN
  by_cases h1 : p = 1
  · subst h1; rfl
  · by_cases h2 : p = 2
    · subst h2; rfl
    · by_cases h3 : p = 7
      · subst h3; rfl
      · by_cases h4 : p = 9
        · subst h4; rfl
        · by_cases h5 : p = 10
          · subst h5; rfl
          · simp only [h1, h2, h3, h4, h5, if_false]
            rfl

set_option maxHeartbeats 2000000 in
theorem refAsks_any (p : Int) (w : World) (hp : -1 ≤ p ∧ p ≤ 100) : Calls Try.prog 80 #[.int .i64 p] w (NumP (asksN p) w) := by
  have K := int_keyed Try.underlying3
  have ht := Try.underlying126
  have hmm := run_makeMap0 w
  have B0 := (Below.refl w.heap.size w).alloc (Nat.le_refl _) (.map #[] 0)
  have o0 := World.ownsMap_made (H := Unit) w Try.prog 3 (plainElem Try.prog 3)
  generalize w.alloc (.map #[] 0) = W0 at *
  obtain ⟨w1, r1, o1, g1⟩ := o0.update K ht (by unfold maxLen; omega) (keyOf_int_mk Try.underlying3 (wf_small (a := 1) (by omega))) (plainElem_int Try.underlying3 (wf_small (a := 1) (by omega)))
  obtain ⟨w2, r2, o2, g2⟩ := o1.update K ht (by unfold maxLen; omega) (keyOf_int_mk Try.underlying3 (wf_small (a := 2) (by omega))) (plainElem_int Try.underlying3 (wf_small (a := 2) (by omega)))
  obtain ⟨w3, r3, o3, g3⟩ := o2.update K ht (by unfold maxLen; omega) (keyOf_int_mk Try.underlying3 (wf_small (a := 7) (by omega))) (plainElem_int Try.underlying3 (wf_small (a := 5) (by omega)))
  obtain ⟨w4, r4, o4, g4⟩ := o3.update K ht (by unfold maxLen; omega) (keyOf_int_mk Try.underlying3 (wf_small (a := 9) (by omega))) (plainElem_int Try.underlying3 (wf_small (a := 6) (by omega)))
  obtain ⟨w5, r5, o5, g5⟩ := o4.update K ht (by unfold maxLen; omega) (keyOf_int_mk Try.underlying3 (wf_small (a := 10) (by omega))) (plainElem_int Try.underlying3 (wf_small (a := 7) (by omega)))
  have hr : ∀ k : Nat, some w.heap.size = some k → w.heap.size ≤ k := fun k hk => by injection hk with hk; omega
  have B5 := Lib.hid (((((B0.grown g1 B0.size hr).grown g2 (B0.grown g1 B0.size hr).size hr).grown g3 ((B0.grown g1 B0.size hr).grown g2 (B0.grown g1 B0.size hr).size hr).size hr).grown g4 (((B0.grown g1 B0.size hr).grown g2 (B0.grown g1 B0.size hr).size hr).grown g3 ((B0.grown g1 B0.size hr).grown g2 (B0.grown g1 B0.size hr).size hr).size hr).size hr).grown g5 ((((B0.grown g1 B0.size hr).grown g2 (B0.grown g1 B0.size hr).size hr).grown g3 ((B0.grown g1 B0.size hr).grown g2 (B0.grown g1 B0.size hr).size hr).size hr).grown g4 (((B0.grown g1 B0.size hr).grown g2 (B0.grown g1 B0.size hr).size hr).grown g3 ((B0.grown g1 B0.size hr).grown g2 (B0.grown g1 B0.size hr).size hr).size hr).size hr).size hr)
  obtain ⟨c, rl, hat, _⟩ := o5.lookup_int K ht Try.underlying3 (zero3 w5) (keyOf_int_mk Try.underlying3 (wf_small hp))
  have hc : c = asksN p := by
    have h2 := ask_at p
    have h3 := hat.symm.trans h2
    injection h3 with h3
    injection h3 with _ h3
  clear o0 o1 o2 o3 o4 o5 g1 g2 g3 g4 g5 hat hr K ht B0
  go_enter Try.func80, Try.ntmps80
  go_wp2_with fail
  go_ret
  exact ⟨rfl, B5.out⟩
end

end Go.Proofs.Ytaghbfnikcldiaa
