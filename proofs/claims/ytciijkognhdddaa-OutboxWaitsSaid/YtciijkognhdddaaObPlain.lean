/- Plain facts on what is asked of the outside: which can be, what is sent and settled, their bytes, and what bytes are read as. -/
import Derived.Test.YtciijkognhdddaaScPlain
import Derived.Test.YtciijkognhdddaaTkPlain
namespace Go.Proofs.Ytciijkognhdddaa
set_option maxRecDepth 100000

/-- One that is asked. -/
structure Ef where
  key : Int
  batch : Int
  due : Int
  kind : Int
  tries : Int
  order : ByteArray

def noEf : Ef := ⟨0, 0, 0, 0, 0, ⟨#[]⟩⟩
def triesB (n : Int) : Bool := decide (0 ≤ n ∧ n ≤ 1000000)
def bothB (n : Int) : Bool := decide (n = 3 ∨ n = 4)
def soleB (n : Int) : Bool := decide (n = 1 ∨ n = 2 ∨ n = 5 ∨ n = 6 ∨ n = 7)
def emptyT (s : ByteArray) : Bool := s.toList == []
def ofB (e : Ef) : Bool := if bothB e.kind then aboveB e.batch && emptyT e.order else if soleB e.kind then decide (e.batch = 0) && rightT e.order else false
def oneB (e : Ef) : Bool := aboveB e.key && (tickB e.due && (triesB e.tries && ofB e))
/-- Those of l, behind a key. -/
def goodE (last : Int) : List Ef → Bool
  | [] => true
  | e :: r => oneB e && decide (last < e.key) && goodE e.key r
def rightE (l : List Ef) : Bool := goodE 0 l
/-- The key ahead of a place. -/
def keyAt (l : List Ef) (k : Nat) : Int := if k = 0 then 0 else (l[k - 1]?.map (·.key)).getD 0
theorem goodE_step (l : List Ef) (k : Nat) (h : k < l.length) : goodE (keyAt l k) (l.drop k) = (oneB l[k] && decide (keyAt l k < l[k].key) && goodE (keyAt l (k + 1)) (l.drop (k + 1))) := by
  rw [List.drop_eq_getElem_cons h, goodE]
  have : keyAt l (k + 1) = l[k].key := by simp [keyAt, h]
  rw [this]
theorem rightE_at (l : List Ef) : rightE l = goodE (keyAt l 0) (l.drop 0) := by simp [rightE, keyAt]

theorem goodE_iff : ∀ (l : List Ef) (last : Int), goodE last l = true ↔ (∀ e ∈ l, oneB e = true) ∧ (last :: l.map (·.key)).Pairwise (· < ·)
  | [], last => by simp [goodE]
  | e :: r, last => by
    have ih := goodE_iff r e.key
    simp only [goodE, Bool.and_eq_true, decide_eq_true_eq, ih, List.map_cons]
    constructor
    · rintro ⟨⟨h1, h2⟩, h3, h4⟩
      refine ⟨fun y hy => ?_, ?_⟩
      · rcases List.mem_cons.1 hy with rfl | hy
        · exact h1
        · exact h3 y hy
      · rw [List.pairwise_cons]
        refine ⟨fun y hy => ?_, h4⟩
        rcases List.mem_cons.1 hy with rfl | hy
        · exact h2
        · exact Int.lt_trans h2 ((List.pairwise_cons.1 h4).1 y hy)
    · rintro ⟨h1, h2⟩
      obtain ⟨h3, h4⟩ := List.pairwise_cons.1 h2
      exact ⟨⟨h1 e (by simp), h3 _ (by simp)⟩, fun y hy => h1 y (by simp [hy]), h4⟩
/-- It is right just where each can be and the keys rise. -/
theorem rightE_iff (l : List Ef) : rightE l = true ↔ (∀ e ∈ l, oneB e = true) ∧ (l.map (·.key)).Pairwise (· < ·) := by
  unfold rightE
  rw [goodE_iff, List.pairwise_cons]
  constructor
  · rintro ⟨h1, _, h3⟩; exact ⟨h1, h3⟩
  · rintro ⟨h1, h3⟩
    refine ⟨h1, fun y hy => ?_, h3⟩
    obtain ⟨e, he, rfl⟩ := List.mem_map.1 hy
    have := h1 e he
    simp only [oneB, Bool.and_eq_true, aboveB_iff] at this
    omega
theorem emptyT_size {s : ByteArray} (h : emptyT s = true) : s.size = 0 := by
  have e := (toList_iff s ByteArray.empty).1 (by unfold emptyT at h; rw [beq_iff_eq] at h; rw [h]; simp)
  rw [e]; rfl
theorem oneB_of {e : Ef} (h : oneB e = true) : (1 ≤ e.key ∧ e.key ≤ 1000000000000) ∧ (0 ≤ e.due ∧ e.due ≤ 1099511627776) ∧ (0 ≤ e.tries ∧ e.tries ≤ 1000000) ∧ (1 ≤ e.kind ∧ e.kind ≤ 7) ∧ (0 ≤ e.batch ∧ e.batch ≤ 1000000000000) ∧ e.order.size ≤ 32 := by
  simp only [oneB, Bool.and_eq_true, aboveB_iff, tickB_iff, triesB, decide_eq_true_eq] at h
  obtain ⟨h1, h2, h3, h4⟩ := h
  refine ⟨h1, h2, h3, ?_⟩
  unfold ofB at h4
  split at h4
  · rename_i hk
    simp only [bothB, decide_eq_true_eq] at hk
    simp only [Bool.and_eq_true, aboveB_iff] at h4
    refine ⟨by omega, by omega, ?_⟩
    rw [emptyT_size h4.2]; decide
  · split at h4
    · rename_i hk
      simp only [soleB, decide_eq_true_eq] at hk
      simp only [Bool.and_eq_true, decide_eq_true_eq] at h4
      exact ⟨by omega, by omega, right_32 h4.2⟩
    · cases h4

/-- The one of a key. -/
def hasK (e : Ef) (key : Int) : Bool := decide (e.key = key)
def findE (l : List Ef) (key : Int) : Option Ef := l.find? (hasK · key)
def findV (l : List Ef) (key : Int) : Ef := (findE l key).getD noEf
def findN (l : List Ef) (key : Int) : Int := if (findE l key).isSome then 0 else 131
def dueE (l : List Ef) (now : Int) : List Ef := l.filter fun e => decide (e.due ≤ now)
def backN (n : Int) : Int := 2 ^ (min n.toNat 6)
def bumpE (now : Int) (e : Ef) : Ef := ⟨e.key, e.batch, if 1099511627776 < now + backN e.tries then 1099511627776 else now + backN e.tries, e.kind, if e.tries < 1000000 then e.tries + 1 else e.tries, e.order⟩
def addEN (l : List Ef) (e : Ef) : Int := if rightE (l ++ [e]) then 0 else 131
def addEV (l : List Ef) (e : Ef) : List Ef := if rightE (l ++ [e]) then l ++ [e] else []
def sentOf (l : List Ef) (key now : Int) : List Ef := l.map fun e => if hasK e key then bumpE now e else e
def sentN (l : List Ef) (key now : Int) : Int := if (findE l key).isSome && tickB now then 0 else 131
def sentV (l : List Ef) (key now : Int) : List Ef := if (findE l key).isSome && tickB now then sentOf l key now else []
def restOf (l : List Ef) (key : Int) : List Ef := l.filter fun e => !hasK e key
def settleN (l : List Ef) (key : Int) : Int := findN l key
def settleV (l : List Ef) (key : Int) : List Ef := if (findE l key).isSome then restOf l key else []

theorem backN_in (n : Int) : 1 ≤ backN n ∧ backN n ≤ 64 := by
  unfold backN
  have h : min n.toNat 6 ≤ 6 := Nat.min_le_right _ _
  generalize min n.toNat 6 = k at h
  match k, h with
  | 0, _ => decide
  | 1, _ => decide
  | 2, _ => decide
  | 3, _ => decide
  | 4, _ => decide
  | 5, _ => decide
  | 6, _ => decide
  | _ + 7, h => omega
theorem bumpE_key (now : Int) (e : Ef) : (bumpE now e).key = e.key := rfl
theorem bumpE_one {now : Int} (hn : tickB now = true) {e : Ef} (h : oneB e = true) : oneB (bumpE now e) = true := by
  have hb := backN_in e.tries
  rw [tickB_iff] at hn
  simp only [oneB, Bool.and_eq_true, tickB_iff, triesB, decide_eq_true_eq] at h ⊢
  obtain ⟨h1, h2, h3, h4⟩ := h
  refine ⟨h1, ?_, ?_, h4⟩
  · simp only [bumpE]; split <;> omega
  · simp only [bumpE]; split <;> omega
theorem sentOf_keys (l : List Ef) (key now : Int) : (sentOf l key now).map (·.key) = l.map (·.key) := by
  unfold sentOf
  rw [List.map_map]
  refine List.map_congr_left fun e _ => ?_
  show (if hasK e key then bumpE now e else e).key = e.key
  split <;> rfl
theorem right_sent {l : List Ef} (h : rightE l = true) (key : Int) {now : Int} (hn : tickB now = true) : rightE (sentOf l key now) = true := by
  rw [rightE_iff] at h ⊢
  refine ⟨fun e he => ?_, by rw [sentOf_keys]; exact h.2⟩
  obtain ⟨x, hx, rfl⟩ := List.mem_map.1 he
  split
  · exact bumpE_one hn (h.1 x hx)
  · exact h.1 x hx
theorem right_filter {l : List Ef} (h : rightE l = true) (p : Ef → Bool) : rightE (l.filter p) = true := by
  rw [rightE_iff] at h ⊢
  exact ⟨fun e he => h.1 e (List.mem_filter.1 he).1, h.2.sublist (List.Sublist.map _ List.filter_sublist)⟩
theorem right_rest {l : List Ef} (h : rightE l = true) (key : Int) : rightE (restOf l key) = true := right_filter h _
theorem right_due {l : List Ef} (h : rightE l = true) (now : Int) : rightE (dueE l now) = true := right_filter h _

/-- It can be put at the end just where it can be and its key is above all. -/
theorem right_add (l : List Ef) (e : Ef) : rightE (l ++ [e]) = (rightE l && oneB e && decide (keyAt l l.length < e.key)) := by
  have key : ∀ (l : List Ef) (last : Int), goodE last (l ++ [e]) = (goodE last l && oneB e && decide ((l.getLast?.map (·.key)).getD last < e.key)) := by
    intro l
    induction l with
    | nil =>
      intro last
      rw [List.nil_append, goodE, goodE, goodE]
      simp only [Bool.and_true, Bool.true_and]
      rfl
    | cons x r ih =>
      intro last
      rw [List.cons_append, goodE, goodE, ih]
      have : ((x :: r).getLast?.map (·.key)).getD last = (r.getLast?.map (·.key)).getD x.key := by
        cases r with
        | nil => rfl
        | cons y t => rw [List.getLast?_cons_cons, List.getLast?_cons]; rfl
      rw [this]
      simp only [Bool.and_assoc]
  unfold rightE
  rw [key]
  have : (l.getLast?.map (·.key)).getD 0 = keyAt l l.length := by
    unfold keyAt
    cases l with
    | nil => rfl
    | cons x r => rw [if_neg (by simp), List.getLast?_eq_getElem?]
  rw [this]

theorem find_mem {l : List Ef} {key : Int} {e : Ef} (h : findE l key = some e) : e ∈ l ∧ e.key = key := by
  refine ⟨List.mem_of_find?_eq_some h, ?_⟩
  have := List.find?_some h
  simpa [hasK] using this
theorem find_no {l : List Ef} {key : Int} (h : findE l key = none) : ∀ e ∈ l, hasK e key = false := by
  intro e he
  have := List.find?_eq_none.1 h e he
  simpa using this
theorem find_drop (l : List Ef) (key : Int) (k : Nat) (h : k < l.length) : findE (l.drop k) key = if hasK l[k] key then some l[k] else findE (l.drop (k + 1)) key := by
  unfold findE
  rw [List.drop_eq_getElem_cons h, List.find?_cons]
  cases hasK l[k] key <;> rfl
/-- Where keys rise, each stands once. -/
theorem right_once {l : List Ef} (h : rightE l = true) {i : Nat} (hi : i < l.length) : ∀ e ∈ l.take i ++ l.drop (i + 1), hasK e l[i].key = false := by
  have hp := ((rightE_iff l).1 h).2
  have e : l = l.take i ++ l[i] :: l.drop (i + 1) := by rw [← List.drop_eq_getElem_cons hi, List.take_append_drop]
  generalize l[i] = x at *
  generalize l.take i = p at *
  generalize l.drop (i + 1) = q at *
  subst e
  rw [List.map_append, List.map_cons, List.pairwise_append, List.pairwise_cons] at hp
  obtain ⟨_, ⟨h1, _⟩, h2⟩ := hp
  intro y hy
  unfold hasK
  rw [decide_eq_false_iff_not]
  rcases List.mem_append.1 hy with hy | hy
  · have := h2 y.key (List.mem_map.2 ⟨y, hy, rfl⟩) x.key (by simp)
    omega
  · have := h1 y.key (List.mem_map.2 ⟨y, hy, rfl⟩)
    omega
theorem find_of {l : List Ef} (h : rightE l = true) {i : Nat} (hi : i < l.length) : findE l l[i].key = some l[i] := by
  have ho := right_once h hi
  have e : l = l.take i ++ l[i] :: l.drop (i + 1) := by rw [← List.drop_eq_getElem_cons hi, List.take_append_drop]
  unfold findE
  generalize l[i] = x at *
  generalize l.take i = p at *
  generalize l.drop (i + 1) = q at *
  subst e
  rw [List.find?_append, List.find?_eq_none.2 (fun y hy => by rw [ho y (by simp [hy])]; decide), Option.none_or, List.find?_cons]
  simp [hasK]
theorem rest_of {l : List Ef} (h : rightE l = true) {i : Nat} (hi : i < l.length) : restOf l l[i].key = l.take i ++ l.drop (i + 1) := by
  have ho := right_once h hi
  have e : l = l.take i ++ l[i] :: l.drop (i + 1) := by rw [← List.drop_eq_getElem_cons hi, List.take_append_drop]
  unfold restOf
  generalize l[i] = x at *
  generalize l.take i = p at *
  generalize l.drop (i + 1) = q at *
  subst e
  have hp : p.filter (fun e => !hasK e x.key) = p := List.filter_eq_self.2 (fun y hy => by rw [ho y (by simp [hy])]; rfl)
  have hq : q.filter (fun e => !hasK e x.key) = q := List.filter_eq_self.2 (fun y hy => by rw [ho y (by simp [hy])]; rfl)
  rw [List.filter_append, List.filter_cons, hp, hq]
  simp [hasK]
theorem sent_of {l : List Ef} (h : rightE l = true) {i : Nat} (hi : i < l.length) (now : Int) : sentOf l l[i].key now = l.set i (bumpE now l[i]) := by
  have ho := right_once h hi
  rw [List.set_eq_take_append_cons_drop, if_pos hi]
  have e : l = l.take i ++ l[i] :: l.drop (i + 1) := by rw [← List.drop_eq_getElem_cons hi, List.take_append_drop]
  unfold sentOf
  generalize l[i] = x at *
  generalize l.take i = p at *
  generalize l.drop (i + 1) = q at *
  subst e
  rw [List.map_append, List.map_cons]
  have hm : ∀ t : List Ef, (∀ y ∈ t, hasK y x.key = false) → (t.map fun e => if hasK e x.key then bumpE now e else e) = t := fun t ht => by
    rw [List.map_congr_left (g := id) (fun y hy => by rw [ht y hy]; rfl), List.map_id]
  rw [hm p (fun y hy => ho y (by simp [hy])), hm q (fun y hy => ho y (by simp [hy]))]
  simp [hasK]
/-- What is added and settled leaves the rest as it was. -/
theorem rest_add {l : List Ef} {e : Ef} (h : rightE (l ++ [e]) = true) : restOf (l ++ [e]) e.key = l := by
  have hi : l.length < (l ++ [e]).length := by simp
  have := rest_of h hi
  have he : (l ++ [e])[l.length] = e := by simp
  rw [he] at this
  rw [this]
  simp
theorem find_add {l : List Ef} {e : Ef} (h : rightE (l ++ [e]) = true) : findE (l ++ [e]) e.key = some e := by
  have hi : l.length < (l ++ [e]).length := by simp
  have := find_of h hi
  have he : (l ++ [e])[l.length] = e := by simp
  rwa [he] at this
/-- What is sent changes nobody else's. -/
theorem sent_add {l : List Ef} {e : Ef} (h : rightE (l ++ [e]) = true) (now : Int) : sentOf (l ++ [e]) e.key now = l ++ [bumpE now e] := by
  have hi : l.length < (l ++ [e]).length := by simp
  have := sent_of h hi now
  have he : (l ++ [e])[l.length] = e := by simp
  rw [he] at this
  rw [this]
  simp

/-- One's bytes. -/
def effL (e : Ef) : List Nat := numL e.key.toNat ++ (numL e.kind.toNat ++ (numL e.tries.toNat ++ (numL e.due.toNat ++ (numL e.batch.toNat ++ textL e.order))))
def effsL (l : List Ef) : List Nat := (l.map effL).flatten
def boxL (l : List Ef) : List Nat := numL l.length ++ effsL l
def effS (s : Sc) : Ef × Sc :=
  let k := numS 1000000000000 s
  let d := numS 7 k.2
  let t := numS 1000000 d.2
  let f := numS 1099511627776 t.2
  let b := numS 1000000000000 f.2
  let o := textS 32 b.2
  (⟨(k.1 : Int), (b.1 : Int), (f.1 : Int), (d.1 : Int), (t.1 : Int), strB o.1⟩, o.2)
def effsS : Nat → Sc → List Ef × Sc
  | 0, s => ([], s)
  | n + 1, s => ((effS s).1 :: (effsS n (effS s).2).1, (effsS n (effS s).2).2)
def boxS (s : Sc) : List Ef × Sc := effsS (numS 1048576 s).1 (numS 1048576 s).2
/-- The outbox that stands next; none, if there is none. -/
def boxO (s : Sc) : Option (List Ef) := if (boxS s).2.isSome && rightE (boxS s).1 then some (boxS s).1 else none
def boxV (s : Sc) : List Ef := (boxO s).getD []

theorem effsL_cons (e : Ef) (l : List Ef) : effsL (e :: l) = effL e ++ effsL l := by simp [effsL]
theorem effsL_drop {l : List Ef} {k : Nat} (h : k < l.length) : effsL (l.drop k) = effL l[k] ++ effsL (l.drop (k + 1)) := by rw [List.drop_eq_getElem_cons h, effsL_cons]
theorem effL_bytes (e : Ef) : Bytes (effL e) := by
  unfold effL
  repeat' (first | exact textL_bytes _ | exact numL_bytes _ | apply bytes_app)
theorem effsL_bytes : ∀ (l : List Ef), Bytes (effsL l)
  | [] => fun b hb => by simp [effsL] at hb
  | e :: l => by rw [effsL_cons]; exact bytes_app (effL_bytes e) (effsL_bytes l)
theorem boxL_bytes (l : List Ef) : Bytes (boxL l) := bytes_app (numL_bytes _) (effsL_bytes l)
theorem effS_put {e : Ef} (h : oneB e = true) (r : List Nat) : effS (some (effL e ++ r)) = (e, some r) := by
  obtain ⟨r1, r2, r3, r4, r5, r6⟩ := oneB_of h
  unfold effS effL
  simp only [List.append_assoc]
  rw [numS_put (by omega)]
  simp only
  rw [numS_put (by omega)]
  simp only
  rw [numS_put (by omega)]
  simp only
  rw [numS_put (by omega)]
  simp only
  rw [numS_put (by omega)]
  simp only
  rw [textS_put r6]
  simp only [strB_strL]
  rw [Int.toNat_of_nonneg (by omega), Int.toNat_of_nonneg (by omega), Int.toNat_of_nonneg (by omega), Int.toNat_of_nonneg (by omega), Int.toNat_of_nonneg (by omega)]
theorem effsS_put : ∀ (l : List Ef) (_ : ∀ e ∈ l, oneB e = true) (r : List Nat), effsS l.length (some (effsL l ++ r)) = (l, some r)
  | [], _, r => by simp [effsS, effsL]
  | e :: l, h, r => by
    rw [effsL_cons, List.append_assoc, List.length_cons, effsS, effS_put (h e (by simp))]
    simp only
    rw [effsS_put l (fun y hy => h y (by simp [hy]))]
theorem boxS_put {l : List Ef} (h : rightE l = true) (hl : l.length ≤ 1048576) (r : List Nat) : boxS (some (boxL l ++ r)) = (l, some r) := by
  unfold boxS boxL
  rw [List.append_assoc, numS_put hl]
  exact effsS_put l ((rightE_iff l).1 h).1 r
theorem boxO_put {l : List Ef} (h : rightE l = true) (hl : l.length ≤ 1048576) (r : List Nat) : boxO (some (boxL l ++ r)) = some l := by
  unfold boxO
  rw [boxS_put h hl]
  simp [h]
theorem effS_bytes {s : Sc} (h : BytesS s) : BytesS (effS s).2 := (textS_bytes (numS_bytes (numS_bytes (numS_bytes (numS_bytes (numS_bytes h _) _) _) _) _) 32).1
theorem effS_back {s : Sc} (h : BytesS s) {r : List Nat} (e : (effS s).2 = some r) : s = some (effL (effS s).1 ++ r) := by
  unfold effS at e ⊢
  simp only at e ⊢
  have b1 := numS_bytes h 1000000000000
  generalize hi : numS 1000000000000 s = i at *
  have b2 := numS_bytes b1 7
  generalize hk : numS 7 i.2 = k at *
  have b3 := numS_bytes b2 1000000
  generalize hp : numS 1000000 k.2 = p at *
  have b4 := numS_bytes b3 1099511627776
  generalize ht : numS 1099511627776 p.2 = t at *
  have b5 := numS_bytes b4 1000000000000
  generalize hf : numS 1000000000000 t.2 = f at *
  have e6 := textS_back b5 (m := 32) e
  generalize textS 32 f.2 = g at *
  have e5 := numS_back b4 (m := 1000000000000) (by rw [hf]; exact e6)
  rw [hf] at e5
  have e4 := numS_back b3 (m := 1099511627776) (by rw [ht]; exact e5)
  rw [ht] at e4
  have e3 := numS_back b2 (m := 1000000) (by rw [hp]; exact e4)
  rw [hp] at e3
  have e2 := numS_back b1 (m := 7) (by rw [hk]; exact e3)
  rw [hk] at e2
  have e1 := numS_back h (m := 1000000000000) (by rw [hi]; exact e2)
  rw [hi] at e1
  unfold effL
  simp only [Int.toNat_natCast, List.append_assoc]
  exact e1
theorem effsS_len : ∀ (n : Nat) (s : Sc), (effsS n s).1.length = n
  | 0, _ => rfl
  | n + 1, s => by rw [effsS]; simp [effsS_len n]
theorem effsS_bytes : ∀ (n : Nat) {s : Sc} (_ : BytesS s), BytesS (effsS n s).2
  | 0, _, h => h
  | n + 1, _, h => effsS_bytes n (effS_bytes h)
theorem effsS_back : ∀ (n : Nat) {s : Sc} (_ : BytesS s) {r : List Nat} (_ : (effsS n s).2 = some r), s = some (effsL (effsS n s).1 ++ r)
  | 0, s, _, r, e => by simpa [effsS, effsL] using e
  | n + 1, s, h, r, e => by
    rw [effsS] at e ⊢
    simp only at e ⊢
    have e2 := effsS_back n (effS_bytes h) e
    have e1 := effS_back h e2
    rw [effsL_cons, List.append_assoc]
    exact e1
theorem boxS_back {s : Sc} (h : BytesS s) {r : List Nat} (e : (boxS s).2 = some r) : s = some (boxL (boxS s).1 ++ r) := by
  unfold boxS at e ⊢
  have b1 := numS_bytes h 1048576
  have e1 := effsS_back _ b1 e
  have e2 := numS_back h (m := 1048576) e1
  unfold boxL
  rw [effsS_len, List.append_assoc]
  exact e2
theorem boxO_some {s : Sc} {l : List Ef} (h : boxO s = some l) : ∃ r, boxS s = (l, some r) ∧ rightE l = true := by
  unfold boxO at h
  split at h
  · rename_i h1
    simp only [Bool.and_eq_true] at h1
    obtain ⟨r, hr⟩ := Option.isSome_iff_exists.1 h1.1
    cases h
    exact ⟨r, by rw [← hr], h1.2⟩
  · cases h
theorem boxS_le {s : Sc} (h : BytesS s) : (boxS s).1.length ≤ 1048576 := by
  unfold boxS
  rw [effsS_len]
  exact numS_le _ _ h
/-- An outbox's bytes, cut off, are none. -/
theorem boxO_cut {l : List Ef} (h : rightE l = true) (hl : l.length ≤ 1048576) {n : Nat} (hn : n < (boxL l).length) : boxO (some ((boxL l).take n)) = none := by
  cases e : boxO (some ((boxL l).take n)) with
  | none => rfl
  | some x =>
    exfalso
    obtain ⟨r, h1, h2⟩ := boxO_some e
    have hb : BytesS (some ((boxL l).take n)) := fun b' hb => by cases hb; exact fun y hy => boxL_bytes l y (List.mem_of_mem_take hy)
    have e1 := boxS_back hb (r := r) (by rw [h1])
    have hx := boxS_le hb
    rw [h1] at e1 hx
    injection e1 with e1
    have e2 : boxL l = boxL x ++ (r ++ (boxL l).drop n) := by rw [← List.append_assoc, ← e1, List.take_append_drop]
    have e3 := boxS_put h2 hx (r ++ (boxL l).drop n)
    rw [← e2] at e3
    have e4 := boxS_put h hl []
    rw [List.append_nil, e3] at e4
    have e5 := congrArg Prod.snd e4
    simp at e5
    omega
/-- Once nothing can be read, nothing is. -/
theorem effS_none : (effS none).2 = none := by
  unfold effS
  simp only [numS_none, textS_none]
theorem effsS_none : ∀ (n : Nat), (effsS n none).2 = none
  | 0 => rfl
  | n + 1 => by rw [effsS]; simp only [effS_none]; exact effsS_none n

end Go.Proofs.Ytciijkognhdddaa
