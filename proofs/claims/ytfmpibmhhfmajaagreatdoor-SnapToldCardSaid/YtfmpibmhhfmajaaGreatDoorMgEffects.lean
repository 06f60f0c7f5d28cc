/- Effects, phases. -/
import Derived.Test.YtfmpibmhhfmajaaGreatDoorMgLines
import Derived.Test.YtfmpibmhhfmajaaGreatDoorMgBatches
import Derived.Test.YtfmpibmhhfmajaaGreatDoorPSl
import Derived.Deep.RegionLaw
import Derived.Maps.OwnSet
import Derived.Maps.OwnOps
namespace Go.Proofs.YtfmpibmhhfmajaaGreatDoor
/- ObPlain: Plain facts on what is asked of the outside: which can be, what is sent and settled, their bytes, and what bytes are read as. -/
section
set_option maxRecDepth 100000

/-- One that is asked. -/
structure Ef where
  key : Int
  batch : Int
  due : Int
  kind : Int
  tries : Int
  order : ByteArray

def noEf : Ef := ⟨0, 0, 0, 0, 0, ⟨#[]⟩⟩
def triesB (n : Int) : Bool := decide (0 ≤ n ∧ n ≤ 1000000)
def bothB (n : Int) : Bool := decide (n = 3 ∨ n = 4)
def soleB (n : Int) : Bool := decide (n = 1 ∨ n = 2 ∨ n = 5 ∨ n = 6 ∨ n = 7)
def emptyT (s : ByteArray) : Bool := s.toList == []
def ofB (e : Ef) : Bool := if bothB e.kind then aboveB e.batch && emptyT e.order else if soleB e.kind then decide (e.batch = 0) && rightT e.order else false
def oneB (e : Ef) : Bool := aboveB e.key && (tickB e.due && (triesB e.tries && ofB e))
/-- Those of l, behind a key. -/
def goodE (last : Int) : List Ef → Bool
  | [] => true
  | e :: r => oneB e && decide (last < e.key) && goodE e.key r
def rightE (l : List Ef) : Bool := goodE 0 l
/-- The key ahead of a place. -/
def keyAt (l : List Ef) (k : Nat) : Int := if k = 0 then 0 else (l[k - 1]?.map (·.key)).getD 0
theorem goodE_step (l : List Ef) (k : Nat) (h : k < l.length) : goodE (keyAt l k) (l.drop k) = (oneB l[k] && decide (keyAt l k < l[k].key) && goodE (keyAt l (k + 1)) (l.drop (k + 1))) := by
  rw [List.drop_eq_getElem_cons h, goodE]
  have : keyAt l (k + 1) = l[k].key := by simp [keyAt, h]
  rw [this]
theorem rightE_at (l : List Ef) : rightE l = goodE (keyAt l 0) (l.drop 0) := by simp [rightE, keyAt]

theorem goodE_iff : ∀ (l : List Ef) (last : Int), goodE last l = true ↔ (∀ e ∈ l, oneB e = true) ∧ (last :: l.map (·.key)).Pairwise (· < ·)
  | [], last => by simp [goodE]
  | e :: r, last => by
    have ih := goodE_iff r e.key
    simp only [goodE, Bool.and_eq_true, decide_eq_true_eq, ih, List.map_cons]
    constructor
    · rintro ⟨⟨h1, h2⟩, h3, h4⟩
      refine ⟨fun y hy => ?_, ?_⟩
      · rcases List.mem_cons.1 hy with rfl | hy
        · exact h1
        · exact h3 y hy
      · rw [List.pairwise_cons]
        refine ⟨fun y hy => ?_, h4⟩
        rcases List.mem_cons.1 hy with rfl | hy
        · exact h2
        · exact Int.lt_trans h2 ((List.pairwise_cons.1 h4).1 y hy)
    · rintro ⟨h1, h2⟩
      obtain ⟨h3, h4⟩ := List.pairwise_cons.1 h2
      exact ⟨⟨h1 e (by simp), h3 _ (by simp)⟩, fun y hy => h1 y (by simp [hy]), h4⟩
/-- It is right just where each can be and the keys rise. -/
theorem rightE_iff (l : List Ef) : rightE l = true ↔ (∀ e ∈ l, oneB e = true) ∧ (l.map (·.key)).Pairwise (· < ·) := by
  unfold rightE
  rw [goodE_iff, List.pairwise_cons]
  constructor
  · rintro ⟨h1, _, h3⟩; exact ⟨h1, h3⟩
  · rintro ⟨h1, h3⟩
    refine ⟨h1, fun y hy => ?_, h3⟩
    obtain ⟨e, he, rfl⟩ := List.mem_map.1 hy
    have := h1 e he
    simp only [oneB, Bool.and_eq_true, aboveB_iff] at this
    omega
theorem emptyT_size {s : ByteArray} (h : emptyT s = true) : s.size = 0 := by
  have e := (toList_iff s ByteArray.empty).1 (by unfold emptyT at h; rw [beq_iff_eq] at h; rw [h]; simp)
  rw [e]; rfl
theorem oneB_of {e : Ef} (h : oneB e = true) : (1 ≤ e.key ∧ e.key ≤ 1000000000000) ∧ (0 ≤ e.due ∧ e.due ≤ 1099511627776) ∧ (0 ≤ e.tries ∧ e.tries ≤ 1000000) ∧ (1 ≤ e.kind ∧ e.kind ≤ 7) ∧ (0 ≤ e.batch ∧ e.batch ≤ 1000000000000) ∧ e.order.size ≤ 32 := by
  simp only [oneB, Bool.and_eq_true, aboveB_iff, tickB_iff, triesB, decide_eq_true_eq] at h
  obtain ⟨h1, h2, h3, h4⟩ := h
  refine ⟨h1, h2, h3, ?_⟩
  unfold ofB at h4
  split at h4
  · rename_i hk
    simp only [bothB, decide_eq_true_eq] at hk
    simp only [Bool.and_eq_true, aboveB_iff] at h4
    refine ⟨by omega, by omega, ?_⟩
    rw [emptyT_size h4.2]; decide
  · split at h4
    · rename_i hk
      simp only [soleB, decide_eq_true_eq] at hk
      simp only [Bool.and_eq_true, decide_eq_true_eq] at h4
      exact ⟨by omega, by omega, right_32 h4.2⟩
    · cases h4

/-- It can be put at the end just where it can be and its key is above all. -/
theorem right_add (l : List Ef) (e : Ef) : rightE (l ++ [e]) = (rightE l && oneB e && decide (keyAt l l.length < e.key)) := by
  have key : ∀ (l : List Ef) (last : Int), goodE last (l ++ [e]) = (goodE last l && oneB e && decide ((l.getLast?.map (·.key)).getD last < e.key)) := by
    intro l
    induction l with
    | nil =>
      intro last
      rw [List.nil_append, goodE, goodE, goodE]
      simp only [Bool.and_true, Bool.true_and]
      rfl
    | cons x r ih =>
      intro last
      rw [List.cons_append, goodE, goodE, ih]
      have : ((x :: r).getLast?.map (·.key)).getD last = (r.getLast?.map (·.key)).getD x.key := by
        cases r with
        | nil => rfl
        | cons y t => rw [List.getLast?_cons_cons, List.getLast?_cons]; rfl
      rw [this]
      simp only [Bool.and_assoc]
  unfold rightE
  rw [key]
  have : (l.getLast?.map (·.key)).getD 0 = keyAt l l.length := by
    unfold keyAt
    cases l with
    | nil => rfl
    | cons x r => rw [if_neg (by simp), List.getLast?_eq_getElem?]
  rw [this]

/-- One's bytes. -/
def effL (e : Ef) : List Nat := numL e.key.toNat ++ (numL e.kind.toNat ++ (numL e.tries.toNat ++ (numL e.due.toNat ++ (numL e.batch.toNat ++ textL e.order))))
def effsL (l : List Ef) : List Nat := (l.map effL).flatten
def boxL (l : List Ef) : List Nat := numL l.length ++ effsL l
def effS (s : Sc) : Ef × Sc :=
  let k := numS 1000000000000 s
  let d := numS 7 k.2
  let t := numS 1000000 d.2
  let f := numS 1099511627776 t.2
  let b := numS 1000000000000 f.2
  let o := textS 32 b.2
  (⟨(k.1 : Int), (b.1 : Int), (f.1 : Int), (d.1 : Int), (t.1 : Int), strB o.1⟩, o.2)
def effsS : Nat → Sc → List Ef × Sc
  | 0, s => ([], s)
  | n + 1, s => ((effS s).1 :: (effsS n (effS s).2).1, (effsS n (effS s).2).2)
def boxS (s : Sc) : List Ef × Sc := effsS (numS 1048576 s).1 (numS 1048576 s).2
/-- The outbox that stands next; none, if there is none. -/
def boxO (s : Sc) : Option (List Ef) := if (boxS s).2.isSome && rightE (boxS s).1 then some (boxS s).1 else none
def boxV (s : Sc) : List Ef := (boxO s).getD []

theorem effsL_cons (e : Ef) (l : List Ef) : effsL (e :: l) = effL e ++ effsL l := by simp [effsL]
theorem effsL_drop {l : List Ef} {k : Nat} (h : k < l.length) : effsL (l.drop k) = effL l[k] ++ effsL (l.drop (k + 1)) := by rw [List.drop_eq_getElem_cons h, effsL_cons]
theorem effL_bytes (e : Ef) : Bytes (effL e) := by
  unfold effL
  repeat' (first | exact textL_bytes _ | exact numL_bytes _ | apply bytes_app)
theorem effsL_bytes : ∀ (l : List Ef), Bytes (effsL l)
  | [] => fun b hb => by simp [effsL] at hb
  | e :: l => by rw [effsL_cons]; exact bytes_app (effL_bytes e) (effsL_bytes l)
theorem boxL_bytes (l : List Ef) : Bytes (boxL l) := bytes_app (numL_bytes _) (effsL_bytes l)
theorem effS_put {e : Ef} (h : oneB e = true) (r : List Nat) : effS (some (effL e ++ r)) = (e, some r) := by
  obtain ⟨r1, r2, r3, r4, r5, r6⟩ := oneB_of h
  unfold effS effL
  simp only [List.append_assoc]
  rw [numS_put (by omega)]
  simp only
  rw [numS_put (by omega)]
  simp only
  rw [numS_put (by omega)]
  simp only
  rw [numS_put (by omega)]
  simp only
  rw [numS_put (by omega)]
  simp only
  rw [textS_put r6]
  simp only [strB_strL]
  rw [Int.toNat_of_nonneg (by omega), Int.toNat_of_nonneg (by omega), Int.toNat_of_nonneg (by omega), Int.toNat_of_nonneg (by omega), Int.toNat_of_nonneg (by omega)]
theorem effsS_put : ∀ (l : List Ef) (_ : ∀ e ∈ l, oneB e = true) (r : List Nat), effsS l.length (some (effsL l ++ r)) = (l, some r)
  | [], _, r => by simp [effsS, effsL]
  | e :: l, h, r => by
    rw [effsL_cons, List.append_assoc, List.length_cons, effsS, effS_put (h e (by simp))]
    simp only
    rw [effsS_put l (fun y hy => h y (by simp [hy]))]
theorem boxS_put {l : List Ef} (h : rightE l = true) (hl : l.length ≤ 1048576) (r : List Nat) : boxS (some (boxL l ++ r)) = (l, some r) := by
  unfold boxS boxL
  rw [List.append_assoc, numS_put hl]
  exact effsS_put l ((rightE_iff l).1 h).1 r
theorem boxO_put {l : List Ef} (h : rightE l = true) (hl : l.length ≤ 1048576) (r : List Nat) : boxO (some (boxL l ++ r)) = some l := by
  unfold boxO
  rw [boxS_put h hl]
  simp [h]
theorem effS_bytes {s : Sc} (h : BytesS s) : BytesS (effS s).2 := (textS_bytes (numS_bytes (numS_bytes (numS_bytes (numS_bytes (numS_bytes h _) _) _) _) _) 32).1
theorem effS_back {s : Sc} (h : BytesS s) {r : List Nat} (e : (effS s).2 = some r) : s = some (effL (effS s).1 ++ r) := by
  unfold effS at e ⊢
  simp only at e ⊢
  have b1 := numS_bytes h 1000000000000
  generalize hi : numS 1000000000000 s = i at *
  have b2 := numS_bytes b1 7
  generalize hk : numS 7 i.2 = k at *
  have b3 := numS_bytes b2 1000000
  generalize hp : numS 1000000 k.2 = p at *
  have b4 := numS_bytes b3 1099511627776
  generalize ht : numS 1099511627776 p.2 = t at *
  have b5 := numS_bytes b4 1000000000000
  generalize hf : numS 1000000000000 t.2 = f at *
  have e6 := textS_back b5 (m := 32) e
  generalize textS 32 f.2 = g at *
  have e5 := numS_back b4 (m := 1000000000000) (by rw [hf]; exact e6)
  rw [hf] at e5
  have e4 := numS_back b3 (m := 1099511627776) (by rw [ht]; exact e5)
  rw [ht] at e4
  have e3 := numS_back b2 (m := 1000000) (by rw [hp]; exact e4)
  rw [hp] at e3
  have e2 := numS_back b1 (m := 7) (by rw [hk]; exact e3)
  rw [hk] at e2
  have e1 := numS_back h (m := 1000000000000) (by rw [hi]; exact e2)
  rw [hi] at e1
  unfold effL
  simp only [Int.toNat_natCast, List.append_assoc]
  exact e1
theorem effsS_len : ∀ (n : Nat) (s : Sc), (effsS n s).1.length = n
  | 0, _ => rfl
  | n + 1, s => by rw [effsS]; simp [effsS_len n]
theorem effsS_back : ∀ (n : Nat) {s : Sc} (_ : BytesS s) {r : List Nat} (_ : (effsS n s).2 = some r), s = some (effsL (effsS n s).1 ++ r)
  | 0, s, _, r, e => by simpa [effsS, effsL] using e
  | n + 1, s, h, r, e => by
    rw [effsS] at e ⊢
    simp only at e ⊢
    have e2 := effsS_back n (effS_bytes h) e
    have e1 := effS_back h e2
    rw [effsL_cons, List.append_assoc]
    exact e1
theorem boxS_back {s : Sc} (h : BytesS s) {r : List Nat} (e : (boxS s).2 = some r) : s = some (boxL (boxS s).1 ++ r) := by
  unfold boxS at e ⊢
  have b1 := numS_bytes h 1048576
  have e1 := effsS_back _ b1 e
  have e2 := numS_back h (m := 1048576) e1
  unfold boxL
  rw [effsS_len, List.append_assoc]
  exact e2
theorem boxO_some {s : Sc} {l : List Ef} (h : boxO s = some l) : ∃ r, boxS s = (l, some r) ∧ rightE l = true := by
  unfold boxO at h
  split at h
  · rename_i h1
    simp only [Bool.and_eq_true] at h1
    obtain ⟨r, hr⟩ := Option.isSome_iff_exists.1 h1.1
    cases h
    exact ⟨r, by rw [← hr], h1.2⟩
  · cases h
/-- Once nothing can be read, nothing is. -/
theorem effS_none : (effS none).2 = none := by
  unfold effS
  simp only [numS_none, textS_none]
theorem effsS_none : ∀ (n : Nat), (effsS n none).2 = none
  | 0 => rfl
  | n + 1 => by rw [effsS]; simp only [effS_none]; exact effsS_none n
end

/- ObLay: Effects as values: how they lie, whole loads and stores told at once, when two are the same. -/
section
set_option maxRecDepth 100000
open Go.RowKit Go.ChangeShapes Go.WideShapes Go.ChangeAt

def efL (e : Ef) : List Value := [.int .i64 e.key, .int .i64 e.batch, .int .i64 e.due, .int .i64 e.kind, .int .i64 e.tries, .string e.order]
def efC (e : Ef) : Array Value := #[.int .i64 e.key, .int .i64 e.batch, .int .i64 e.due, .int .i64 e.kind, .int .i64 e.tries, .string e.order]
def efV (e : Ef) : Value := .agg (efC e)
def LE : Lay Ef := ⟨efL, 6, 138, 35, efV noEf, 56⟩
theorem LE_ok : LE.Ok where
  len := fun _ => rfl
  one := fun x v h => by
    simp only [LE, efL, List.mem_cons, List.not_mem_nil, or_false] at h
    rcases h with rfl | rfl | rfl | rfl | rfl | rfl <;> rfl
  und := Tryz.underlying35
  info := by kernel_rfl
  zs := rfl
  pos := by decide
  few := by decide
  agg := fun W => by show (isAgg 138).run Tryz.prog W = _; kernel_rfl

section
variable (ev : Operand → Value) (d : Option Tmp) (ty : TypeId) (pos : String) (af : Array Edge) (gd : Option (Nat × Bool)) (w : World)
theorem ldEf (x : Operand) : (execOp ev ⟨d, .load 138 x, ty, pos, af, gd⟩).run Tryz.prog w = LdX 138 (ev x) w := rfl
theorem stEf (x y : Operand) : (execOp ev ⟨d, .store 138 x y, ty, pos, af, gd⟩).run Tryz.prog w = StX 138 (ev x) (ev y) w := rfl
theorem alEf : (execOp ev ⟨d, .alloc 138, ty, pos, af, gd⟩).run Tryz.prog w = AlX 138 w := rfl
theorem bxEf (x : Operand) : (execOp ev ⟨d, .box 138 x, ty, pos, af, gd⟩).run Tryz.prog w = BxX 138 (ev x) w := rfl
theorem eqEf (op : BinOp) (x y : Operand) (z : TypeId) : (execOp ev ⟨d, .binOp op 138 x y z, ty, pos, af, gd⟩).run Tryz.prog w = EqX op 138 x y (ev x) (ev y) w := rfl
theorem bdEf (ps : Array (Nat × Operand)) : (execOp ev ⟨d, .build 138 ps, ty, pos, af, gd⟩).run Tryz.prog w = BdX 138 (ps.map fun (i, x) => (i, ev x)) w := rfl
theorem bsEf (n : Nat) (ps : Array (Nat × Operand)) : (execOp ev ⟨d, .buildSlice 35 n ps, ty, pos, af, gd⟩).run Tryz.prog w = BsX 35 n (ps.map fun (i, x) => (i, ev x)) w := rfl
theorem bd_ef : BdX 138 #[] w = .ok (.value (efV noEf)) w := by kernel_rfl
theorem bs_ef (e : Ef) : BsX 35 1 #[(0, efV e)] w = .ok (.value (.slice (some ⟨w.heap.size, 0, none⟩) 1 1)) (w.alloc (.cells (efC e) 138)) := by kernel_rfl
theorem bs_ef0 : BsX 35 0 #[] w = .ok (.value (.slice (some ⟨w.heap.size, 0, none⟩) 0 0)) (w.alloc (.cells #[] 138)) := by kernel_rfl
theorem zeroEf (W : World) : (zeroValue 138).run Tryz.prog W = .ok (.agg (efC noEf)) W := by kernel_rfl
theorem al_ef : AlX 138 w = .ok (.value (.pointer (some ⟨w.heap.size, 0, none⟩))) (w.alloc (.cells (efC noEf) 138)) := al_any _ _ w zeroEf
theorem bx_ef (e : Ef) : BxX 138 (efV e) w = .ok (.value (.pointer (some ⟨w.heap.size, 0, none⟩))) (w.alloc (.cells (efC e) 138)) := bx_any _ _ w
theorem guardEf : Tryz.prog.eqGuardType Tryz.prog.depth 138 = false := by kernel_rfl
theorem fieldsEf : Tryz.prog.underlying 138 = some (.struct (Tryz.prog.fieldsOf 138)) := by kernel_rfl
end

theorem size6 (e : Ef) : (Tryz.prog.info? 138).map (·.size) = some (efC e).size := by
  show _ = some 6
  kernel_rfl
theorem row_set {W : World} {g : Nat} {o : Ef} (h : Row W g 138 (efC o)) (e : Ef) : Row (W.setRow g (efC e)) g 138 (efC e) := setRow_heap _ _ _ _ _ _ h
theorem ld_row {W : World} {g : Nat} {e : Ef} (h : Row W g 138 (efC e)) : LdX 138 (.pointer (some ⟨g, 0, none⟩)) W = .ok (.value (efV e)) W := by
  have := run_loadVar_row (P := Tryz.prog) W g 138 138 _ (0, 0) _ h Tryz.underlying138 rfl (size6 e)
  simp only [LdX, Instr.loadAt, Instr.sureAddr, Sem.run_bind, Sem.run_pure, Result.andThen_ok, this]
  rfl
theorem st_row {W : World} {g : Nat} {o : Ef} (h : Row W g 138 (efC o)) (e : Ef) : StX 138 (.pointer (some ⟨g, 0, none⟩)) (efV e) W = .ok .skip (W.setRow g (efC e)) := by
  have := run_storeVar_row (P := Tryz.prog) W g 138 138 (efC o) (efC e) h (size6 e) rfl (by simp [efC, Value.oneCell'])
  simp only [StX, Instr.storeAt, Instr.sureAddr, Sem.run_bind, Sem.run_pure, Result.andThen_ok, efV]
  rw [this]
  rfl

theorem st_new (W : World) (e : Ef) : StX 138 (.pointer (some ⟨W.heap.size, 0, none⟩)) (efV e) (W.alloc (.cells (efC noEf) 138)) = .ok .skip (W.alloc (.cells (efC e) 138)) := by
  rw [st_row (Row.new W (efC noEf) 138) e, alloc_setRow]

/-- Whether two are the same. -/
def eqB (x y : Ef) : Bool := x.key == y.key && (x.batch == y.batch && (x.due == y.due && (x.kind == y.kind && (x.tries == y.tries && x.order.toList == y.order.toList))))
theorem eqB_iff (x y : Ef) : eqB x y = true ↔ x = y := by
  obtain ⟨a1, a2, a3, a4, a5, a6⟩ := x
  obtain ⟨b1, b2, b3, b4, b5, b6⟩ := y
  simp only [eqB, Bool.and_eq_true, toList_iff]
  simp only [beq_iff_eq, Ef.mk.injEq]
end

/- ObArgs0: What came in as an effect, as effects. -/
section
set_option maxRecDepth 100000
open Go.ChangeShapes Go.WideShapes Go.ChangeAt Go.RowKit

end

/- ObLeaf: What the small functions of package outbox answer: whether an effect can be, how long one waits; the document's. -/
section
set_option maxRecDepth 100000
open Go.RowKit Go.ChangeShapes Go.WideShapes Go.ChangeAt
attribute [local go_sem ↓] ldEf stEf alEf bxEf eqEf
attribute [local go_sem] al_ef bx_ef

set_option maxHeartbeats 1000000 in
theorem obTick_any (n : Int) (w : World) : Calls Tryz.prog 81 #[.int .i64 n] w (BoolSame (tickB n) w) := by
  have HE := Lib.hid (show tickB n = (decide (0 ≤ n) && decide (n ≤ 1099511627776)) by rw [Bool.eq_iff_iff]; simp [tickB])
  cases h1 : decide (0 ≤ n) <;> cases h2 : decide (n ≤ 1099511627776)
  all_goals
    rw [h1, h2] at HE
    go_enter Tryz.func81, Tryz.ntmps81
    go_wp2_with fail
    go_ret
    exact ⟨by rw [HE.out]; rfl, rfl⟩
set_option maxHeartbeats 1000000 in
theorem obAbove_any (n : Int) (w : World) : Calls Tryz.prog 178 #[.int .i64 n] w (BoolSame (aboveB n) w) := by
  have HE := Lib.hid (show aboveB n = (decide (0 < n) && tallyB n) by rw [Bool.eq_iff_iff]; simp [aboveB, tallyB]; omega)
  have C := Lib.hid (fun w => tally_any n w)
  generalize tallyB n = t at *
  cases h1 : decide (0 < n)
  · rw [h1] at HE
    go_enter Tryz.func178, Tryz.ntmps178
    go_wp2_with fail
    go_ret
    exact ⟨by rw [HE.out]; rfl, rfl⟩
  · rw [h1] at HE
    go_enter Tryz.func178, Tryz.ntmps178
    go_wp2_with fail
    refine (C.out _).mono ?_
    rintro e w' ⟨rfl, rfl⟩
    go_wp2_with fail
    go_ret
    exact ⟨by rw [HE.out]; rfl, rfl⟩

theorem Row.c {W : World} {g : Nat} {e : Ef} (h : Row W g 138 (efC e)) : W.cell? ⟨g, 0, none⟩ = some (.int .i64 e.key) ∧ W.cell? ⟨g, 1, none⟩ = some (.int .i64 e.batch) ∧ W.cell? ⟨g, 2, none⟩ = some (.int .i64 e.due) ∧ W.cell? ⟨g, 3, none⟩ = some (.int .i64 e.kind) ∧ W.cell? ⟨g, 4, none⟩ = some (.int .i64 e.tries) ∧ W.cell? ⟨g, 5, none⟩ = some (.string e.order) :=
  ⟨h.cell 0, h.cell 1, h.cell 2, h.cell 3, h.cell 4, h.cell 5⟩
theorem Row.f {W : World} {g : Nat} {e : Ef} (h : Row W g 138 (efC e)) : W.frozen? ⟨g, 0, none⟩ = false ∧ W.frozen? ⟨g, 1, none⟩ = false ∧ W.frozen? ⟨g, 2, none⟩ = false ∧ W.frozen? ⟨g, 3, none⟩ = false ∧ W.frozen? ⟨g, 4, none⟩ = false ∧ W.frozen? ⟨g, 5, none⟩ = false :=
  ⟨h.free 0, h.free 1, h.free 2, h.free 3, h.free 4, h.free 5⟩

theorem emptyT_test (s : ByteArray) : s.toList.isEmpty = emptyT s := by
  unfold emptyT
  cases s.toList <;> rfl
theorem kinds_of (n : Int) : bothB n = ((n == 3) || (n == 4)) ∧ soleB n = ((n == 1) || ((n == 2) || ((n == 5) || ((n == 6) || (n == 7))))) := by
  constructor
  · rw [Bool.eq_iff_iff]; simp [bothB]
  · rw [Bool.eq_iff_iff]; simp [soleB]
theorem ofB_both {e : Ef} (h : bothB e.kind = true) : ofB e = (aboveB e.batch && emptyT e.order) := by simp [ofB, h]
theorem ofB_sole {e : Ef} (h1 : bothB e.kind = false) (h : soleB e.kind = true) : ofB e = ((e.batch == 0) && rightT e.order) := by
  simp only [ofB, h1, h, if_true, Bool.false_eq_true, if_false]
  congr 1
theorem ofB_none {e : Ef} (h1 : bothB e.kind = false) (h : soleB e.kind = false) : ofB e = false := by simp [ofB, h1, h]

/-- Whether it is for a batch alone, or for an order alone. -/
theorem forOne_any (e : Ef) (w : World) (hs : e.order.size ≤ maxLen) : Calls Tryz.prog 179 #[efV e] w (Tell (ofB e) w) := by
  have C1 := Lib.hid (fun w => obAbove_any e.batch w)
  have C2 := Lib.hid (fun w => right_any e.order w hs)
  have B := Lib.hid ((Below.refl w.heap.size w).alloc (Nat.le_refl _) (Obj.cells (efC e) 138))
  have D : Row (w.alloc (.cells (efC e) 138)) w.heap.size 138 (efC e) := Row.new _ _ _
  have H1 := Lib.hid (ofB_both (e := e))
  have H2 := Lib.hid (ofB_sole (e := e))
  have H3 := Lib.hid (ofB_none (e := e))
  have ET := emptyT_test e.order
  unfold rightT at H2
  obtain ⟨c0, c1, c2, c3, c4, c5⟩ := D.c
  clear D c0 c2 c4
  by_cases hb : bothB e.kind = true
  · have HO := Lib.hid (H1.out hb)
    have hk : e.kind = 3 ∨ e.kind = 4 := by simpa [bothB] using hb
    clear H1 H2 H3 hb
    rcases hk with hk | hk
    all_goals
      rw [hk] at c3
      clear hk
      go_enter Tryz.func179, Tryz.ntmps179
      go_wp2_with fail
      refine (C1.out _).mono ?_
      rintro x w1 ⟨rfl, rfl⟩
      cases h1 : aboveB e.batch with
      | false =>
        rw [h1] at HO
        go_wp2_with fail
        go_ret
        exact ⟨by rw [HO.out]; rfl, B.out⟩
      | true =>
        rw [h1] at HO
        go_wp2_with fail
        go_ret
        exact ⟨by rw [HO.out, ← ET]; rfl, B.out⟩
  · have hb : bothB e.kind = false := by simpa using hb
    by_cases hs : soleB e.kind = true
    · have HO := Lib.hid (H2.out hb hs)
      have hk : e.kind = 1 ∨ e.kind = 2 ∨ e.kind = 5 ∨ e.kind = 6 ∨ e.kind = 7 := by simpa [soleB] using hs
      clear H1 H2 H3 hb hs
      rcases hk with hk | hk | hk | hk | hk
      all_goals
        rw [hk] at c3
        clear hk
        cases h1 : (e.batch == 0) with
        | false =>
          rw [h1] at HO
          go_enter Tryz.func179, Tryz.ntmps179
          go_wp2_with fail
          go_ret
          exact ⟨by rw [HO.out]; rfl, B.out⟩
        | true =>
          rw [h1] at HO
          go_enter Tryz.func179, Tryz.ntmps179
          go_wp2_with fail
          refine (C2.out _).mono ?_
          rintro x w1 ⟨rfl, b1⟩
          go_wp2_with fail
          go_ret
          exact ⟨by rw [HO.out]; rfl, B.out.trans (b1.mono B.out.size)⟩
    · have hs : soleB e.kind = false := by simpa using hs
      have HO := Lib.hid (H3.out hb hs)
      clear H1 H2 H3
      obtain ⟨kb, ks⟩ := kinds_of e.kind
      rw [kb] at hb
      rw [ks] at hs
      simp only [Bool.or_eq_false_iff] at hb hs
      obtain ⟨k3, k4⟩ := hb
      obtain ⟨k1, k2, k5, k6, k7⟩ := hs
      clear kb ks
      go_enter Tryz.func179, Tryz.ntmps179
      go_wp2_with fail
      go_ret
      exact ⟨by rw [HO.out]; rfl, B.out⟩

theorem one_all (e : Ef) : oneB e = (aboveB e.key && (tickB e.due && (decide (0 ≤ e.tries) && (decide (e.tries ≤ 1000000) && ofB e)))) := by
  have : triesB e.tries = (decide (0 ≤ e.tries) && decide (e.tries ≤ 1000000)) := by rw [Bool.eq_iff_iff]; simp [triesB]
  rw [oneB, this, Bool.and_assoc]

/-- Whether it can be. -/
theorem one_any (e : Ef) (w : World) (hs : e.order.size ≤ maxLen) : Calls Tryz.prog 167 #[efV e] w (Tell (oneB e) w) := by
  have C1 := Lib.hid (fun w => obAbove_any e.key w)
  have C2 := Lib.hid (fun w => obTick_any e.due w)
  have C3 := Lib.hid (fun w => forOne_any e w hs)
  have B := Lib.hid ((Below.refl w.heap.size w).alloc (Nat.le_refl _) (Obj.cells (efC e) 138))
  have D : Row (w.alloc (.cells (efC e) 138)) w.heap.size 138 (efC e) := Row.new _ _ _
  have HE := Lib.hid (one_all e)
  obtain ⟨c0, c1, c2, c3, c4, c5⟩ := D.c
  have ld := ld_row D
  clear D c1 c3 c5
  go_enter Tryz.func167, Tryz.ntmps167
  go_wp2_with fail
  generalize w.alloc (Obj.cells (efC e) 138) = W at *
  refine (C1.out _).mono ?_
  rintro x w1 ⟨rfl, rfl⟩
  cases h1 : aboveB e.key with
  | false =>
    go_wp2_with fail
    go_ret
    exact ⟨by rw [HE.out, h1]; rfl, B.out⟩
  | true =>
    go_wp2_with fail
    refine (C2.out _).mono ?_
    rintro x w1 ⟨rfl, rfl⟩
    cases h2 : tickB e.due with
    | false =>
      go_wp2_with fail
      go_ret
      exact ⟨by rw [HE.out, h1, h2]; rfl, B.out⟩
    | true =>
      cases h3 : decide (0 ≤ e.tries) with
      | false =>
        go_wp2_with fail
        go_ret
        exact ⟨by rw [HE.out, h1, h2, h3]; rfl, B.out⟩
      | true =>
        cases h4 : decide (e.tries ≤ 1000000) with
        | false =>
          go_wp2_with fail
          go_ret
          exact ⟨by rw [HE.out, h1, h2, h3, h4]; rfl, B.out⟩
        | true =>
          go_wp2_with fail
          refine (C3.out _).mono ?_
          rintro x w1 ⟨rfl, b1⟩
          go_wp2_with fail
          go_ret
          exact ⟨by rw [HE.out, h1, h2, h3, h4]; rfl, B.out.trans (b1.mono B.out.size)⟩

end

/- ObFind: Where the effect of a key stands: what BinarySearchFunc of package slices answers, and place of package outbox. -/
section
set_option maxRecDepth 100000
open Go.RowKit Go.ChangeShapes Go.WideShapes Go.ChangeAt
attribute [local go_sem ↓] ldEf stEf alEf bxEf eqEf
attribute [local go_sem] al_ef bx_ef

/-- The one at a place: its cells, and whole. -/
theorem SlP.ef {w : World} {a : Option Addr} {cap : Nat} {l : List Ef} (h : SlP LE w a cap l) (j : Nat) (hj : j < l.length) :
    ∃ b o, a = some ⟨b, o, none⟩ ∧ b < w.heap.size ∧ LdX 138 (.pointer (some ⟨b, o + j * 6, none⟩)) w = .ok (.value (efV l[j])) w ∧ w.cell? ⟨b, o + j * 6, none⟩ = some (.int .i64 l[j].key) ∧ w.cell? ⟨b, o + j * 6 + 2, none⟩ = some (.int .i64 l[j].due) ∧ w.cell? ⟨b, o + j * 6 + 4, none⟩ = some (.int .i64 l[j].tries) := by
  obtain ⟨b, o, e, hb, hc, hl⟩ := h.at LE_ok j hj
  exact ⟨b, o, e, hb, hl, hc 0 _ rfl, hc 2 _ rfl, hc 4 _ rfl⟩

end

/- ObRight: Whether an effect can stand behind others, and whether all can: package outbox. -/
section
set_option maxRecDepth 100000
open Go.RowKit Go.ChangeShapes Go.WideShapes Go.ChangeAt
attribute [local go_sem ↓] ldEf stEf alEf bxEf eqEf
attribute [local go_sem] al_ef bx_ef st_new

/-- It can be, and its key is above the last one's. -/
def followB (l : List Ef) (e : Ef) : Bool := oneB e && ((l.length == 0) || decide ((l.getLast?.map (·.key)).getD 0 < e.key))
theorem keyAt_last (l : List Ef) (h : l ≠ []) : (l.getLast?.map (·.key)).getD 0 = keyAt l l.length := by
  unfold keyAt
  cases l with
  | nil => exact absurd rfl h
  | cons x r => rw [if_neg (by simp), List.getLast?_eq_getElem?]
/-- So it stands behind what can be, just where all can be together. -/
theorem follow_add {l : List Ef} (h : rightE l = true) (e : Ef) : followB l e = rightE (l ++ [e]) := by
  rw [right_add, h, Bool.true_and]
  unfold followB
  cases hl : l with
  | nil =>
    simp only [List.length_nil, keyAt, if_pos]
    cases ho : oneB e with
    | false => simp
    | true =>
      have := (oneB_of ho).1
      simp; omega
  | cons x r =>
    rw [← hl, keyAt_last l (by simp [hl])]
    have : (l.length == 0) = false := by simp [hl]
    rw [this, Bool.false_or]
theorem follow_at {l : List Ef} {k : Nat} (h : k < l.length) : followB (l.take k) l[k] = (oneB l[k] && decide (keyAt l k < l[k].key)) := by
  unfold followB
  cases k with
  | zero =>
    simp only [List.take_zero, List.length_nil, keyAt, if_pos]
    cases ho : oneB l[0] with
    | false => simp
    | true =>
      have := (oneB_of ho).1
      simp; omega
  | succ k =>
    have hl : (l.take (k + 1)).length = k + 1 := by simp; omega
    rw [keyAt_last _ (by intro e; rw [e] at hl; simp at hl), hl]
    have e1 : ((k + 1 : Nat) == 0) = false := by simp
    rw [e1, Bool.false_or]
    have e2 : keyAt (l.take (k + 1)) (k + 1) = keyAt l (k + 1) := by
      unfold keyAt
      rw [if_neg (by omega), if_neg (by omega), List.getElem?_take, if_pos (by omega)]
    rw [e2]

set_option maxHeartbeats 4000000 in
/-- Whether e can be, and can stand behind l. -/
theorem follow_any (a : Option Addr) (cap : Nat) (l : List Ef) (e : Ef) (w : World) (h : SlP LE w a cap l) (hs : e.order.size ≤ maxLen) : Calls Tryz.prog 138 #[.slice a l.length cap, efV e] w (Tell (followB l e) w) := by
  have B := Lib.hid ((Below.refl w.heap.size w).alloc (Nat.le_refl _) (Obj.cells (efC e) 138))
  have D := Lib.hid (show Row (w.alloc (.cells (efC e) 138)) w.heap.size 138 (efC e) from Row.new _ _ _)
  have H := Lib.hid (h.below B.out)
  clear h
  have hc := H.out.cap
  go_enter Tryz.func138, Tryz.ntmps138
  go_wp2_with fail
  generalize w.alloc (Obj.cells (efC e) 138) = W at *
  have hg := D.out.lt
  have f1 : ∀ p : Far W, LdX 138 (.pointer (some ⟨w.heap.size, 0, none⟩)) (farOf W p) = .ok (.value (efV e)) (farOf W p) := fun p => ld_row (D.out.below (far_below W p))
  have f2 : ∀ p : Far W, (farOf W p).cell? ⟨w.heap.size, 0, none⟩ = some (.int .i64 e.key) := fun p => (D.out.below (far_below W p)).c.1
  have C := Lib.hid (fun p : Far W => one_any e (farOf W p) hs)
  have HB := Lib.hid (show followB l e = (oneB e && ((l.length == 0) || decide ((l.getLast?.map (·.key)).getD 0 < e.key))) from rfl)
  generalize followB l e = F at *
  generalize oneB e = O at *
  by_cases hl : 0 < l.length
  · obtain ⟨m, hm⟩ : ∃ m, l.length = m + 1 := ⟨l.length - 1, by omega⟩
    have hml : m < l.length := by omega
    obtain ⟨b, o, rfl, hb, _, k1, _⟩ := H.out.ef m hml
    have f3 : ∀ p : Far W, (farOf W p).cell? ⟨b, o + m * 6, none⟩ = some (.int .i64 l[m].key) := fun p => far_cell hb k1 p
    have HL : (l.getLast?.map (·.key)).getD 0 = l[m].key := by
      rw [List.getLast?_eq_getElem?, hm, Nat.add_sub_cancel, List.getElem?_eq_getElem hml]; rfl
    have hl0 : (l.length == 0) = false := by rw [hm]; rfl
    rw [HL, hl0, Bool.false_or] at HB
    generalize l[m].key = K at *
    have hl1 : ((m : Int) + 1 == 0) = false := by simp only [beq_eq_false_iff_ne]; omega
    have hlm := H.out.len
    unfold maxLen at hlm
    have hw : IntKind.i64.wrap (m : Int) = (m : Int) := by rw [IntKind.wrap_i64]; omega
    clear k1 HL hl0
    cases O <;> cases hk : decide (K < e.key)
    all_goals
      rw [hk] at HB
      refine wp_region_far (by kernel_rfl) (by kernel_rfl) ?_
      repeat (first | go_big_quiet_step (first | (go_at_call 167; exact calls_far (C.out _))) | quiet_step (first | (go_at_call 167; exact calls_far (C.out _))))
      refine wpQuiet_nil ?_
      intro _ hw'
      obtain ⟨p, hw''⟩ := hw'
      subst hw''
      have B4 := Lib.hid (B.out.trans ((far_below W p).mono B.out.size))
      go_wp2_with fail
      go_ret
      exact ⟨by rw [HB.out]; rfl, B4.out⟩
  · have hl0 : l.length = 0 := by omega
    have hl1 : ((l.length : Int) == 0) = true := by simp [hl0]
    have hl2 : (l.length == 0) = true := by simp [hl0]
    rw [hl2, Bool.true_or, Bool.and_true] at HB
    cases O
    all_goals
      refine wp_region_far (by kernel_rfl) (by kernel_rfl) ?_
      repeat (first | go_big_quiet_step (first | (go_at_call 167; exact calls_far (C.out _))) | quiet_step (first | (go_at_call 167; exact calls_far (C.out _))))
      refine wpQuiet_nil ?_
      intro _ hw'
      obtain ⟨p, hw''⟩ := hw'
      subst hw''
      have B4 := Lib.hid (B.out.trans ((far_below W p).mono B.out.size))
      go_wp2_with fail
      go_ret
      exact ⟨by rw [HB.out]; rfl, B4.out⟩

theorem right_step {l : List Ef} {k : Nat} (h : k < l.length) (e : rightE l = goodE (keyAt l k) (l.drop k)) : rightE l = (followB (l.take k) l[k] && goodE (keyAt l (k + 1)) (l.drop (k + 1))) := by
  rw [e, goodE_step l k h, follow_at h]

set_option maxHeartbeats 4000000 in
/-- Whether all can be. -/
theorem obRight_any (a : Option Addr) (cap : Nat) (l : List Ef) (w : World) (h : SlP LE w a cap l) (hs : ∀ e ∈ l, e.order.size ≤ maxLen) : Calls Tryz.prog 128 #[.slice a l.length cap] w (Tell (rightE l) w) := by
  have H := Lib.hid h
  have hc := h.cap
  have hlm := h.len
  unfold maxLen at hlm
  clear h
  go_enter Tryz.func128, Tryz.ntmps128
  go_wp2_with fail
  go_loopw [7] (fun i wr => ∃ k : Nat, k ≤ l.length ∧ i = .int .i64 k ∧ Hid (rightE l = goodE (keyAt l k) (l.drop k)) ∧ Below w.heap.size w wr) (fun i _ => l.length - (intOf i).toNat)
  case atStart => exact ⟨0, Nat.zero_le _, rfl, Lib.hid (rightE_at l), Below.refl _ _⟩
  case round =>
    obtain ⟨k, hk, rfl, HG, hbw⟩ := hrel
    by_cases hlt : k < l.length
    · have hks : k ≤ l.length := hk
      obtain ⟨a', c', s1, s2⟩ := sl_to LE_ok (a := a) hc k (k : Int) rfl hk
      have HN := Lib.hid (right_step hlt HG.out)
      have hy := hs _ (List.getElem_mem hlt)
      obtain ⟨b, o, ea, hb, ld, _⟩ := (H.out.below hbw).ef k hlt
      have bW := Lib.hid ((Below.refl wr.heap.size wr).alloc (Nat.le_refl _) (Obj.cells (efC l[k]) 138))
      have R := Lib.hid (show Row (wr.alloc (.cells (efC l[k]) 138)) wr.heap.size 138 (efC l[k]) from Row.new _ _ _)
      have HT := Lib.hid (s2 _ ((H.out.below hbw).below bW.out))
      have s1 : ∀ W, (Instr.slice 35 (.slice a l.length cap) none (some (.int .i64 (k : Int))) none).run Tryz.prog W = .ok (.slice a' (l.take k).length c') W := s1
      clear HG s2
      subst ea
      generalize l[k] = y at *
      generalize l.take k = T at *
      go_wp2_with fail
      generalize wr.alloc (Obj.cells (efC y) 138) = W at *
      have hg := R.out.lt
      have f1 : ∀ p : Far W, LdX 138 (.pointer (some ⟨wr.heap.size, 0, none⟩)) (farOf W p) = .ok (.value (efV y)) (farOf W p) := fun p => ld_row (R.out.below (far_below W p))
      have C := Lib.hid (fun p : Far W => follow_any a' c' T y (farOf W p) (HT.out.below (far_below W p)) hy)
      clear ld
      generalize followB T y = F at *
      cases F
      all_goals
        refine wp_region_far (by kernel_rfl) (by kernel_rfl) ?_
        repeat (first | go_big_quiet_step (first | (go_at_call 138; exact calls_far (C.out _))) | quiet_step (first | (go_at_call 138; exact calls_far (C.out _))))
        refine wpQuiet_nil ?_
        intro _ hw'
        obtain ⟨p, hw''⟩ := hw'
        subst hw''
        have B4 := Lib.hid ((hbw.trans (bW.out.mono hbw.size)).trans ((far_below W p).mono (Nat.le_trans hbw.size bW.out.size)))
        clear f1 C
        go_wp2_with fail
      · go_ret
        exact ⟨by rw [HN.out]; rfl, B4.out⟩
      · go_roundw
        case rel => exact ⟨k + 1, hlt, by go_num, Lib.hid (by rw [HN.out, Bool.true_and]), B4.out⟩
        case measure => simp [intOf]; omega
    · have HE := Lib.hid (show rightE l = true by rw [HG.out, List.drop_eq_nil_of_le (by omega)]; rfl)
      go_wp2_with fail
      go_ret
      exact ⟨by rw [HE.out]; rfl, hbw⟩
end

/- ObAdd: What own, Add and Find of package outbox answer. -/
section
set_option maxRecDepth 100000
open Go.RowKit Go.ChangeShapes Go.WideShapes Go.ChangeAt
attribute [local go_sem ↓] ldEf stEf alEf bxEf eqEf bdEf bsEf
attribute [local go_sem] al_ef bx_ef st_new bd_ef bs_ef bs_ef0

theorem OwnS.alloc {α : Type} {L : Lay α} {w : World} {base : Nat} {v : Value} {l : List α} (h : OwnS L w base v l) (o : Obj) : OwnS L (w.alloc o) base v l := h.below ((Below.refl _ _).alloc (Nat.le_refl _) o)
theorem SlP.alloc {α : Type} {L : Lay α} {w : World} {a : Option Addr} {cap : Nat} {l : List α} (h : SlP L w a cap l) (o : Obj) : SlP L (w.alloc o) a cap l := h.below ((Below.refl _ _).alloc (Nat.le_refl _) o)
theorem Row.alloc {w : World} {g : Nat} {T : TypeId} {cs : Array Value} (h : Row w g T cs) (o : Obj) : Row (w.alloc o) g T cs := h.below ((Below.refl _ _).alloc (Nat.le_refl _) o)

end

/- ObFindC: What Find and Due of package outbox answer. -/
section
set_option maxRecDepth 100000
open Go.RowKit Go.ChangeShapes Go.WideShapes Go.ChangeAt
attribute [local go_sem ↓] ldEf stEf alEf bxEf eqEf bdEf bsEf
attribute [local go_sem] al_ef bx_ef st_new bd_ef bs_ef bs_ef0

end

/- ObSame: When two effects are the same; the document's Same. -/
section
set_option maxRecDepth 100000
open Go.RowKit Go.ChangeShapes Go.WideShapes Go.ChangeAt
attribute [local go_sem ↓] ldEf stEf alEf bxEf eqEf bdEf bsEf
attribute [local go_sem] al_ef bx_ef st_new bd_ef bs_ef bs_ef0

theorem stoodEf : Tryz.prog.stoodInHeld 138 = false := by kernel_rfl
set_option maxHeartbeats 4000000 in
theorem run_eq_ef (w : World) (x y : Ef) : (Op.equalIn 10000 138 (efV x) (efV y)).run Tryz.prog w = .ok (eqB x y) w := by
  unfold efV
  rw [run_equalIn_struct w 9999 138 _ _ fieldsEf stoodEf]
  have hf : (Tryz.prog.fieldsOf 138).toList = (match Tryz.prog.underlying 138 with | some (.struct fs) => fs | _ => #[]).toList := rfl
  rw [hf, Tryz.underlying138]
  simp only [efC]
  unfold eqB
  cases h1 : x.key == y.key
  · go_simp
  · cases h2 : x.batch == y.batch
    · go_simp
    · cases h3 : x.due == y.due
      · go_simp
      · cases h4 : x.kind == y.kind
        · go_simp
        · cases h5 : x.tries == y.tries
          · go_simp
          · cases h6 : x.order.toList == y.order.toList
            · go_simp
            · go_simp
theorem ne_ef (w : World) (x y : Ef) (a b : Operand) : EqX .neq 138 a b (efV x) (efV y) w = .ok (.value (.bool (!(eqB x y)))) w := by
  have h := run_eq_ef w x y
  unfold efV at *
  simp only [EqX, Sem.run_bind, Sem.run_pure, Result.andThen_ok, run_eqGuard_agg w .neq 138 a b (efC x) (efC y) guardEf, run_neq_struct, h]
def sameE : List Ef → List Ef → Bool
  | [], [] => true
  | x :: a, y :: b => eqB x y && sameE a b
  | _, _ => false
theorem sameE_iff : ∀ (a b : List Ef), sameE a b = true ↔ a = b
  | [], [] => by simp [sameE]
  | [], _ :: _ => by simp [sameE]
  | _ :: _, [] => by simp [sameE]
  | x :: a, y :: b => by
    simp only [sameE, Bool.and_eq_true, eqB_iff, sameE_iff a b, List.cons.injEq]
theorem sameE_len {a b : List Ef} (h : a.length ≠ b.length) : sameE a b = false := by
  cases e : sameE a b with
  | false => rfl
  | true => exact absurd (congrArg List.length ((sameE_iff a b).1 e)) h
theorem sameE_step {a b : List Ef} {k : Nat} (h1 : k < a.length) (h2 : k < b.length) : sameE (a.drop k) (b.drop k) = (eqB a[k] b[k] && sameE (a.drop (k + 1)) (b.drop (k + 1))) := by
  rw [List.drop_eq_getElem_cons h1, List.drop_eq_getElem_cons h2, sameE]

end

/- ObRef: The document's One, Right and Backoff. -/
section
set_option maxRecDepth 100000
open Go.RowKit Go.ChangeShapes Go.WideShapes Go.ChangeAt
attribute [local go_sem ↓] ldEf stEf alEf bxEf eqEf bdEf bsEf
attribute [local go_sem] al_ef bx_ef st_new bd_ef bs_ef bs_ef0

end

/- SgPlain: Plain facts on what becomes of an order: the table, one step, and what follows of many. -/
section
set_option maxRecDepth 100000

/-- What becomes of an order. -/
structure Sg where
  phase : Int
  given : Bool
  ref : Int

def asksN (p : Int) : Int := if p = 1 then 1 else if p = 2 then 2 else if p = 7 then 5 else if p = 9 then 6 else if p = 10 then 7 else 0
end

/- SgLay: A saga as a value: whole loads and stores told at once, when two are the same. -/
section
set_option maxRecDepth 100000
open Go.RowKit Go.ChangeShapes Go.WideShapes Go.ChangeAt

def sgC (s : Sg) : Array Value := #[.int .i64 s.phase, .bool s.given, .int .i64 s.ref]
def sgV (s : Sg) : Value := .agg (sgC s)
def noSg : Sg := ⟨0, false, 0⟩
section
variable (ev : Operand → Value) (d : Option Tmp) (ty : TypeId) (pos : String) (af : Array Edge) (gd : Option (Nat × Bool)) (w : World)
theorem ldSg (x : Operand) : (execOp ev ⟨d, .load 91 x, ty, pos, af, gd⟩).run Tryz.prog w = LdX 91 (ev x) w := rfl
theorem stSg (x y : Operand) : (execOp ev ⟨d, .store 91 x y, ty, pos, af, gd⟩).run Tryz.prog w = StX 91 (ev x) (ev y) w := rfl
theorem alSg : (execOp ev ⟨d, .alloc 91, ty, pos, af, gd⟩).run Tryz.prog w = AlX 91 w := rfl
theorem bxSg (x : Operand) : (execOp ev ⟨d, .box 91 x, ty, pos, af, gd⟩).run Tryz.prog w = BxX 91 (ev x) w := rfl
theorem eqSg (op : BinOp) (x y : Operand) (z : TypeId) : (execOp ev ⟨d, .binOp op 91 x y z, ty, pos, af, gd⟩).run Tryz.prog w = EqX op 91 x y (ev x) (ev y) w := rfl
theorem bdSg (ps : Array (Nat × Operand)) : (execOp ev ⟨d, .build 91 ps, ty, pos, af, gd⟩).run Tryz.prog w = BdX 91 (ps.map fun (i, x) => (i, ev x)) w := rfl
theorem bd_sg (p : Int) : BdX 91 #[(0, .int .i64 p)] w = .ok (.value (sgV ⟨p, false, 0⟩)) w := by kernel_rfl
theorem bd_sg0 : BdX 91 #[] w = .ok (.value (sgV noSg)) w := by kernel_rfl
theorem zeroSg (W : World) : (zeroValue 91).run Tryz.prog W = .ok (.agg (sgC noSg)) W := by kernel_rfl
theorem al_sg : AlX 91 w = .ok (.value (.pointer (some ⟨w.heap.size, 0, none⟩))) (w.alloc (.cells (sgC noSg) 91)) := al_any _ _ w zeroSg
theorem bx_sg (s : Sg) : BxX 91 (sgV s) w = .ok (.value (.pointer (some ⟨w.heap.size, 0, none⟩))) (w.alloc (.cells (sgC s) 91)) := bx_any _ _ w
end
theorem size3 (s : Sg) : (Tryz.prog.info? 91).map (·.size) = some (sgC s).size := by
  show _ = some 3
  kernel_rfl
theorem st_sg {W : World} {g : Nat} {o : Sg} (h : Row W g 91 (sgC o)) (s : Sg) : StX 91 (.pointer (some ⟨g, 0, none⟩)) (sgV s) W = .ok .skip (W.setRow g (sgC s)) := by
  have := run_storeVar_row (P := Tryz.prog) W g 91 91 (sgC o) (sgC s) h (size3 s) rfl (by simp [sgC, Value.oneCell'])
  simp only [StX, Instr.storeAt, Instr.sureAddr, Sem.run_bind, Sem.run_pure, Result.andThen_ok, sgV]
  rw [this]
  rfl
theorem st_sgnew (W : World) (s : Sg) : StX 91 (.pointer (some ⟨W.heap.size, 0, none⟩)) (sgV s) (W.alloc (.cells (sgC noSg) 91)) = .ok .skip (W.alloc (.cells (sgC s) 91)) := by
  rw [st_sg (Row.new W (sgC noSg) 91) s, alloc_setRow]
theorem Row.s {W : World} {g : Nat} {s : Sg} (h : Row W g 91 (sgC s)) : (W.cell? ⟨g, 0, none⟩ = some (.int .i64 s.phase) ∧ W.cell? ⟨g, 1, none⟩ = some (.bool s.given) ∧ W.cell? ⟨g, 2, none⟩ = some (.int .i64 s.ref)) ∧ W.frozen? ⟨g, 0, none⟩ = false ∧ W.frozen? ⟨g, 1, none⟩ = false ∧ W.frozen? ⟨g, 2, none⟩ = false :=
  ⟨⟨h.cell 0, h.cell 1, h.cell 2⟩, h.free 0, h.free 1, h.free 2⟩
theorem Row.more {w : World} {g : Nat} {T : TypeId} {cs : Array Value} (h : Row w g T cs) (o : Obj) : Row (w.alloc o) g T cs := h.below ((Below.refl _ _).alloc (Nat.le_refl _) o)

/-- A number is answered; all that was there stays. -/
def NumP (n : Int) (w : World) (e : Ending) (w' : World) : Prop := e = .returned (.int .i64 n) ∧ Below w.heap.size w w'
end

/- SgProg: What Asks and Left of package saga answer. -/
section
set_option maxRecDepth 100000
open Go.RowKit Go.ChangeShapes Go.WideShapes Go.ChangeAt
attribute [local go_sem ↓] ldSg stSg alSg bxSg eqSg bdSg
attribute [local go_sem] al_sg bx_sg bd_sg bd_sg0 st_sgnew

set_option maxHeartbeats 1000000 in
theorem asks_any (p : Int) (w : World) : Calls Tryz.prog 159 #[.int .i64 p] w (NumP (asksN p) w) := by
  by_cases h : p = 1 ∨ p = 2 ∨ p = 7 ∨ p = 9 ∨ p = 10
  · rcases h with rfl | rfl | rfl | rfl | rfl
    all_goals
      go_enter Tryz.func159, Tryz.ntmps159
      go_wp2_with fail
      go_ret
      exact ⟨rfl, Below.refl _ _⟩
  · have h1 : (p == 1) = false := by rw [beq_eq_false_iff_ne]; omega
    have h2 : (p == 2) = false := by rw [beq_eq_false_iff_ne]; omega
    have h3 : (p == 7) = false := by rw [beq_eq_false_iff_ne]; omega
    have h4 : (p == 9) = false := by rw [beq_eq_false_iff_ne]; omega
    have h5 : (p == 10) = false := by rw [beq_eq_false_iff_ne]; omega
    have HE := Lib.hid (show asksN p = 0 by unfold asksN; rw [if_neg (by omega), if_neg (by omega), if_neg (by omega), if_neg (by omega), if_neg (by omega)])
    clear h
    go_enter Tryz.func159, Tryz.ntmps159
    go_wp2_with fail
    go_ret
    exact ⟨by rw [HE.out]; rfl, Below.refl _ _⟩
end

/- SgAsk: The document's Asks: a map. -/
section
set_option maxRecDepth 100000
open Go.RowKit Go.Maps

end
end Go.Proofs.YtfmpibmhhfmajaaGreatDoor
