/- Orders. -/
import Derived.Test.YtfmpibmhhfmajaaGreatDoorMgLines
namespace Go.Proofs.YtfmpibmhhfmajaaGreatDoor
/- OrPlain: Plain facts on orders: which can be, their bytes, and what bytes are read as; each order's bytes are read as that order, and none but these. -/
section
/-- An order. -/
structure Od where
  id : ByteArray
  ls : List Ln
  car : ByteArray
  zone : ByteArray
  serv : ByteArray
  total : Int
  phase : Int
  given : Bool
  ref : Int
  batch : Int

def phaseB (n : Int) : Bool := decide (1 ≤ n ∧ n ≤ 12)
def sagaB (p r : Int) : Bool := phaseB p && decide (0 ≤ r ∧ r ≤ 1000000)
def batchedB (p : Int) : Bool := decide (3 ≤ p ∧ p ≤ 6)
def rightO (o : Od) : Bool := rightT o.id && groupB o.car o.zone o.serv && rightLB o.ls && tallyB o.total && sagaB o.phase o.ref && tallyB o.batch && (decide (o.batch ≠ 0) == batchedB o.phase)

/-- A line's bytes, an order's. -/
def lineL (x : Ln) : List Nat := textL x.sku ++ (numL x.qty.toNat ++ numL x.wt.toNat)
def linesL (l : List Ln) : List Nat := (l.map lineL).flatten
def givenN (b : Bool) : Nat := if b then 1 else 0
def orderL (o : Od) : List Nat :=
  textL o.id ++ (numL o.ls.length ++ (linesL o.ls ++ (textL o.car ++ (textL o.zone ++ (textL o.serv ++ (numL o.total.toNat ++ (numL o.phase.toNat ++ (numL (givenN o.given) ++ (numL o.ref.toNat ++ numL o.batch.toNat)))))))))

def lineS (s : Sc) : Ln × Sc :=
  (⟨strB (textS 32 s).1, ((numS 1000 (textS 32 s).2).1 : Int), ((numS 100000 (numS 1000 (textS 32 s).2).2).1 : Int)⟩, (numS 100000 (numS 1000 (textS 32 s).2).2).2)
def linesS : Nat → Sc → List Ln × Sc
  | 0, s => ([], s)
  | n + 1, s => ((lineS s).1 :: (linesS n (lineS s).2).1, (linesS n (lineS s).2).2)

def takeS (s : Sc) : Od × Sc :=
  let i := textS 32 s
  let n := numS 8 i.2
  let l := linesS n.1 n.2
  let c := textS 32 l.2
  let z := textS 32 c.2
  let v := textS 32 z.2
  let t := numS 1000000000000 v.2
  let p := numS 12 t.2
  let g := numS 1 p.2
  let f := numS 1000000 g.2
  let b := numS 1000000000000 f.2
  (⟨strB i.1, l.1, strB c.1, strB z.1, strB v.1, (t.1 : Int), (p.1 : Int), decide (g.1 = 1), (f.1 : Int), (b.1 : Int)⟩, b.2)

/-- The order that stands next; none, if there is none. -/
def takeV (s : Sc) : Option Od := if (takeS s).2.isSome && rightO (takeS s).1 then some (takeS s).1 else none

theorem lineS_put {x : Ln} (h : lineB x = true) (r : List Nat) : lineS (some (lineL x ++ r)) = (x, some r) := by
  obtain ⟨h0, h1, h2, h3, h4⟩ := lineB_of h
  have e1 := textS_put (m := 32) (right_32 (s := x.sku) h0) (numL x.qty.toNat ++ (numL x.wt.toNat ++ r))
  have e2 := numS_put (n := x.qty.toNat) (m := 1000) (by omega) (numL x.wt.toNat ++ r)
  have e3 := numS_put (n := x.wt.toNat) (m := 100000) (by omega) r
  unfold lineS lineL
  rw [List.append_assoc, List.append_assoc, e1]
  simp only [e2, e3, strB_strL]
  rw [Int.toNat_of_nonneg (by omega), Int.toNat_of_nonneg h3]

theorem linesL_cons (x : Ln) (l : List Ln) : linesL (x :: l) = lineL x ++ linesL l := by simp [linesL]

theorem linesS_put : ∀ (l : List Ln) (_ : ∀ x ∈ l, lineB x = true) (r : List Nat), linesS l.length (some (linesL l ++ r)) = (l, some r)
  | [], _, r => by simp [linesS, linesL]
  | x :: l, h, r => by
    rw [linesL_cons, List.append_assoc, List.length_cons, linesS, lineS_put (h x (by simp))]
    simp only
    rw [linesS_put l (fun y hy => h y (by simp [hy])) r]

theorem rightO_of {o : Od} (h : rightO o = true) : rightT o.id = true ∧ groupB o.car o.zone o.serv = true ∧ rightLB o.ls = true ∧ (0 ≤ o.total ∧ o.total ≤ 1000000000000) ∧ ((1 ≤ o.phase ∧ o.phase ≤ 12) ∧ 0 ≤ o.ref ∧ o.ref ≤ 1000000) ∧ (0 ≤ o.batch ∧ o.batch ≤ 1000000000000) := by
  simp only [rightO, Bool.and_eq_true, tallyB, sagaB, phaseB, decide_eq_true_eq] at h
  exact ⟨h.1.1.1.1.1.1, h.1.1.1.1.1.2, h.1.1.1.1.2, h.1.1.1.2, h.1.1.2, h.1.2⟩

theorem givenN_one (b : Bool) : decide (givenN b = 1) = b := by cases b <;> rfl
theorem givenN_le (b : Bool) : givenN b ≤ 1 := by cases b <;> simp [givenN]

/-- What is written is read. -/
theorem takeS_put {o : Od} (h : rightO o = true) (r : List Nat) : takeS (some (orderL o ++ r)) = (o, some r) := by
  obtain ⟨h1, h2, h3, h4, h5, h6⟩ := rightO_of h
  obtain ⟨g1, g2, g3⟩ := groupB_of h2
  obtain ⟨l1, l2, _⟩ := (rightLB_iff _).1 h3
  unfold takeS orderL
  simp only [List.append_assoc]
  rw [textS_put (right_32 h1)]
  simp only
  rw [numS_put (by omega)]
  simp only
  rw [linesS_put _ l2]
  simp only
  rw [textS_put (right_32 g1)]
  simp only
  rw [textS_put (right_32 g2)]
  simp only
  rw [textS_put (right_32 g3)]
  simp only
  rw [numS_put (by omega)]
  simp only
  rw [numS_put (by omega)]
  simp only
  rw [numS_put (givenN_le _)]
  simp only
  rw [numS_put (by omega)]
  simp only
  rw [numS_put (by omega)]
  simp only [strB_strL, givenN_one]
  rw [Int.toNat_of_nonneg h4.1, Int.toNat_of_nonneg (by omega), Int.toNat_of_nonneg h5.2.1, Int.toNat_of_nonneg h6.1]

theorem lineS_bytes {s : Sc} (h : BytesS s) : BytesS (lineS s).2 := numS_bytes (numS_bytes (textS_bytes h 32).1 1000) 100000

theorem lineS_back {s : Sc} (h : BytesS s) {r : List Nat} (e : (lineS s).2 = some r) : s = some (lineL (lineS s).1 ++ r) := by
  have b1 := (textS_bytes h 32).1
  have b2 := numS_bytes b1 1000
  have e3 := numS_back b2 (m := 100000) (r := r) e
  have e2 := numS_back b1 e3
  have e1 := textS_back h e2
  unfold lineL lineS
  simp only [Int.toNat_natCast, List.append_assoc]
  exact e1

theorem linesS_len : ∀ (n : Nat) (s : Sc), (linesS n s).1.length = n
  | 0, _ => rfl
  | n + 1, s => by rw [linesS]; simp [linesS_len n]

theorem linesS_bytes : ∀ (n : Nat) {s : Sc} (_ : BytesS s), BytesS (linesS n s).2
  | 0, _, h => h
  | n + 1, _, h => linesS_bytes n (lineS_bytes h)

theorem linesS_back : ∀ (n : Nat) {s : Sc} (_ : BytesS s) {r : List Nat} (_ : (linesS n s).2 = some r), s = some (linesL (linesS n s).1 ++ r)
  | 0, s, _, r, e => by simpa [linesS, linesL] using e
  | n + 1, s, h, r, e => by
    rw [linesS] at e ⊢
    simp only at e ⊢
    have e2 := linesS_back n (lineS_bytes h) e
    have e1 := lineS_back h e2
    rw [linesL_cons, List.append_assoc]
    exact e1

theorem takeS_back {s : Sc} (h : BytesS s) {r : List Nat} (e : (takeS s).2 = some r) : s = some (orderL (takeS s).1 ++ r) := by
  unfold takeS at e ⊢
  simp only at e ⊢
  have b1 := (textS_bytes h 32).1
  have b2 := numS_bytes b1 8
  generalize hi : textS 32 s = i at *
  generalize hn : numS 8 i.2 = n at *
  have b3 := linesS_bytes n.1 b2
  have n3 := linesS_len n.1 n.2
  generalize hl : linesS n.1 n.2 = l at *
  have b4 := (textS_bytes b3 32).1
  generalize hc : textS 32 l.2 = c at *
  have b5 := (textS_bytes b4 32).1
  generalize hz : textS 32 c.2 = z at *
  have b6 := (textS_bytes b5 32).1
  generalize hv : textS 32 z.2 = v at *
  have b7 := numS_bytes b6 1000000000000
  generalize ht : numS 1000000000000 v.2 = t at *
  have b8 := numS_bytes b7 12
  generalize hp : numS 12 t.2 = p at *
  have b9 := numS_bytes b8 1
  have g1 := numS_le 1 p.2 b8
  generalize hg : numS 1 p.2 = g at *
  have b10 := numS_bytes b9 1000000
  generalize hf : numS 1000000 g.2 = f at *
  have e11 := numS_back b10 (m := 1000000000000) (r := r) e
  generalize hb : numS 1000000000000 f.2 = b at *
  have e10 := numS_back b9 (m := 1000000) (by rw [hf]; exact e11)
  rw [hf] at e10
  have e9 := numS_back b8 (m := 1) (by rw [hg]; exact e10)
  rw [hg] at e9
  have e8 := numS_back b7 (m := 12) (by rw [hp]; exact e9)
  rw [hp] at e8
  have e7 := numS_back b6 (m := 1000000000000) (by rw [ht]; exact e8)
  rw [ht] at e7
  have e6 := textS_back b5 (m := 32) (by rw [hv]; exact e7)
  rw [hv] at e6
  have e5 := textS_back b4 (m := 32) (by rw [hz]; exact e6)
  rw [hz] at e5
  have e4 := textS_back b3 (m := 32) (by rw [hc]; exact e5)
  rw [hc] at e4
  have e3 := linesS_back n.1 b2 (by rw [hl]; exact e4)
  rw [hl] at e3
  have e2 := numS_back b1 (m := 8) (by rw [hn]; exact e3)
  rw [hn] at e2
  have e1 := textS_back h (m := 32) (by rw [hi]; exact e2)
  rw [hi] at e1
  have hgg : givenN (decide (g.1 = 1)) = g.1 := by
    unfold givenN
    by_cases hg1 : g.1 = 1
    · simp [hg1]
    · simp [hg1]; omega
  unfold orderL
  simp only [Int.toNat_natCast, List.append_assoc, hgg, n3]
  exact e1

theorem takeV_put {o : Od} (h : rightO o = true) (r : List Nat) : takeV (some (orderL o ++ r)) = some o := by
  unfold takeV
  rw [takeS_put h]
  simp [h]

theorem takeV_some {s : Sc} {o : Od} (h : takeV s = some o) : ∃ r, takeS s = (o, some r) ∧ rightO o = true := by
  unfold takeV at h
  split at h
  · rename_i h1
    simp only [Bool.and_eq_true] at h1
    obtain ⟨r, hr⟩ := Option.isSome_iff_exists.1 h1.1
    cases h
    exact ⟨r, by rw [← hr], h1.2⟩
  · cases h

theorem lineL_bytes (x : Ln) : Bytes (lineL x) := bytes_app (textL_bytes _) (bytes_app (numL_bytes _) (numL_bytes _))
theorem linesL_bytes : ∀ (l : List Ln), Bytes (linesL l)
  | [] => fun b hb => by simp [linesL] at hb
  | x :: l => by rw [linesL_cons]; exact bytes_app (lineL_bytes x) (linesL_bytes l)
theorem orderL_bytes (o : Od) : Bytes (orderL o) := by
  unfold orderL
  repeat' (first | exact textL_bytes _ | exact numL_bytes _ | exact linesL_bytes _ | apply bytes_app)

end

/- OrLeaf: What the small tests of package order, Right of package tally and the document's answer. -/
section
set_option maxRecDepth 100000
open Go.RowKit

set_option maxHeartbeats 1000000 in
theorem isPhase_any (n : Int) (w : World) : Calls Tryz.prog 176 #[.int .i64 n] w (BoolSame (phaseB n) w) := by
  have HE := Lib.hid (show phaseB n = (decide (1 ≤ n) && decide (n ≤ 12)) by rw [Bool.eq_iff_iff]; simp [phaseB])
  cases h1 : decide (1 ≤ n) <;> cases h2 : decide (n ≤ 12)
  all_goals
    rw [h1, h2] at HE
    go_enter Tryz.func176, Tryz.ntmps176
    go_wp2_with fail
    go_ret
    exact ⟨by rw [HE.out]; rfl, rfl⟩

set_option maxHeartbeats 1000000 in
theorem isBatched_any (n : Int) (w : World) : Calls Tryz.prog 153 #[.int .i64 n] w (BoolSame (batchedB n) w) := by
  have HE := Lib.hid (show batchedB n = (decide (3 ≤ n) && decide (n ≤ 6)) by rw [Bool.eq_iff_iff]; simp [batchedB])
  cases h1 : decide (3 ≤ n) <;> cases h2 : decide (n ≤ 6)
  all_goals
    rw [h1, h2] at HE
    go_enter Tryz.func153, Tryz.ntmps153
    go_wp2_with fail
    go_ret
    exact ⟨by rw [HE.out]; rfl, rfl⟩

set_option maxHeartbeats 1000000 in
theorem isSaga_any (p r : Int) (g : Bool) (w : World) : Calls Tryz.prog 152 #[.agg #[.int .i64 p, .bool g, .int .i64 r]] w (Tell (sagaB p r) w) := by
  have HE := Lib.hid (show sagaB p r = (phaseB p && (decide (0 ≤ r) && decide (r ≤ 1000000))) by rw [Bool.eq_iff_iff]; simp [sagaB])
  have C := Lib.hid (isPhase_any p)
  cases h0 : phaseB p <;> cases h1 : decide (0 ≤ r) <;> cases h2 : decide (r ≤ 1000000)
  all_goals
    rw [h0, h1, h2] at HE
    rw [h0] at C
    clear h0
    go_enter Tryz.func152, Tryz.ntmps152
    go_wp2_with (go_at_call 176; refine (C.out _).mono ?_; rintro e w' ⟨rfl, rfl⟩)
    go_ret
    exact ⟨by rw [HE.out]; rfl, (Below.refl _ w).alloc (Nat.le_refl _) _⟩

set_option maxHeartbeats 2000000 in
theorem isGroup_any (a b c : ByteArray) (w : World) (ha : a.size ≤ maxLen) (hb : b.size ≤ maxLen) (hc : c.size ≤ maxLen) : Calls Tryz.prog 151 #[.agg #[.string a, .string b, .string c]] w (Tell (groupB a b c) w) := by
  have C1 : Hid (∀ w, Calls Tryz.prog 35 #[.string a] w (Tell (rightT a) w)) := Lib.hid (fun w => right_any a w ha)
  have C2 : Hid (∀ w, Calls Tryz.prog 35 #[.string b] w (Tell (rightT b) w)) := Lib.hid (fun w => right_any b w hb)
  have C3 : Hid (∀ w, Calls Tryz.prog 35 #[.string c] w (Tell (rightT c) w)) := Lib.hid (fun w => right_any c w hc)
  have D := Lib.hid (GrB.new w a b c)
  have B := Lib.hid ((Below.refl w.heap.size w).alloc (Nat.le_refl _) (Obj.cells #[Value.string a, Value.string b, Value.string c] 24))
  have HE := Lib.hid (show groupB a b c = (rightT a && (rightT b && rightT c)) from rfl)
  clear ha hb hc
  go_enter Tryz.func151, Tryz.ntmps151
  go_wp2_with fail
  refine (C1.out _).mono ?_
  rintro e w1 ⟨rfl, b1⟩
  generalize w.alloc (Obj.cells #[Value.string a, Value.string b, Value.string c] 24) = W at *
  have D1 := Lib.hid (D.out.below b1)
  have B1 := Lib.hid (B.out.trans (b1.mono B.out.size))
  obtain ⟨c0, c1, c2⟩ := D1.out.cells
  clear b1
  cases h1 : rightT a with
  | false =>
    go_wp2_with fail
    go_ret
    exact ⟨by rw [HE.out, h1]; rfl, B1.out⟩
  | true =>
    go_wp2_with fail
    refine (C2.out _).mono ?_
    rintro e w2 ⟨rfl, b2⟩
    have D2 := Lib.hid (D1.out.below b2)
    have B2 := Lib.hid (B1.out.trans (b2.mono B1.out.size))
    clear c0 c1 c2 b2
    obtain ⟨c0, c1, c2⟩ := D2.out.cells
    cases h2 : rightT b with
    | false =>
      go_wp2_with fail
      go_ret
      exact ⟨by rw [HE.out, h1, h2]; rfl, B2.out⟩
    | true =>
      go_wp2_with fail
      refine (C3.out _).mono ?_
      rintro e w3 ⟨rfl, b3⟩
      have B3 := Lib.hid (B2.out.trans (b3.mono B2.out.size))
      clear c0 c1 c2 b3
      go_wp2_with fail
      go_ret
      exact ⟨by rw [HE.out, h1, h2]; rfl, B3.out⟩
end

/- OrRight: What Right of package order, and the document's, answer, at every order. -/
section
set_option maxRecDepth 100000
open Go.RowKit

/-- An order as a value, its lines in a slice. -/
def odV (a : Option Addr) (cap : Nat) (o : Od) : Value := .agg #[.string o.id, .slice a o.ls.length cap, .string o.car, .string o.zone, .string o.serv, .int .i64 o.total, .int .i64 o.phase, .bool o.given, .int .i64 o.ref, .int .i64 o.batch]
/-- An order's cells. -/
def odC (a : Option Addr) (cap : Nat) (o : Od) : Array Value := #[.string o.id, .slice a o.ls.length cap, .string o.car, .string o.zone, .string o.serv, .int .i64 o.total, .int .i64 o.phase, .bool o.given, .int .i64 o.ref, .int .i64 o.batch]

/-- Its lines lie there; its texts fit. -/
structure OdP (w : World) (a : Option Addr) (cap : Nat) (o : Od) : Prop where
  lns : LnsP w a cap o.ls
  len : o.ls.length ≤ maxLen
  id : o.id.size ≤ maxLen
  car : o.car.size ≤ maxLen
  zone : o.zone.size ≤ maxLen
  serv : o.serv.size ≤ maxLen

theorem OdP.below {w w' : World} {a : Option Addr} {cap : Nat} {o : Od} (h : OdP w a cap o) (hb : Below w.heap.size w w') : OdP w' a cap o := ⟨h.lns.below hb, h.len, h.id, h.car, h.zone, h.serv⟩

/-- An order in a block. -/
def OdB (w : World) (g : Nat) (a : Option Addr) (cap : Nat) (o : Od) : Prop := w.heap[g]? = some (.cells (odC a cap o) 93 (0, 0))
theorem OdB.cells {w : World} {g : Nat} {a : Option Addr} {cap : Nat} {o : Od} (h : OdB w g a cap o) :
    (w.cell? ⟨g, 0, none⟩ = some (.string o.id) ∧ w.cell? ⟨g, 1, none⟩ = some (.slice a o.ls.length cap) ∧ w.cell? ⟨g, 2, none⟩ = some (.string o.car) ∧ w.cell? ⟨g, 3, none⟩ = some (.string o.zone) ∧ w.cell? ⟨g, 4, none⟩ = some (.string o.serv)) ∧
    w.cell? ⟨g, 5, none⟩ = some (.int .i64 o.total) ∧ w.cell? ⟨g, 6, none⟩ = some (.int .i64 o.phase) ∧ w.cell? ⟨g, 7, none⟩ = some (.bool o.given) ∧ w.cell? ⟨g, 8, none⟩ = some (.int .i64 o.ref) ∧ w.cell? ⟨g, 9, none⟩ = some (.int .i64 o.batch) := by
  unfold OdB odC at h
  simp [World.cell?, h]
theorem OdB.lt {w : World} {g : Nat} {a : Option Addr} {cap : Nat} {o : Od} (h : OdB w g a cap o) : g < w.heap.size := (Array.getElem?_eq_some_iff.1 h).1
theorem OdB.below {w w' : World} {g : Nat} {a : Option Addr} {cap : Nat} {o : Od} (h : OdB w g a cap o) (hb : Below w.heap.size w w') : OdB w' g a cap o := (hb.block g h.lt).trans h
theorem OdB.new (w : World) (a : Option Addr) (cap : Nat) (o : Od) : OdB (w.alloc (.cells (odC a cap o) 93)) w.heap.size a cap o := heap_alloc_new w _

set_option maxRecDepth 100000 in
set_option maxHeartbeats 4000000 in
theorem oRight_any (a : Option Addr) (cap : Nat) (o : Od) (w : World) (h : OdP w a cap o) : Calls Tryz.prog 122 #[odV a cap o] w (Tell (rightO o) w) := by
  have C1 : Hid (∀ w, Calls Tryz.prog 35 #[.string o.id] w (Tell (rightT o.id) w)) := Lib.hid (fun w => right_any o.id w h.id)
  have C2 := Lib.hid (fun w => isGroup_any o.car o.zone o.serv w h.car h.zone h.serv)
  have C4 := Lib.hid (fun w => tally_any o.total w)
  have C5 := Lib.hid (fun w => isSaga_any o.phase o.ref o.given w)
  have C6 := Lib.hid (fun w => tally_any o.batch w)
  have C7 := Lib.hid (fun w => isBatched_any o.phase w)
  have D := Lib.hid (OdB.new w a cap o)
  have B := Lib.hid ((Below.refl w.heap.size w).alloc (Nat.le_refl _) (Obj.cells (odC a cap o) 93))
  have L := Lib.hid (h.lns.below B.out)
  have HE := Lib.hid (show rightO o = (rightT o.id && groupB o.car o.zone o.serv && rightLB o.ls && tallyB o.total && sagaB o.phase o.ref && tallyB o.batch && (decide (o.batch ≠ 0) == batchedB o.phase)) from rfl)
  have HN : Hid ((o.batch != 0) = decide (o.batch ≠ 0)) := Lib.hid (by rw [Bool.eq_iff_iff]; simp)
  have C3 := Lib.hid (fun W hW => right14_any a cap o.ls W hW h.len)
  clear h
  unfold odV
  unfold odC at *
  cases h1 : rightT o.id with
  | false =>
    rw [h1] at C1
    go_enter Tryz.func122, Tryz.ntmps122
    go_wp2_with fail
    generalize w.alloc (Obj.cells #[Value.string o.id, Value.slice a o.ls.length cap, Value.string o.car, Value.string o.zone, Value.string o.serv, Value.int IntKind.i64 o.total, Value.int IntKind.i64 o.phase, Value.bool o.given, Value.int IntKind.i64 o.ref, Value.int IntKind.i64 o.batch] 93) = W at *
    obtain ⟨⟨c0, c1, c2, c3, c4⟩, c5, c6, c7, c8, c9⟩ := OdB.cells (o := o) D.out
    have f0 := far_cell (OdB.lt (o := o) D.out) c0
    have f1 := far_cell (OdB.lt (o := o) D.out) c1
    have f2 := far_cell (OdB.lt (o := o) D.out) c2
    have f3 := far_cell (OdB.lt (o := o) D.out) c3
    have f4 := far_cell (OdB.lt (o := o) D.out) c4
    have f5 := far_cell (OdB.lt (o := o) D.out) c5
    have f6 := far_cell (OdB.lt (o := o) D.out) c6
    have f7 := far_cell (OdB.lt (o := o) D.out) c7
    have f8 := far_cell (OdB.lt (o := o) D.out) c8
    have f9 := far_cell (OdB.lt (o := o) D.out) c9
    clear c0 c1 c2 c3 c4 c5 c6 c7 c8 c9
    have C3 : Hid (∀ p, Calls Tryz.prog _ _ (farOf W p) _) := Lib.hid (fun p => C3.out _ (L.out.below (far_below W p)))
    refine wp_region_far (by kernel_rfl) (by kernel_rfl) ?_
    repeat (first | go_big_quiet_step (first | (go_at_call 35; exact calls_far (C1.out _)) | (go_at_call 151; exact calls_far (C2.out _)) | (go_at_call 36; exact calls_far (C3.out _)) | (go_at_call 152; exact calls_far (C5.out _)) | (go_at_call 153; exact calls_far_same (C7.out _)) | (go_at_call 38; with_reducible exact calls_far_same (C4.out _)) | (go_at_call 38; with_reducible exact calls_far_same (C6.out _))) | quiet_step (first | (go_at_call 35; exact calls_far (C1.out _)) | (go_at_call 151; exact calls_far (C2.out _)) | (go_at_call 36; exact calls_far (C3.out _)) | (go_at_call 152; exact calls_far (C5.out _)) | (go_at_call 153; exact calls_far_same (C7.out _)) | (go_at_call 38; with_reducible exact calls_far_same (C4.out _)) | (go_at_call 38; with_reducible exact calls_far_same (C6.out _))))
    refine wpQuiet_nil ?_
    intro _ hw'
    obtain ⟨p, hw''⟩ := hw'
    subst hw''
    go_wp2_with fail
    go_ret
    exact ⟨by rw [HE.out, h1]; simp, B.out.trans ((far_below _ _).mono B.out.size)⟩
  | true =>
    rw [h1] at C1
    cases h2 : groupB o.car o.zone o.serv with
    | false =>
      rw [h2] at C2
      go_enter Tryz.func122, Tryz.ntmps122
      go_wp2_with fail
      generalize w.alloc (Obj.cells #[Value.string o.id, Value.slice a o.ls.length cap, Value.string o.car, Value.string o.zone, Value.string o.serv, Value.int IntKind.i64 o.total, Value.int IntKind.i64 o.phase, Value.bool o.given, Value.int IntKind.i64 o.ref, Value.int IntKind.i64 o.batch] 93) = W at *
      obtain ⟨⟨c0, c1, c2, c3, c4⟩, c5, c6, c7, c8, c9⟩ := OdB.cells (o := o) D.out
      have f0 := far_cell (OdB.lt (o := o) D.out) c0
      have f1 := far_cell (OdB.lt (o := o) D.out) c1
      have f2 := far_cell (OdB.lt (o := o) D.out) c2
      have f3 := far_cell (OdB.lt (o := o) D.out) c3
      have f4 := far_cell (OdB.lt (o := o) D.out) c4
      have f5 := far_cell (OdB.lt (o := o) D.out) c5
      have f6 := far_cell (OdB.lt (o := o) D.out) c6
      have f7 := far_cell (OdB.lt (o := o) D.out) c7
      have f8 := far_cell (OdB.lt (o := o) D.out) c8
      have f9 := far_cell (OdB.lt (o := o) D.out) c9
      clear c0 c1 c2 c3 c4 c5 c6 c7 c8 c9
      have C3 : Hid (∀ p, Calls Tryz.prog _ _ (farOf W p) _) := Lib.hid (fun p => C3.out _ (L.out.below (far_below W p)))
      refine wp_region_far (by kernel_rfl) (by kernel_rfl) ?_
      repeat (first | go_big_quiet_step (first | (go_at_call 35; exact calls_far (C1.out _)) | (go_at_call 151; exact calls_far (C2.out _)) | (go_at_call 36; exact calls_far (C3.out _)) | (go_at_call 152; exact calls_far (C5.out _)) | (go_at_call 153; exact calls_far_same (C7.out _)) | (go_at_call 38; with_reducible exact calls_far_same (C4.out _)) | (go_at_call 38; with_reducible exact calls_far_same (C6.out _))) | quiet_step (first | (go_at_call 35; exact calls_far (C1.out _)) | (go_at_call 151; exact calls_far (C2.out _)) | (go_at_call 36; exact calls_far (C3.out _)) | (go_at_call 152; exact calls_far (C5.out _)) | (go_at_call 153; exact calls_far_same (C7.out _)) | (go_at_call 38; with_reducible exact calls_far_same (C4.out _)) | (go_at_call 38; with_reducible exact calls_far_same (C6.out _))))
      refine wpQuiet_nil ?_
      intro _ hw'
      obtain ⟨p, hw''⟩ := hw'
      subst hw''
      go_wp2_with fail
      go_ret
      exact ⟨by rw [HE.out, h1, h2]; simp, B.out.trans ((far_below _ _).mono B.out.size)⟩
    | true =>
      rw [h2] at C2
      cases h3 : rightLB o.ls with
      | false =>
        rw [h3] at C3
        go_enter Tryz.func122, Tryz.ntmps122
        go_wp2_with fail
        generalize w.alloc (Obj.cells #[Value.string o.id, Value.slice a o.ls.length cap, Value.string o.car, Value.string o.zone, Value.string o.serv, Value.int IntKind.i64 o.total, Value.int IntKind.i64 o.phase, Value.bool o.given, Value.int IntKind.i64 o.ref, Value.int IntKind.i64 o.batch] 93) = W at *
        obtain ⟨⟨c0, c1, c2, c3, c4⟩, c5, c6, c7, c8, c9⟩ := OdB.cells (o := o) D.out
        have f0 := far_cell (OdB.lt (o := o) D.out) c0
        have f1 := far_cell (OdB.lt (o := o) D.out) c1
        have f2 := far_cell (OdB.lt (o := o) D.out) c2
        have f3 := far_cell (OdB.lt (o := o) D.out) c3
        have f4 := far_cell (OdB.lt (o := o) D.out) c4
        have f5 := far_cell (OdB.lt (o := o) D.out) c5
        have f6 := far_cell (OdB.lt (o := o) D.out) c6
        have f7 := far_cell (OdB.lt (o := o) D.out) c7
        have f8 := far_cell (OdB.lt (o := o) D.out) c8
        have f9 := far_cell (OdB.lt (o := o) D.out) c9
        clear c0 c1 c2 c3 c4 c5 c6 c7 c8 c9
        have C3 : Hid (∀ p, Calls Tryz.prog _ _ (farOf W p) _) := Lib.hid (fun p => C3.out _ (L.out.below (far_below W p)))
        refine wp_region_far (by kernel_rfl) (by kernel_rfl) ?_
        repeat (first | go_big_quiet_step (first | (go_at_call 35; exact calls_far (C1.out _)) | (go_at_call 151; exact calls_far (C2.out _)) | (go_at_call 36; exact calls_far (C3.out _)) | (go_at_call 152; exact calls_far (C5.out _)) | (go_at_call 153; exact calls_far_same (C7.out _)) | (go_at_call 38; with_reducible exact calls_far_same (C4.out _)) | (go_at_call 38; with_reducible exact calls_far_same (C6.out _))) | quiet_step (first | (go_at_call 35; exact calls_far (C1.out _)) | (go_at_call 151; exact calls_far (C2.out _)) | (go_at_call 36; exact calls_far (C3.out _)) | (go_at_call 152; exact calls_far (C5.out _)) | (go_at_call 153; exact calls_far_same (C7.out _)) | (go_at_call 38; with_reducible exact calls_far_same (C4.out _)) | (go_at_call 38; with_reducible exact calls_far_same (C6.out _))))
        refine wpQuiet_nil ?_
        intro _ hw'
        obtain ⟨p, hw''⟩ := hw'
        subst hw''
        go_wp2_with fail
        go_ret
        exact ⟨by rw [HE.out, h1, h2, h3]; simp, B.out.trans ((far_below _ _).mono B.out.size)⟩
      | true =>
        rw [h3] at C3
        cases h4 : tallyB o.total with
        | false =>
          rw [h4] at C4
          go_enter Tryz.func122, Tryz.ntmps122
          go_wp2_with fail
          generalize w.alloc (Obj.cells #[Value.string o.id, Value.slice a o.ls.length cap, Value.string o.car, Value.string o.zone, Value.string o.serv, Value.int IntKind.i64 o.total, Value.int IntKind.i64 o.phase, Value.bool o.given, Value.int IntKind.i64 o.ref, Value.int IntKind.i64 o.batch] 93) = W at *
          obtain ⟨⟨c0, c1, c2, c3, c4⟩, c5, c6, c7, c8, c9⟩ := OdB.cells (o := o) D.out
          have f0 := far_cell (OdB.lt (o := o) D.out) c0
          have f1 := far_cell (OdB.lt (o := o) D.out) c1
          have f2 := far_cell (OdB.lt (o := o) D.out) c2
          have f3 := far_cell (OdB.lt (o := o) D.out) c3
          have f4 := far_cell (OdB.lt (o := o) D.out) c4
          have f5 := far_cell (OdB.lt (o := o) D.out) c5
          have f6 := far_cell (OdB.lt (o := o) D.out) c6
          have f7 := far_cell (OdB.lt (o := o) D.out) c7
          have f8 := far_cell (OdB.lt (o := o) D.out) c8
          have f9 := far_cell (OdB.lt (o := o) D.out) c9
          clear c0 c1 c2 c3 c4 c5 c6 c7 c8 c9
          have C3 : Hid (∀ p, Calls Tryz.prog _ _ (farOf W p) _) := Lib.hid (fun p => C3.out _ (L.out.below (far_below W p)))
          refine wp_region_far (by kernel_rfl) (by kernel_rfl) ?_
          repeat (first | go_big_quiet_step (first | (go_at_call 35; exact calls_far (C1.out _)) | (go_at_call 151; exact calls_far (C2.out _)) | (go_at_call 36; exact calls_far (C3.out _)) | (go_at_call 152; exact calls_far (C5.out _)) | (go_at_call 153; exact calls_far_same (C7.out _)) | (go_at_call 38; with_reducible exact calls_far_same (C4.out _)) | (go_at_call 38; with_reducible exact calls_far_same (C6.out _))) | quiet_step (first | (go_at_call 35; exact calls_far (C1.out _)) | (go_at_call 151; exact calls_far (C2.out _)) | (go_at_call 36; exact calls_far (C3.out _)) | (go_at_call 152; exact calls_far (C5.out _)) | (go_at_call 153; exact calls_far_same (C7.out _)) | (go_at_call 38; with_reducible exact calls_far_same (C4.out _)) | (go_at_call 38; with_reducible exact calls_far_same (C6.out _))))
          refine wpQuiet_nil ?_
          intro _ hw'
          obtain ⟨p, hw''⟩ := hw'
          subst hw''
          go_wp2_with fail
          go_ret
          exact ⟨by rw [HE.out, h1, h2, h3, h4]; simp, B.out.trans ((far_below _ _).mono B.out.size)⟩
        | true =>
          rw [h4] at C4
          cases h5 : sagaB o.phase o.ref with
          | false =>
            rw [h5] at C5
            go_enter Tryz.func122, Tryz.ntmps122
            go_wp2_with fail
            generalize w.alloc (Obj.cells #[Value.string o.id, Value.slice a o.ls.length cap, Value.string o.car, Value.string o.zone, Value.string o.serv, Value.int IntKind.i64 o.total, Value.int IntKind.i64 o.phase, Value.bool o.given, Value.int IntKind.i64 o.ref, Value.int IntKind.i64 o.batch] 93) = W at *
            obtain ⟨⟨c0, c1, c2, c3, c4⟩, c5, c6, c7, c8, c9⟩ := OdB.cells (o := o) D.out
            have f0 := far_cell (OdB.lt (o := o) D.out) c0
            have f1 := far_cell (OdB.lt (o := o) D.out) c1
            have f2 := far_cell (OdB.lt (o := o) D.out) c2
            have f3 := far_cell (OdB.lt (o := o) D.out) c3
            have f4 := far_cell (OdB.lt (o := o) D.out) c4
            have f5 := far_cell (OdB.lt (o := o) D.out) c5
            have f6 := far_cell (OdB.lt (o := o) D.out) c6
            have f7 := far_cell (OdB.lt (o := o) D.out) c7
            have f8 := far_cell (OdB.lt (o := o) D.out) c8
            have f9 := far_cell (OdB.lt (o := o) D.out) c9
            clear c0 c1 c2 c3 c4 c5 c6 c7 c8 c9
            have C3 : Hid (∀ p, Calls Tryz.prog _ _ (farOf W p) _) := Lib.hid (fun p => C3.out _ (L.out.below (far_below W p)))
            refine wp_region_far (by kernel_rfl) (by kernel_rfl) ?_
            repeat (first | go_big_quiet_step (first | (go_at_call 35; exact calls_far (C1.out _)) | (go_at_call 151; exact calls_far (C2.out _)) | (go_at_call 36; exact calls_far (C3.out _)) | (go_at_call 152; exact calls_far (C5.out _)) | (go_at_call 153; exact calls_far_same (C7.out _)) | (go_at_call 38; with_reducible exact calls_far_same (C4.out _)) | (go_at_call 38; with_reducible exact calls_far_same (C6.out _))) | quiet_step (first | (go_at_call 35; exact calls_far (C1.out _)) | (go_at_call 151; exact calls_far (C2.out _)) | (go_at_call 36; exact calls_far (C3.out _)) | (go_at_call 152; exact calls_far (C5.out _)) | (go_at_call 153; exact calls_far_same (C7.out _)) | (go_at_call 38; with_reducible exact calls_far_same (C4.out _)) | (go_at_call 38; with_reducible exact calls_far_same (C6.out _))))
            refine wpQuiet_nil ?_
            intro _ hw'
            obtain ⟨p, hw''⟩ := hw'
            subst hw''
            go_wp2_with fail
            go_ret
            exact ⟨by rw [HE.out, h1, h2, h3, h4, h5]; simp, B.out.trans ((far_below _ _).mono B.out.size)⟩
          | true =>
            rw [h5] at C5
            cases h6 : tallyB o.batch with
            | false =>
              rw [h6] at C6
              go_enter Tryz.func122, Tryz.ntmps122
              go_wp2_with fail
              generalize w.alloc (Obj.cells #[Value.string o.id, Value.slice a o.ls.length cap, Value.string o.car, Value.string o.zone, Value.string o.serv, Value.int IntKind.i64 o.total, Value.int IntKind.i64 o.phase, Value.bool o.given, Value.int IntKind.i64 o.ref, Value.int IntKind.i64 o.batch] 93) = W at *
              obtain ⟨⟨c0, c1, c2, c3, c4⟩, c5, c6, c7, c8, c9⟩ := OdB.cells (o := o) D.out
              have f0 := far_cell (OdB.lt (o := o) D.out) c0
              have f1 := far_cell (OdB.lt (o := o) D.out) c1
              have f2 := far_cell (OdB.lt (o := o) D.out) c2
              have f3 := far_cell (OdB.lt (o := o) D.out) c3
              have f4 := far_cell (OdB.lt (o := o) D.out) c4
              have f5 := far_cell (OdB.lt (o := o) D.out) c5
              have f6 := far_cell (OdB.lt (o := o) D.out) c6
              have f7 := far_cell (OdB.lt (o := o) D.out) c7
              have f8 := far_cell (OdB.lt (o := o) D.out) c8
              have f9 := far_cell (OdB.lt (o := o) D.out) c9
              clear c0 c1 c2 c3 c4 c5 c6 c7 c8 c9
              have C3 : Hid (∀ p, Calls Tryz.prog _ _ (farOf W p) _) := Lib.hid (fun p => C3.out _ (L.out.below (far_below W p)))
              refine wp_region_far (by kernel_rfl) (by kernel_rfl) ?_
              repeat (first | go_big_quiet_step (first | (go_at_call 35; exact calls_far (C1.out _)) | (go_at_call 151; exact calls_far (C2.out _)) | (go_at_call 36; exact calls_far (C3.out _)) | (go_at_call 152; exact calls_far (C5.out _)) | (go_at_call 153; exact calls_far_same (C7.out _)) | (go_at_call 38; with_reducible exact calls_far_same (C4.out _)) | (go_at_call 38; with_reducible exact calls_far_same (C6.out _))) | quiet_step (first | (go_at_call 35; exact calls_far (C1.out _)) | (go_at_call 151; exact calls_far (C2.out _)) | (go_at_call 36; exact calls_far (C3.out _)) | (go_at_call 152; exact calls_far (C5.out _)) | (go_at_call 153; exact calls_far_same (C7.out _)) | (go_at_call 38; with_reducible exact calls_far_same (C4.out _)) | (go_at_call 38; with_reducible exact calls_far_same (C6.out _))))
              refine wpQuiet_nil ?_
              intro _ hw'
              obtain ⟨p, hw''⟩ := hw'
              subst hw''
              go_wp2_with fail
              go_ret
              exact ⟨by rw [HE.out, h1, h2, h3, h4, h5, h6]; simp, B.out.trans ((far_below _ _).mono B.out.size)⟩
            | true =>
              rw [h6] at C6
              cases h7 : batchedB o.phase with
              | false =>
                rw [h7] at C7
                go_enter Tryz.func122, Tryz.ntmps122
                go_wp2_with fail
                generalize w.alloc (Obj.cells #[Value.string o.id, Value.slice a o.ls.length cap, Value.string o.car, Value.string o.zone, Value.string o.serv, Value.int IntKind.i64 o.total, Value.int IntKind.i64 o.phase, Value.bool o.given, Value.int IntKind.i64 o.ref, Value.int IntKind.i64 o.batch] 93) = W at *
                obtain ⟨⟨c0, c1, c2, c3, c4⟩, c5, c6, c7, c8, c9⟩ := OdB.cells (o := o) D.out
                have f0 := far_cell (OdB.lt (o := o) D.out) c0
                have f1 := far_cell (OdB.lt (o := o) D.out) c1
                have f2 := far_cell (OdB.lt (o := o) D.out) c2
                have f3 := far_cell (OdB.lt (o := o) D.out) c3
                have f4 := far_cell (OdB.lt (o := o) D.out) c4
                have f5 := far_cell (OdB.lt (o := o) D.out) c5
                have f6 := far_cell (OdB.lt (o := o) D.out) c6
                have f7 := far_cell (OdB.lt (o := o) D.out) c7
                have f8 := far_cell (OdB.lt (o := o) D.out) c8
                have f9 := far_cell (OdB.lt (o := o) D.out) c9
                clear c0 c1 c2 c3 c4 c5 c6 c7 c8 c9
                have C3 : Hid (∀ p, Calls Tryz.prog _ _ (farOf W p) _) := Lib.hid (fun p => C3.out _ (L.out.below (far_below W p)))
                refine wp_region_far (by kernel_rfl) (by kernel_rfl) ?_
                repeat (first | go_big_quiet_step (first | (go_at_call 35; exact calls_far (C1.out _)) | (go_at_call 151; exact calls_far (C2.out _)) | (go_at_call 36; exact calls_far (C3.out _)) | (go_at_call 152; exact calls_far (C5.out _)) | (go_at_call 153; exact calls_far_same (C7.out _)) | (go_at_call 38; with_reducible exact calls_far_same (C4.out _)) | (go_at_call 38; with_reducible exact calls_far_same (C6.out _))) | quiet_step (first | (go_at_call 35; exact calls_far (C1.out _)) | (go_at_call 151; exact calls_far (C2.out _)) | (go_at_call 36; exact calls_far (C3.out _)) | (go_at_call 152; exact calls_far (C5.out _)) | (go_at_call 153; exact calls_far_same (C7.out _)) | (go_at_call 38; with_reducible exact calls_far_same (C4.out _)) | (go_at_call 38; with_reducible exact calls_far_same (C6.out _))))
                refine wpQuiet_nil ?_
                intro _ hw'
                obtain ⟨p, hw''⟩ := hw'
                subst hw''
                go_wp2_with fail
                go_ret
                exact ⟨by rw [HE.out, h1, h2, h3, h4, h5, h6, h7, ← HN.out]; simp, B.out.trans ((far_below _ _).mono B.out.size)⟩
              | true =>
                rw [h7] at C7
                go_enter Tryz.func122, Tryz.ntmps122
                go_wp2_with fail
                generalize w.alloc (Obj.cells #[Value.string o.id, Value.slice a o.ls.length cap, Value.string o.car, Value.string o.zone, Value.string o.serv, Value.int IntKind.i64 o.total, Value.int IntKind.i64 o.phase, Value.bool o.given, Value.int IntKind.i64 o.ref, Value.int IntKind.i64 o.batch] 93) = W at *
                obtain ⟨⟨c0, c1, c2, c3, c4⟩, c5, c6, c7, c8, c9⟩ := OdB.cells (o := o) D.out
                have f0 := far_cell (OdB.lt (o := o) D.out) c0
                have f1 := far_cell (OdB.lt (o := o) D.out) c1
                have f2 := far_cell (OdB.lt (o := o) D.out) c2
                have f3 := far_cell (OdB.lt (o := o) D.out) c3
                have f4 := far_cell (OdB.lt (o := o) D.out) c4
                have f5 := far_cell (OdB.lt (o := o) D.out) c5
                have f6 := far_cell (OdB.lt (o := o) D.out) c6
                have f7 := far_cell (OdB.lt (o := o) D.out) c7
                have f8 := far_cell (OdB.lt (o := o) D.out) c8
                have f9 := far_cell (OdB.lt (o := o) D.out) c9
                clear c0 c1 c2 c3 c4 c5 c6 c7 c8 c9
                have C3 : Hid (∀ p, Calls Tryz.prog _ _ (farOf W p) _) := Lib.hid (fun p => C3.out _ (L.out.below (far_below W p)))
                refine wp_region_far (by kernel_rfl) (by kernel_rfl) ?_
                repeat (first | go_big_quiet_step (first | (go_at_call 35; exact calls_far (C1.out _)) | (go_at_call 151; exact calls_far (C2.out _)) | (go_at_call 36; exact calls_far (C3.out _)) | (go_at_call 152; exact calls_far (C5.out _)) | (go_at_call 153; exact calls_far_same (C7.out _)) | (go_at_call 38; with_reducible exact calls_far_same (C4.out _)) | (go_at_call 38; with_reducible exact calls_far_same (C6.out _))) | quiet_step (first | (go_at_call 35; exact calls_far (C1.out _)) | (go_at_call 151; exact calls_far (C2.out _)) | (go_at_call 36; exact calls_far (C3.out _)) | (go_at_call 152; exact calls_far (C5.out _)) | (go_at_call 153; exact calls_far_same (C7.out _)) | (go_at_call 38; with_reducible exact calls_far_same (C4.out _)) | (go_at_call 38; with_reducible exact calls_far_same (C6.out _))))
                refine wpQuiet_nil ?_
                intro _ hw'
                obtain ⟨p, hw''⟩ := hw'
                subst hw''
                go_wp2_with fail
                go_ret
                exact ⟨by rw [HE.out, h1, h2, h3, h4, h5, h6, h7, ← HN.out]; simp, B.out.trans ((far_below _ _).mono B.out.size)⟩
end

/- OrArgs: What came in as bytes, lines, an order. -/
section
set_option maxRecDepth 100000
open Go.ChangeShapes Go.WideShapes Go.ChangeAt Go.RowKit

end

/- OrRight2: What the document's Right answers, at every order. -/
section
set_option maxRecDepth 100000
open Go.RowKit

end

/- OrSame: What Same of package order, and the document's, answer, at any two orders. -/
section
set_option maxRecDepth 100000
open Go.RowKit

theorem neq_ln (x y : Ln) (w : World) : (binOp .neq 72 (.agg #[.string x.sku, .int .i64 x.qty, .int .i64 x.wt]) (.agg #[.string y.sku, .int .i64 y.qty, .int .i64 y.wt])).run Tryz.prog w = .ok (.bool (!((x.sku.toList == y.sku.toList) && ((x.qty == y.qty) && (x.wt == y.wt))))) w := by
  have u2 := Tryz.underlying2
  have u9 := Tryz.underlying9
  have a2 := Tryz.isAgg2
  have a9 := Tryz.isAgg9
  have z2 := Tryz.sizeOf2
  have z9 := Tryz.sizeOf9
  have hS : Tryz.prog.underlying 72 = some (.struct (Tryz.prog.fieldsOf 72)) := by kernel_rfl
  have hp : Tryz.prog.stoodInHeld 72 = false := by kernel_rfl
  rw [run_neq_struct, show (10000 : Nat) = 9999 + 1 from rfl, run_equalIn_agg w 9999 72 _ _ hS hp]
  simp only [Program.fieldsOf, Tryz.underlying72]
  cases h1 : (x.sku.toList == y.sku.toList) <;> cases h2 : (x.qty == y.qty) <;> cases h3 : (x.wt == y.wt) <;> go_simp

/-- Are two lines the same? -/
def lnEq (x y : Ln) : Bool := (x.sku.toList == y.sku.toList) && ((x.qty == y.qty) && (x.wt == y.wt))
theorem str_iff (a b : ByteArray) : (a.toList == b.toList) = true ↔ a = b := by
  by_cases h : a = b
  · simp [h]
  · rw [str_ne h]; simp [h]
theorem lnEq_iff (x y : Ln) : lnEq x y = true ↔ x = y := by
  unfold lnEq
  rw [Bool.and_eq_true, Bool.and_eq_true, str_iff, beq_iff_eq, beq_iff_eq]
  cases x; cases y
  simp
def sameL : List Ln → List Ln → Bool
  | [], [] => true
  | x :: a, y :: b => lnEq x y && sameL a b
  | _, _ => false
theorem sameL_iff : ∀ (a b : List Ln), sameL a b = true ↔ a = b
  | [], [] => by simp [sameL]
  | x :: a, y :: b => by simp [sameL, sameL_iff a b, lnEq_iff]
  | [], _ :: _ => by simp [sameL]
  | _ :: _, [] => by simp [sameL]
theorem sameL_len {a b : List Ln} (h : a.length ≠ b.length) : sameL a b = false := by
  rw [Bool.eq_false_iff]
  intro e
  exact h (by rw [(sameL_iff a b).1 e])
theorem sameL_step (l m : List Ln) (k : Nat) (h1 : k < l.length) (h2 : k < m.length) : sameL (l.drop k) (m.drop k) = (lnEq l[k] m[k] && sameL (l.drop (k + 1)) (m.drop (k + 1))) := by
  rw [List.drop_eq_getElem_cons h1, List.drop_eq_getElem_cons h2, sameL]

set_option maxHeartbeats 2000000 in
theorem equalL_any (a1 a2 : Option Addr) (c1 c2 : Nat) (l m : List Ln) (w : World) (h1 : LnsP w a1 c1 l) (h2 : LnsP w a2 c2 m) (hl : l.length ≤ maxLen) (_hm : m.length ≤ maxLen) :
    Calls Tryz.prog 44 #[.slice a1 l.length c1, .slice a2 m.length c2] w (Tell (sameL l m) w) := by
  have H1 := Lib.hid h1
  have H2 := Lib.hid h2
  clear h1 h2
  unfold maxLen at hl
  by_cases hq : l.length = m.length
  rotate_left
  · have HE := Lib.hid (show sameL l m = false from sameL_len hq)
    go_enter Tryz.func44, Tryz.ntmps44
    go_wp2_with fail
    go_ret
    exact ⟨by rw [HE.out]; rfl, Below.refl _ _⟩
  · have HQ := Lib.hid hq
    rw [← hq]
    clear hq
    go_enter Tryz.func44, Tryz.ntmps44
    go_wp2_with fail
    go_loopw [13] (fun i wr => ∃ k : Nat, k ≤ l.length ∧ i = .int .i64 k ∧ Hid (sameL l m = sameL (l.drop k) (m.drop k)) ∧ Below w.heap.size w wr) (fun i _ => l.length - (intOf i).toNat)
    case atStart => exact ⟨0, Nat.zero_le _, rfl, rfl, Below.refl _ _⟩
    case round =>
      obtain ⟨k, hk, rfl, HK, hbw⟩ := hrel
      by_cases hlt : k < l.length
      · have hltm : k < m.length := by rw [← HQ.out]; exact hlt
        obtain ⟨b1, o1, rfl, q1, r1, r2, r3, _⟩ := (H1.out.below hbw).at k hlt
        obtain ⟨b2, o2, rfl, q2, s1, s2, s3, _⟩ := (H2.out.below hbw).at k hltm
        have p1 := H1.out.cap
        have p2 := H2.out.cap
        rw [← HQ.out] at p2
        have hn := neq_ln l[k] m[k]
        have HS := Lib.hid (sameL_step l m k hlt hltm)
        unfold lnEq at HS
        generalize l[k] = x at *
        generalize m[k] = y at *
        cases hb : ((x.sku.toList == y.sku.toList) && ((x.qty == y.qty) && (x.wt == y.wt))) with
        | true =>
          rw [hb] at HS hn
          have HE := Lib.hid (show sameL l m = sameL (l.drop (k + 1)) (m.drop (k + 1)) by rw [HK.out, HS.out]; rfl)
          clear hb
          go_wp2_with fail
          go_quiet (fail)
          go_wp2_with fail
          go_roundw
          case rel => exact ⟨k + 1, by omega, by go_num, HE, below_drewN hbw _⟩
          case measure => simp [intOf]; omega
        | false =>
          rw [hb] at HS hn
          have HE := Lib.hid (show sameL l m = false by rw [HK.out, HS.out]; rfl)
          clear hb
          go_wp2_with fail
          go_quiet (fail)
          go_wp2_with fail
          go_ret
          exact ⟨by rw [HE.out]; rfl, below_drewN hbw _⟩
      · have HE := Lib.hid (show sameL l m = true by rw [HK.out, List.drop_eq_nil_of_le (by omega), List.drop_eq_nil_of_le (by rw [← HQ.out]; omega)]; rfl)
        go_wp2_with fail
        go_ret
        exact ⟨by rw [HE.out]; rfl, hbw⟩

def grEq (a b c x y z : ByteArray) : Bool := (a.toList == x.toList) && ((b.toList == y.toList) && (c.toList == z.toList))
theorem eq_gr (a b c x y z : ByteArray) (w : World) : (binOp .eql 24 (.agg #[.string a, .string b, .string c]) (.agg #[.string x, .string y, .string z])).run Tryz.prog w = .ok (.bool (grEq a b c x y z)) w := by
  have u9 := Tryz.underlying9
  have a9 := Tryz.isAgg9
  have z9 := Tryz.sizeOf9
  have hS : Tryz.prog.underlying 24 = some (.struct (Tryz.prog.fieldsOf 24)) := by kernel_rfl
  have hp : Tryz.prog.stoodInHeld 24 = false := by kernel_rfl
  unfold grEq
  rw [run_eql_struct, show (10000 : Nat) = 9999 + 1 from rfl, run_equalIn_agg w 9999 24 _ _ hS hp]
  simp only [Program.fieldsOf, Tryz.underlying24]
  cases h1 : (a.toList == x.toList) <;> cases h2 : (b.toList == y.toList) <;> cases h3 : (c.toList == z.toList) <;> go_simp

def sgEq (p r q s : Int) (g h : Bool) : Bool := (p == q) && ((g == h) && (r == s))
theorem eq_sg (p r q s : Int) (g h : Bool) (w : World) : (binOp .eql 91 (.agg #[.int .i64 p, .bool g, .int .i64 r]) (.agg #[.int .i64 q, .bool h, .int .i64 s])).run Tryz.prog w = .ok (.bool (sgEq p r q s g h)) w := by
  have u3 := Tryz.underlying3
  have a3 := Tryz.isAgg3
  have z3 := Tryz.sizeOf3
  have u4 := Tryz.underlying4
  have a4 := Tryz.isAgg4
  have z4 := Tryz.sizeOf4
  have hS : Tryz.prog.underlying 91 = some (.struct (Tryz.prog.fieldsOf 91)) := by kernel_rfl
  have hp : Tryz.prog.stoodInHeld 91 = false := by kernel_rfl
  unfold sgEq
  rw [run_eql_struct, show (10000 : Nat) = 9999 + 1 from rfl, run_equalIn_agg w 9999 91 _ _ hS hp]
  simp only [Program.fieldsOf, Tryz.underlying91]
  cases h1 : (p == q) <;> cases h3 : (r == s) <;> cases g <;> cases h <;> go_simp

/-- Are two orders the same? -/
def sameO (x y : Od) : Bool := (x.id.toList == y.id.toList) && sameL x.ls y.ls && grEq x.car x.zone x.serv y.car y.zone y.serv && (x.total == y.total) && sgEq x.phase x.ref y.phase y.ref x.given y.given && (x.batch == y.batch)
theorem tl_iff (a b : ByteArray) : a.toList = b.toList ↔ a = b := by rw [← str_iff, beq_iff_eq]
theorem sameO_iff (x y : Od) : sameO x y = true ↔ x = y := by
  unfold sameO grEq sgEq
  simp only [Bool.and_eq_true, sameL_iff, beq_iff_eq, tl_iff]
  cases x; cases y
  simp
  constructor
  · rintro ⟨⟨⟨⟨⟨h1, h2⟩, h3, h4, h5⟩, h6⟩, h7, h8, h9⟩, h10⟩
    exact ⟨h1, h2, h3, h4, h5, h6, h7, h8, h9, h10⟩
  · rintro ⟨h1, h2, h3, h4, h5, h6, h7, h8, h9, h10⟩
    exact ⟨⟨⟨⟨⟨h1, h2⟩, h3, h4, h5⟩, h6⟩, h7, h8, h9⟩, h10⟩

set_option maxRecDepth 100000 in
set_option maxHeartbeats 4000000 in
theorem oSame_any (a1 a2 : Option Addr) (c1 c2 : Nat) (x y : Od) (w : World) (h1 : OdP w a1 c1 x) (h2 : OdP w a2 c2 y) : Calls Tryz.prog 100 #[odV a1 c1 x, odV a2 c2 y] w (Tell (sameO x y) w) := by
  have D0 := Lib.hid (OdB.new w a1 c1 x)
  have D2 := Lib.hid (OdB.new (w.alloc (.cells (odC a1 c1 x) 93)) a2 c2 y)
  have hz : (w.alloc (.cells (odC a1 c1 x) 93)).heap.size = w.heap.size + 1 := by simp
  have D1 := Lib.hid (D0.out.below ((Below.refl _ _).alloc (Nat.le_refl _) (.cells (odC a2 c2 y) 93)))
  have B := Lib.hid (((Below.refl w.heap.size w).alloc (Nat.le_refl _) (Obj.cells (odC a1 c1 x) 93)).alloc (by simp) (Obj.cells (odC a2 c2 y) 93))
  have L1 := Lib.hid (h1.lns.below B.out)
  have L2 := Lib.hid (h2.lns.below B.out)
  rw [hz] at D2
  have C := Lib.hid (fun W k1 k2 => equalL_any a1 a2 c1 c2 x.ls y.ls W k1 k2 h1.len h2.len)
  have HG := Lib.hid (eq_gr x.car x.zone x.serv y.car y.zone y.serv)
  have HQ := Lib.hid (eq_sg x.phase x.ref y.phase y.ref x.given y.given)
  have HE := Lib.hid (show sameO x y = ((x.id.toList == y.id.toList) && sameL x.ls y.ls && grEq x.car x.zone x.serv y.car y.zone y.serv && (x.total == y.total) && sgEq x.phase x.ref y.phase y.ref x.given y.given && (x.batch == y.batch)) from rfl)
  clear h1 h2 hz D0
  unfold odV
  unfold odC at *
  have hg := HG.out
  have hs := HQ.out
  cases h1 : (x.id.toList == y.id.toList) with
  | false =>
    go_enter Tryz.func100, Tryz.ntmps100
    go_wp2_with fail
    go_ret
    exact ⟨by rw [HE.out, h1]; simp, B.out⟩
  | true =>
    go_enter Tryz.func100, Tryz.ntmps100
    go_wp2_with fail
    generalize (w.alloc (Obj.cells #[Value.string x.id, Value.slice a1 x.ls.length c1, Value.string x.car, Value.string x.zone, Value.string x.serv, Value.int IntKind.i64 x.total, Value.int IntKind.i64 x.phase, Value.bool x.given, Value.int IntKind.i64 x.ref, Value.int IntKind.i64 x.batch] 93)).alloc (Obj.cells #[Value.string y.id, Value.slice a2 y.ls.length c2, Value.string y.car, Value.string y.zone, Value.string y.serv, Value.int IntKind.i64 y.total, Value.int IntKind.i64 y.phase, Value.bool y.given, Value.int IntKind.i64 y.ref, Value.int IntKind.i64 y.batch] 93) = W at *
    refine (C.out _ L1.out L2.out).mono ?_
    rintro e w1 ⟨rfl, b1⟩
    have E1 := Lib.hid (D1.out.below b1)
    have E2 := Lib.hid (D2.out.below b1)
    have B1 := Lib.hid (B.out.trans (b1.mono B.out.size))
    clear b1
    obtain ⟨⟨c0, c1, c2, c3, c4⟩, c5, c6, c7, c8, c9⟩ := OdB.cells (o := x) E1.out
    obtain ⟨⟨d0, d1, d2, d3, d4⟩, d5, d6, d7, d8, d9⟩ := OdB.cells (o := y) E2.out
    cases h2 : sameL x.ls y.ls with
    | false =>
      go_wp2_with fail
      go_ret
      exact ⟨by rw [HE.out, h1, h2]; simp, B1.out⟩
    | true =>
      cases h3 : grEq x.car x.zone x.serv y.car y.zone y.serv with
      | false =>
        rw [h3] at hg
        go_wp2_with fail
        go_ret
        exact ⟨by rw [HE.out, h1, h2, h3]; simp, B1.out⟩
      | true =>
        rw [h3] at hg
        cases h4 : (x.total == y.total) with
        | false =>
          go_wp2_with fail
          go_ret
          exact ⟨by rw [HE.out, h1, h2, h3, h4]; simp, B1.out⟩
        | true =>
          cases h5 : sgEq x.phase x.ref y.phase y.ref x.given y.given with
          | false =>
            rw [h5] at hs
            go_wp2_with fail
            go_ret
            exact ⟨by rw [HE.out, h1, h2, h3, h4, h5]; simp, B1.out⟩
          | true =>
            rw [h5] at hs
            cases h6 : (x.batch == y.batch) with
            | false =>
              go_wp2_with fail
              go_ret
              exact ⟨by rw [HE.out, h1, h2, h3, h4, h5, h6]; simp, B1.out⟩
            | true =>
              go_wp2_with fail
              go_ret
              exact ⟨by rw [HE.out, h1, h2, h3, h4, h5, h6]; simp, B1.out⟩

end
end Go.Proofs.YtfmpibmhhfmajaaGreatDoor
