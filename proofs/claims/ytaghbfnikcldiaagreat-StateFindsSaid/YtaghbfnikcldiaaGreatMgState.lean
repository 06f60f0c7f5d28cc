/- States, as the document tells them. -/
import Derived.Test.YtaghbfnikcldiaaGreatMgLines
import Derived.Test.YtaghbfnikcldiaaGreatMgOrders
import Derived.Test.YtaghbfnikcldiaaGreatMgBatches
import Derived.Test.YtaghbfnikcldiaaGreatMgEffects
import Derived.Test.YtaghbfnikcldiaaGreatDyPlain2
import Derived.Test.YtaghbfnikcldiaaGreatDyOwn
import Derived.OwnWalk
import Derived.Deep.DeepCutAuto
import Derived.Test.YtaghbfnikcldiaaGreatDyLeaf
namespace Go.Proofs.YtaghbfnikcldiaaGreat

/- StPlain: Plain facts on all that a desk knows: what is there, whether it hangs together. -/
section
set_option maxRecDepth 100000

/-- All that a desk knows. -/
structure St where
  waves : Cp
  mans : Cp
  limit : Int
  doors : List Int
  now : Int
  nb : Int
  nk : Int
  ords : List Od
  bats : List Bt
  effs : List Ef

def noSt : St := ⟨⟨0, 0⟩, ⟨0, 0⟩, 0, [], 0, 0, 0, [], [], []⟩
def noOd : Od := ⟨⟨#[]⟩, [], ⟨#[]⟩, ⟨#[]⟩, ⟨#[]⟩, 0, 0, false, 0, 0⟩
/-- The order of an id, the batch of an id. -/
def findO (l : List Od) (id : ByteArray) : Option Od := l.find? fun o => o.id.toList == id.toList
def findB (l : List Bt) (id : Int) : Option Bt := l.find? fun b => b.id == id
def orderV (l : List Od) (id : ByteArray) : Od := (findO l id).getD noOd
def batchV (l : List Bt) (id : Int) : Bt := (findB l id).getD noBt
/-- What orders weigh together. -/
def weighS (l : List Od) (ids : List ByteArray) : Int := (ids.map fun id => weightV (orderV l id).ls).sum
theorem weighS_nil (l : List Od) : weighS l [] = 0 := rfl
theorem weighS_append (l : List Od) (a b : List ByteArray) : weighS l (a ++ b) = weighS l a + weighS l b := by simp [weighS]
theorem weighS_one (l : List Od) (id : ByteArray) : weighS l [id] = weightV (orderV l id).ls := by simp [weighS]
theorem weighS_bound (l : List Od) : ∀ (ids : List ByteArray), 0 ≤ weighS l ids ∧ weighS l ids ≤ 800000000 * ids.length
  | [] => by simp [weighS]
  | x :: r => by
    have ih := weighS_bound l r
    have hw := weightV_bound (orderV l x).ls
    rw [show x :: r = [x] ++ r from rfl, weighS_append, weighS_one]
    simp only [List.length_append, List.length_cons, List.length_nil]
    omega
/-- The phase of the members of a batch. -/
def insideN (kind phase : Int) : Int := if kind = 1 then (if phase = 1 then 3 else 4) else (if phase = 1 then 5 else 6)
/-- Whether one is a member as it must be. -/
def memOk (l : List Od) (b : Bt) (id : ByteArray) : Bool :=
  (findO l id).isSome && ((orderV l id).batch == b.id && (sameG (orderV l id).car (orderV l id).zone (orderV l id).serv b.car b.zone b.serv && ((orderV l id).phase == insideN b.kind b.phase)))
def batchOk (l : List Od) (nb : Int) (b : Bt) : Bool :=
  rightBt b && (b.phase != 3 && (decide (b.mem.length ≠ 0) && (decide (b.id < nb) && ((weighS l b.mem == b.wt) && b.mem.all (memOk l b)))))
/-- How many effects there are of a kind, an order, a batch. -/
def askP (kind : Int) (id : ByteArray) (batch : Int) (e : Ef) : Bool := e.kind == kind && ((e.order.toList == id.toList) && (e.batch == batch))
def askN (l : List Ef) (kind : Int) (id : ByteArray) (batch : Int) : Nat := l.countP (askP kind id batch)
def noT : ByteArray := ⟨#[]⟩
def needO (l : List Ef) (o : Od) : Bool := asksN o.phase == 0 || askN l (asksN o.phase) o.id 0 == 1
def needB (l : List Ef) (b : Bt) : Bool := b.phase != 2 || askN l (2 + b.kind) noT b.id == 1
def asksB (o : Od) : Bool := asksN o.phase != 0
def outB (b : Bt) : Bool := b.phase == 2
def manyN (os : List Od) (bs : List Bt) : Nat := os.countP asksB + bs.countP outB
def effsOk (os : List Od) (bs : List Bt) (l : List Ef) (nk : Int) : Bool :=
  os.all (needO l) && (bs.all (needB l) && (l.all (fun e => decide (e.key < nk)) && (decide (manyN os bs = l.length) && rightE l)))
/-- What stands behind has the greater id. -/
def aheadO (p : Option ByteArray) (id : ByteArray) : Bool := match p with | none => true | some q => decide (kcmp q id < 0)
def aheadB (p : Option Int) (id : Int) : Bool := match p with | none => true | some q => decide (q < id)
/-- Orders that can be, their ids rising. -/
def goodO (p : Option ByteArray) : List Od → Bool
  | [] => true
  | o :: r => rightO o && (aheadO p o.id && goodO (some o.id) r)
def prevO (l : List Od) (k : Nat) : Option ByteArray := if k = 0 then none else (l[k - 1]?).map (·.id)
def goodB (os : List Od) (nb : Int) (p : Option Int) : List Bt → Bool
  | [] => true
  | b :: r => batchOk os nb b && (aheadB p b.id && goodB os nb (some b.id) r)
def prevB (l : List Bt) (k : Nat) : Option Int := if k = 0 then none else (l[k - 1]?).map (·.id)
/-- Who is in a batch is a member of it. -/
def heldIn (l : List Bt) (o : Od) : Bool := o.batch == 0 || ((findB l o.batch).isSome && hasT (batchV l o.batch).mem o.id)
def limitB (n : Int) : Bool := decide (1 ≤ n ∧ n ≤ 100)
def limitsB (s : St) : Bool := capsB s.waves && (capsB s.mans && (limitB s.limit && (fitsB s.doors && (tickB s.now && (aboveB s.nb && aboveB s.nk)))))
def rightS (s : St) : Bool :=
  limitsB s && (decide (s.ords.length ≤ 400) && (goodO none s.ords && (goodB s.ords s.nb none s.bats && (s.ords.all (heldIn s.bats) && effsOk s.ords s.bats s.effs s.nk))))
/-- What a desk begins with. -/
def newOk (w m : Cp) (limit : Int) (doors : List Int) : Bool := (doorsE doors == 0) && (capsB w && (capsB m && limitB limit))
def newV (w m : Cp) (limit : Int) (doors : List Int) : St := if newOk w m limit doors then ⟨w, m, limit, doorsV doors, 0, 1, 1, [], [], []⟩ else noSt
def newE (w m : Cp) (limit : Int) (doors : List Int) : Int := if newOk w m limit doors then 0 else 151
/-- The open batches of a kind and a group. -/
def heldP (kind : Int) (a b c : ByteArray) (x : Bt) : Bool := x.kind == kind && (x.phase == 1 && sameG x.car x.zone x.serv a b c)
def heldV (l : List Bt) (kind : Int) (a b c : ByteArray) : List Int := (l.filter (heldP kind a b c)).map (·.id)

theorem all_drop {α : Type} (P : α → Bool) (l : List α) (k : Nat) (h : k < l.length) : (l.drop k).all P = (P l[k] && (l.drop (k + 1)).all P) := by
  rw [List.drop_eq_getElem_cons h, List.all_cons]
theorem countP_drop {α : Type} (P : α → Bool) (l : List α) (k : Nat) (h : k < l.length) : (l.take (k + 1)).countP P = (l.take k).countP P + (if P l[k] then 1 else 0) := by
  rw [List.take_succ_eq_append_getElem h, List.countP_append]
  simp [List.countP_cons]
theorem prevO_succ {l : List Od} {k : Nat} (h : k < l.length) : prevO l (k + 1) = some l[k].id := by simp [prevO, h]
theorem prevB_succ {l : List Bt} {k : Nat} (h : k < l.length) : prevB l (k + 1) = some l[k].id := by simp [prevB, h]
theorem goodO_drop (l : List Od) (k : Nat) (h : k < l.length) : goodO (prevO l k) (l.drop k) = (rightO l[k] && (aheadO (prevO l k) l[k].id && goodO (prevO l (k + 1)) (l.drop (k + 1)))) := by
  rw [List.drop_eq_getElem_cons h, prevO_succ h]; rfl
theorem goodB_drop (os : List Od) (nb : Int) (l : List Bt) (k : Nat) (h : k < l.length) : goodB os nb (prevB l k) (l.drop k) = (batchOk os nb l[k] && (aheadB (prevB l k) l[k].id && goodB os nb (prevB l (k + 1)) (l.drop (k + 1)))) := by
  rw [List.drop_eq_getElem_cons h, prevB_succ h]; rfl
end

/- StLay: Orders, batches and states as values: how they lie, whole loads, stores and new variables told at once. -/
section
set_option maxRecDepth 100000
open Go.RowKit Go.ChangeShapes Go.WideShapes Go.ChangeAt

/-- An order, and where its lines lie. -/
structure OdR where
  o : Od
  a : Option Addr
  c : Nat
/-- A batch, and where its members lie. -/
structure BtR where
  b : Bt
  a : Option Addr
  c : Nat
def noOdR : OdR := ⟨noOd, none, 0⟩
def noBtR : BtR := ⟨noBt, none, 0⟩
def orV (r : OdR) : Value := odV r.a r.c r.o
def baV (r : BtR) : Value := btV r.a r.c r.b
def orC (r : OdR) : Array Value := odC r.a r.c r.o
def baC (r : BtR) : Array Value := btC r.a r.c r.b
def orL (r : OdR) : List Value := [.string r.o.id, .slice r.a r.o.ls.length r.c, .string r.o.car, .string r.o.zone, .string r.o.serv, .int .i64 r.o.total, .int .i64 r.o.phase, .bool r.o.given, .int .i64 r.o.ref, .int .i64 r.o.batch]
def baL (r : BtR) : List Value := [.int .i64 r.b.id, .int .i64 r.b.wt, .int .i64 r.b.born, .int .i64 r.b.kind, .int .i64 r.b.phase, .string r.b.car, .string r.b.zone, .string r.b.serv, .slice r.a r.b.mem.length r.c]
def LO : Lay OdR := ⟨orL, 10, 39, 25, orV noOdR, 128⟩
def LB : Lay BtR := ⟨baL, 9, 46, 26, baV noBtR, 112⟩
theorem LO_ok : LO.Ok where
  len := fun _ => rfl
  one := fun x v h => by
    simp only [LO, orL, List.mem_cons, List.not_mem_nil, or_false] at h
    rcases h with rfl | rfl | rfl | rfl | rfl | rfl | rfl | rfl | rfl | rfl <;> rfl
  und := Tryz.underlying25
  info := by kernel_rfl
  zs := rfl
  pos := by decide
  few := by decide
  agg := fun W => by show (isAgg 39).run Tryz.prog W = _; kernel_rfl
theorem LB_ok : LB.Ok where
  len := fun _ => rfl
  one := fun x v h => by
    simp only [LB, baL, List.mem_cons, List.not_mem_nil, or_false] at h
    rcases h with rfl | rfl | rfl | rfl | rfl | rfl | rfl | rfl | rfl <;> rfl
  und := Tryz.underlying26
  info := by kernel_rfl
  zs := rfl
  pos := by decide
  few := by decide
  agg := fun W => by show (isAgg 46).run Tryz.prog W = _; kernel_rfl

/-- A state, and where its lists lie. -/
structure StR where
  waves : Cp
  mans : Cp
  limit : Int
  doors : List Int
  da : Option Addr
  dc : Nat
  now : Int
  nb : Int
  nk : Int
  ords : List OdR
  oa : Option Addr
  oc : Nat
  bats : List BtR
  ba : Option Addr
  bc : Nat
  effs : List Ef
  ea : Option Addr
  ec : Nat
def odsOf (l : List OdR) : List Od := l.map (·.o)
def btsOf (l : List BtR) : List Bt := l.map (·.b)
def StR.st (r : StR) : St := ⟨r.waves, r.mans, r.limit, r.doors, r.now, r.nb, r.nk, odsOf r.ords, btsOf r.bats, r.effs⟩
def noStR : StR := ⟨⟨0, 0⟩, ⟨0, 0⟩, 0, [], none, 0, 0, 0, 0, [], none, 0, [], none, 0, [], none, 0⟩
def stC (r : StR) : Array Value := #[.int .i64 r.waves.count, .int .i64 r.waves.wt, .int .i64 r.mans.count, .int .i64 r.mans.wt, .int .i64 r.limit, .slice r.da r.doors.length r.dc, .int .i64 r.now, .int .i64 r.nb, .int .i64 r.nk, .slice r.oa r.ords.length r.oc, .slice r.ba r.bats.length r.bc, .slice r.ea r.effs.length r.ec]
def stV (r : StR) : Value := .agg (stC r)
def cpC (c : Cp) : Array Value := #[.int .i64 c.count, .int .i64 c.wt]
def grC (a b c : ByteArray) : Array Value := #[.string a, .string b, .string c]
def grV (a b c : ByteArray) : Value := .agg (grC a b c)

theorem OdP.none (w : World) (a : Option Addr) (cap : Nat) : OdP w a cap noOd := ⟨LnsP.nil _ _ _, by decide, by decide, by decide, by decide, by decide⟩
theorem BtP.none (w : World) (a : Option Addr) (cap : Nat) : BtP w a cap noBt := ⟨⟨by simp [noBt], by simp [noBt], fun h => absurd rfl h⟩, by simp [noBt], by decide, by decide, by decide⟩
/-- A list of orders lies there, and what is in each. -/
structure OrsP (w : World) (a : Option Addr) (cap : Nat) (l : List OdR) : Prop where
  sl : SlP LO w a cap l
  each : ∀ r ∈ l, OdP w r.a r.c r.o
structure BasP (w : World) (a : Option Addr) (cap : Nat) (l : List BtR) : Prop where
  sl : SlP LB w a cap l
  each : ∀ r ∈ l, BtP w r.a r.c r.b
structure EfsP (w : World) (a : Option Addr) (cap : Nat) (l : List Ef) : Prop where
  sl : SlP LE w a cap l
  each : ∀ e ∈ l, e.order.size ≤ maxLen
theorem OrsP.below {w w' : World} {a cap l} (h : OrsP w a cap l) (b : Below w.heap.size w w') : OrsP w' a cap l := ⟨h.sl.below b, fun r hr => (h.each r hr).below b⟩
theorem BasP.below {w w' : World} {a cap l} (h : BasP w a cap l) (b : Below w.heap.size w w') : BasP w' a cap l := ⟨h.sl.below b, fun r hr => (h.each r hr).below b⟩
theorem EfsP.below {w w' : World} {a cap l} (h : EfsP w a cap l) (b : Below w.heap.size w w') : EfsP w' a cap l := ⟨h.sl.below b, h.each⟩
theorem OrsP.nil (w : World) (a : Option Addr) (cap : Nat) : OrsP w a cap [] := ⟨SlP.nil _ _ _, by simp⟩
theorem BasP.nil (w : World) (a : Option Addr) (cap : Nat) : BasP w a cap [] := ⟨SlP.nil _ _ _, by simp⟩
theorem EfsP.nil (w : World) (a : Option Addr) (cap : Nat) : EfsP w a cap [] := ⟨SlP.nil _ _ _, by simp⟩
/-- A state lies there. -/
structure StP (w : World) (r : StR) : Prop where
  doors : IntsP w r.da r.dc r.doors
  dlen : r.doors.length ≤ maxLen
  ords : OrsP w r.oa r.oc r.ords
  bats : BasP w r.ba r.bc r.bats
  effs : EfsP w r.ea r.ec r.effs
theorem StP.below {w w' : World} {r : StR} (h : StP w r) (b : Below w.heap.size w w') : StP w' r := ⟨h.doors.below b, h.dlen, h.ords.below b, h.bats.below b, h.effs.below b⟩
theorem StP.none (w : World) : StP w noStR := ⟨IntsP.nil _ _ _, by decide, OrsP.nil _ _ _, BasP.nil _ _ _, EfsP.nil _ _ _⟩

section
variable (ev : Operand → Value) (d : Option Tmp) (ty : TypeId) (pos : String) (af : Array Edge) (gd : Option (Nat × Bool)) (w : World)
theorem ldOr (x : Operand) : (execOp ev ⟨d, .load 39 x, ty, pos, af, gd⟩).run Tryz.prog w = LdX 39 (ev x) w := rfl
theorem stOr (x y : Operand) : (execOp ev ⟨d, .store 39 x y, ty, pos, af, gd⟩).run Tryz.prog w = StX 39 (ev x) (ev y) w := rfl
theorem alOr : (execOp ev ⟨d, .alloc 39, ty, pos, af, gd⟩).run Tryz.prog w = AlX 39 w := rfl
theorem bxOr (x : Operand) : (execOp ev ⟨d, .box 39 x, ty, pos, af, gd⟩).run Tryz.prog w = BxX 39 (ev x) w := rfl
theorem ldBa (x : Operand) : (execOp ev ⟨d, .load 46 x, ty, pos, af, gd⟩).run Tryz.prog w = LdX 46 (ev x) w := rfl
theorem stBa (x y : Operand) : (execOp ev ⟨d, .store 46 x y, ty, pos, af, gd⟩).run Tryz.prog w = StX 46 (ev x) (ev y) w := rfl
theorem alBa : (execOp ev ⟨d, .alloc 46, ty, pos, af, gd⟩).run Tryz.prog w = AlX 46 w := rfl
theorem bxBa (x : Operand) : (execOp ev ⟨d, .box 46 x, ty, pos, af, gd⟩).run Tryz.prog w = BxX 46 (ev x) w := rfl
theorem ldSt (x : Operand) : (execOp ev ⟨d, .load 29 x, ty, pos, af, gd⟩).run Tryz.prog w = LdX 29 (ev x) w := rfl
theorem stSt (x y : Operand) : (execOp ev ⟨d, .store 29 x y, ty, pos, af, gd⟩).run Tryz.prog w = StX 29 (ev x) (ev y) w := rfl
theorem alSt : (execOp ev ⟨d, .alloc 29, ty, pos, af, gd⟩).run Tryz.prog w = AlX 29 w := rfl
theorem bxSt (x : Operand) : (execOp ev ⟨d, .box 29 x, ty, pos, af, gd⟩).run Tryz.prog w = BxX 29 (ev x) w := rfl
theorem ldCa (x : Operand) : (execOp ev ⟨d, .load 23 x, ty, pos, af, gd⟩).run Tryz.prog w = LdX 23 (ev x) w := rfl
theorem bxCa (x : Operand) : (execOp ev ⟨d, .box 23 x, ty, pos, af, gd⟩).run Tryz.prog w = BxX 23 (ev x) w := rfl
theorem ldGr (x : Operand) : (execOp ev ⟨d, .load 35 x, ty, pos, af, gd⟩).run Tryz.prog w = LdX 35 (ev x) w := rfl
theorem bxGr (x : Operand) : (execOp ev ⟨d, .box 35 x, ty, pos, af, gd⟩).run Tryz.prog w = BxX 35 (ev x) w := rfl
theorem bdOr (ps : Array (Nat × Operand)) : (execOp ev ⟨d, .build 39 ps, ty, pos, af, gd⟩).run Tryz.prog w = BdX 39 (ps.map fun (i, x) => (i, ev x)) w := rfl
theorem bdBa (ps : Array (Nat × Operand)) : (execOp ev ⟨d, .build 46 ps, ty, pos, af, gd⟩).run Tryz.prog w = BdX 46 (ps.map fun (i, x) => (i, ev x)) w := rfl
theorem bdSt (ps : Array (Nat × Operand)) : (execOp ev ⟨d, .build 29 ps, ty, pos, af, gd⟩).run Tryz.prog w = BdX 29 (ps.map fun (i, x) => (i, ev x)) w := rfl
theorem bd_or : BdX 39 #[] w = .ok (.value (orV noOdR)) w := by kernel_rfl
theorem bd_ba : BdX 46 #[] w = .ok (.value (baV noBtR)) w := by kernel_rfl
theorem bd_sta : BdX 29 #[] w = .ok (.value (stV noStR)) w := by kernel_rfl
theorem zeroOr (W : World) : (zeroValue 39).run Tryz.prog W = .ok (.agg (orC noOdR)) W := by kernel_rfl
theorem zeroBa (W : World) : (zeroValue 46).run Tryz.prog W = .ok (.agg (baC noBtR)) W := by kernel_rfl
theorem zeroSt (W : World) : (zeroValue 29).run Tryz.prog W = .ok (.agg (stC noStR)) W := by kernel_rfl
theorem al_or : AlX 39 w = .ok (.value (.pointer (some ⟨w.heap.size, 0, none⟩))) (w.alloc (.cells (orC noOdR) 39)) := al_any _ _ w zeroOr
theorem al_ba : AlX 46 w = .ok (.value (.pointer (some ⟨w.heap.size, 0, none⟩))) (w.alloc (.cells (baC noBtR) 46)) := al_any _ _ w zeroBa
theorem al_sta : AlX 29 w = .ok (.value (.pointer (some ⟨w.heap.size, 0, none⟩))) (w.alloc (.cells (stC noStR) 29)) := al_any _ _ w zeroSt
theorem bx_or (r : OdR) : BxX 39 (orV r) w = .ok (.value (.pointer (some ⟨w.heap.size, 0, none⟩))) (w.alloc (.cells (orC r) 39)) := bx_any _ _ w
theorem bx_ba (r : BtR) : BxX 46 (baV r) w = .ok (.value (.pointer (some ⟨w.heap.size, 0, none⟩))) (w.alloc (.cells (baC r) 46)) := bx_any _ _ w
theorem bx_sta (r : StR) : BxX 29 (stV r) w = .ok (.value (.pointer (some ⟨w.heap.size, 0, none⟩))) (w.alloc (.cells (stC r) 29)) := bx_any _ _ w
theorem bx_ca (c : Cp) : BxX 23 (cpV c) w = .ok (.value (.pointer (some ⟨w.heap.size, 0, none⟩))) (w.alloc (.cells (cpC c) 23)) := bx_any _ _ w
theorem bx_gr (a b c : ByteArray) : BxX 35 (grV a b c) w = .ok (.value (.pointer (some ⟨w.heap.size, 0, none⟩))) (w.alloc (.cells (grC a b c) 35)) := bx_any _ _ w
end

theorem size10 (r : OdR) : (Tryz.prog.info? 39).map (·.size) = some (orC r).size := by
  show _ = some 10
  kernel_rfl
theorem size9B (r : BtR) : (Tryz.prog.info? 46).map (·.size) = some (baC r).size := by
  show _ = some 9
  kernel_rfl
theorem size12 (r : StR) : (Tryz.prog.info? 29).map (·.size) = some (stC r).size := by
  show _ = some 12
  kernel_rfl
theorem load10 {W : World} {g : Nat} {r : OdR} (h : Row W g 39 (orC r)) : (loadVar 39 ⟨g, 0, none⟩).run Tryz.prog W = .ok (.agg (orC r)) W :=
  run_loadVar_row (P := Tryz.prog) W g 39 39 _ (0, 0) _ h Tryz.underlying39 rfl (size10 r)
theorem load9B {W : World} {g : Nat} {r : BtR} (h : Row W g 46 (baC r)) : (loadVar 46 ⟨g, 0, none⟩).run Tryz.prog W = .ok (.agg (baC r)) W :=
  run_loadVar_row (P := Tryz.prog) W g 46 46 _ (0, 0) _ h Tryz.underlying46 rfl (size9B r)
theorem load12 {W : World} {g : Nat} {r : StR} (h : Row W g 29 (stC r)) : (loadVar 29 ⟨g, 0, none⟩).run Tryz.prog W = .ok (.agg (stC r)) W :=
  run_loadVar_row (P := Tryz.prog) W g 29 29 _ (0, 0) _ h Tryz.underlying29 rfl (size12 r)
theorem ld_or {W : World} {g : Nat} {r : OdR} (h : Row W g 39 (orC r)) : LdX 39 (.pointer (some ⟨g, 0, none⟩)) W = .ok (.value (orV r)) W := by
  simp only [LdX, Instr.loadAt, Instr.sureAddr, Sem.run_bind, Sem.run_pure, Result.andThen_ok, load10 h]
  rfl
theorem ld_ba {W : World} {g : Nat} {r : BtR} (h : Row W g 46 (baC r)) : LdX 46 (.pointer (some ⟨g, 0, none⟩)) W = .ok (.value (baV r)) W := by
  simp only [LdX, Instr.loadAt, Instr.sureAddr, Sem.run_bind, Sem.run_pure, Result.andThen_ok, load9B h]
  rfl
theorem ld_sta {W : World} {g : Nat} {r : StR} (h : Row W g 29 (stC r)) : LdX 29 (.pointer (some ⟨g, 0, none⟩)) W = .ok (.value (stV r)) W := by
  simp only [LdX, Instr.loadAt, Instr.sureAddr, Sem.run_bind, Sem.run_pure, Result.andThen_ok, load12 h]
  rfl
theorem orC_one (r : OdR) : ∀ v ∈ (orC r).toList, v.oneCell' = true := fun v h => LO_ok.one r v h
theorem baC_one (r : BtR) : ∀ v ∈ (baC r).toList, v.oneCell' = true := fun v h => LB_ok.one r v h
theorem st_or {W : World} {g : Nat} {o : OdR} (h : Row W g 39 (orC o)) (r : OdR) : StX 39 (.pointer (some ⟨g, 0, none⟩)) (orV r) W = .ok .skip (W.setRow g (orC r)) := by
  have := run_storeVar_row (P := Tryz.prog) W g 39 39 (orC o) (orC r) h (size10 r) rfl (by simp [orC, odC, Value.oneCell'])
  simp only [StX, Instr.storeAt, Instr.sureAddr, Sem.run_bind, Sem.run_pure, Result.andThen_ok, orV]
  rw [show odV r.a r.c r.o = Value.agg (orC r) from rfl, this]
  rfl
theorem st_ba {W : World} {g : Nat} {o : BtR} (h : Row W g 46 (baC o)) (r : BtR) : StX 46 (.pointer (some ⟨g, 0, none⟩)) (baV r) W = .ok .skip (W.setRow g (baC r)) := by
  have := run_storeVar_row (P := Tryz.prog) W g 46 46 (baC o) (baC r) h (size9B r) rfl (by simp [baC, btC, Value.oneCell'])
  simp only [StX, Instr.storeAt, Instr.sureAddr, Sem.run_bind, Sem.run_pure, Result.andThen_ok, baV]
  rw [show btV r.a r.c r.b = Value.agg (baC r) from rfl, this]
  rfl
theorem st_sta {W : World} {g : Nat} {o : StR} (h : Row W g 29 (stC o)) (r : StR) : StX 29 (.pointer (some ⟨g, 0, none⟩)) (stV r) W = .ok .skip (W.setRow g (stC r)) := by
  have := run_storeVar_row (P := Tryz.prog) W g 29 29 (stC o) (stC r) h (size12 r) rfl (by simp [stC, Value.oneCell'])
  simp only [StX, Instr.storeAt, Instr.sureAddr, Sem.run_bind, Sem.run_pure, Result.andThen_ok, stV]
  rw [this]
  rfl
theorem st_ornew (W : World) (r : OdR) : StX 39 (.pointer (some ⟨W.heap.size, 0, none⟩)) (orV r) (W.alloc (.cells (orC noOdR) 39)) = .ok .skip (W.alloc (.cells (orC r) 39)) := by
  rw [st_or (Row.new W (orC noOdR) 39) r, alloc_setRow]
theorem st_banew (W : World) (r : BtR) : StX 46 (.pointer (some ⟨W.heap.size, 0, none⟩)) (baV r) (W.alloc (.cells (baC noBtR) 46)) = .ok .skip (W.alloc (.cells (baC r) 46)) := by
  rw [st_ba (Row.new W (baC noBtR) 46) r, alloc_setRow]
theorem st_stnew (W : World) (r : StR) : StX 29 (.pointer (some ⟨W.heap.size, 0, none⟩)) (stV r) (W.alloc (.cells (stC noStR) 29)) = .ok .skip (W.alloc (.cells (stC r) 29)) := by
  rw [st_sta (Row.new W (stC noStR) 29) r, alloc_setRow]
/-- A whole part of a variable: the caps, the group. -/
theorem aggCa (W : World) : (isAgg 23).run Tryz.prog W = .ok true W := by kernel_rfl
theorem sizeCa (W : World) : (sizeOf 23).run Tryz.prog W = .ok 2 W := by kernel_rfl
theorem aggGr (W : World) : (isAgg 35).run Tryz.prog W = .ok true W := by kernel_rfl
theorem sizeGr (W : World) : (sizeOf 35).run Tryz.prog W = .ok 3 W := by kernel_rfl
theorem ld_caAt {W : World} {g o : Nat} {c : Cp} (h0 : W.cell? ⟨g, o, none⟩ = some (.int .i64 c.count)) (h1 : W.cell? ⟨g, o + 1, none⟩ = some (.int .i64 c.wt)) : LdX 23 (.pointer (some ⟨g, o, none⟩)) W = .ok (.value (cpV c)) W :=
  ld_cells 23 [.int .i64 c.count, .int .i64 c.wt] (fun j v hj => by
    match j, hj with
    | 0, hj => injection hj with hj; subst hj; exact h0
    | 1, hj => injection hj with hj; subst hj; exact h1
    | j + 2, hj => cases hj) aggCa sizeCa
theorem ld_grAt {W : World} {g o : Nat} {a b c : ByteArray} (h0 : W.cell? ⟨g, o, none⟩ = some (.string a)) (h1 : W.cell? ⟨g, o + 1, none⟩ = some (.string b)) (h2 : W.cell? ⟨g, o + 2, none⟩ = some (.string c)) : LdX 35 (.pointer (some ⟨g, o, none⟩)) W = .ok (.value (grV a b c)) W :=
  ld_cells 35 [.string a, .string b, .string c] (fun j v hj => by
    match j, hj with
    | 0, hj => injection hj with hj; subst hj; exact h0
    | 1, hj => injection hj with hj; subst hj; exact h1
    | 2, hj => injection hj with hj; subst hj; exact h2
    | j + 3, hj => cases hj) aggGr sizeGr

/-- One of a list: whole. -/
theorem OrsP.ld {W : World} {a : Option Addr} {cap : Nat} {l : List OdR} (h : OrsP W a cap l) (j : Nat) (hj : j < l.length) :
    ∃ b o, a = some ⟨b, o, none⟩ ∧ b < W.heap.size ∧ W.cell? ⟨b, o + j * 10, none⟩ = some (.string l[j].o.id) ∧ LdX 39 (.pointer (some ⟨b, o + j * 10, none⟩)) W = .ok (.value (orV l[j])) W ∧ OdP W l[j].a l[j].c l[j].o := by
  obtain ⟨b, o, e, hb, hc, hl⟩ := h.sl.at LO_ok j hj
  exact ⟨b, o, e, hb, hc 0 _ rfl, hl, h.each _ (List.getElem_mem hj)⟩
theorem BasP.ld {W : World} {a : Option Addr} {cap : Nat} {l : List BtR} (h : BasP W a cap l) (j : Nat) (hj : j < l.length) :
    ∃ b o, a = some ⟨b, o, none⟩ ∧ b < W.heap.size ∧ W.cell? ⟨b, o + j * 9, none⟩ = some (.int .i64 l[j].b.id) ∧ LdX 46 (.pointer (some ⟨b, o + j * 9, none⟩)) W = .ok (.value (baV l[j])) W ∧ BtP W l[j].a l[j].c l[j].b := by
  obtain ⟨b, o, e, hb, hc, hl⟩ := h.sl.at LB_ok j hj
  exact ⟨b, o, e, hb, hc 0 _ rfl, hl, h.each _ (List.getElem_mem hj)⟩
theorem Row.o {W : World} {g : Nat} {r : OdR} (h : Row W g 39 (orC r)) :
    (W.cell? ⟨g, 0, none⟩ = some (.string r.o.id) ∧ W.cell? ⟨g, 1, none⟩ = some (.slice r.a r.o.ls.length r.c) ∧ W.cell? ⟨g, 2, none⟩ = some (.string r.o.car) ∧ W.cell? ⟨g, 3, none⟩ = some (.string r.o.zone) ∧ W.cell? ⟨g, 4, none⟩ = some (.string r.o.serv)) ∧
    W.cell? ⟨g, 5, none⟩ = some (.int .i64 r.o.total) ∧ W.cell? ⟨g, 6, none⟩ = some (.int .i64 r.o.phase) ∧ W.cell? ⟨g, 7, none⟩ = some (.bool r.o.given) ∧ W.cell? ⟨g, 8, none⟩ = some (.int .i64 r.o.ref) ∧ W.cell? ⟨g, 9, none⟩ = some (.int .i64 r.o.batch) :=
  ⟨⟨h.cell 0, h.cell 1, h.cell 2, h.cell 3, h.cell 4⟩, h.cell 5, h.cell 6, h.cell 7, h.cell 8, h.cell 9⟩
theorem Row.b {W : World} {g : Nat} {r : BtR} (h : Row W g 46 (baC r)) :
    (W.cell? ⟨g, 0, none⟩ = some (.int .i64 r.b.id) ∧ W.cell? ⟨g, 1, none⟩ = some (.int .i64 r.b.wt) ∧ W.cell? ⟨g, 2, none⟩ = some (.int .i64 r.b.born) ∧ W.cell? ⟨g, 3, none⟩ = some (.int .i64 r.b.kind) ∧ W.cell? ⟨g, 4, none⟩ = some (.int .i64 r.b.phase)) ∧
    W.cell? ⟨g, 5, none⟩ = some (.string r.b.car) ∧ W.cell? ⟨g, 6, none⟩ = some (.string r.b.zone) ∧ W.cell? ⟨g, 7, none⟩ = some (.string r.b.serv) ∧ W.cell? ⟨g, 8, none⟩ = some (.slice r.a r.b.mem.length r.c) :=
  ⟨⟨h.cell 0, h.cell 1, h.cell 2, h.cell 3, h.cell 4⟩, h.cell 5, h.cell 6, h.cell 7, h.cell 8⟩
theorem Row.st {W : World} {g : Nat} {r : StR} (h : Row W g 29 (stC r)) :
    (W.cell? ⟨g, 0, none⟩ = some (.int .i64 r.waves.count) ∧ W.cell? ⟨g, 1, none⟩ = some (.int .i64 r.waves.wt) ∧ W.cell? ⟨g, 2, none⟩ = some (.int .i64 r.mans.count) ∧ W.cell? ⟨g, 3, none⟩ = some (.int .i64 r.mans.wt) ∧ W.cell? ⟨g, 4, none⟩ = some (.int .i64 r.limit) ∧ W.cell? ⟨g, 5, none⟩ = some (.slice r.da r.doors.length r.dc)) ∧
    W.cell? ⟨g, 6, none⟩ = some (.int .i64 r.now) ∧ W.cell? ⟨g, 7, none⟩ = some (.int .i64 r.nb) ∧ W.cell? ⟨g, 8, none⟩ = some (.int .i64 r.nk) ∧ W.cell? ⟨g, 9, none⟩ = some (.slice r.oa r.ords.length r.oc) ∧ W.cell? ⟨g, 10, none⟩ = some (.slice r.ba r.bats.length r.bc) ∧ W.cell? ⟨g, 11, none⟩ = some (.slice r.ea r.effs.length r.ec) :=
  ⟨⟨h.cell 0, h.cell 1, h.cell 2, h.cell 3, h.cell 4, h.cell 5⟩, h.cell 6, h.cell 7, h.cell 8, h.cell 9, h.cell 10, h.cell 11⟩

theorem EfsP.ld {W : World} {a : Option Addr} {cap : Nat} {l : List Ef} (h : EfsP W a cap l) (j : Nat) (hj : j < l.length) :
    ∃ b o, a = some ⟨b, o, none⟩ ∧ b < W.heap.size ∧ LdX 58 (.pointer (some ⟨b, o + j * 6, none⟩)) W = .ok (.value (efV l[j])) W ∧ l[j].order.size ≤ maxLen := by
  obtain ⟨b, o, e, hb, _, hl⟩ := h.sl.at LE_ok j hj
  exact ⟨b, o, e, hb, hl, h.each _ (List.getElem_mem hj)⟩
theorem Row.e {W : World} {g : Nat} {e : Ef} (h : Row W g 58 (efC e)) :
    (W.cell? ⟨g, 0, none⟩ = some (.int .i64 e.key) ∧ W.cell? ⟨g, 1, none⟩ = some (.int .i64 e.batch) ∧ W.cell? ⟨g, 2, none⟩ = some (.int .i64 e.due)) ∧ W.cell? ⟨g, 3, none⟩ = some (.int .i64 e.kind) ∧ W.cell? ⟨g, 4, none⟩ = some (.int .i64 e.tries) ∧ W.cell? ⟨g, 5, none⟩ = some (.string e.order) :=
  ⟨⟨h.cell 0, h.cell 1, h.cell 2⟩, h.cell 3, h.cell 4, h.cell 5⟩
end

/- StRef: What the document's Order, Batch and Weight of layer 15 answer. -/
section
set_option maxRecDepth 100000
open Go.RowKit Go.ChangeShapes Go.WideShapes Go.ChangeAt
attribute [local go_sem ↓] ldOr stOr alOr bxOr bdOr ldBa stBa alBa bxBa bdBa ldSt stSt alSt bxSt bdSt
attribute [local go_sem] al_or bx_or st_ornew bd_or al_ba bx_ba st_banew bd_ba al_sta bx_sta st_stnew bd_sta

/-- An order and whether it is there. -/
def OrdOut (q : Option Od) (w : World) (e : Ending) (w' : World) : Prop := ∃ x : OdR, e = .returned (.tuple #[orV x, .bool q.isSome]) ∧ x.o = q.getD noOd ∧ OdP w' x.a x.c x.o ∧ Below w.heap.size w w'
def BatOut (q : Option Bt) (w : World) (e : Ending) (w' : World) : Prop := ∃ x : BtR, e = .returned (.tuple #[baV x, .bool q.isSome]) ∧ x.b = q.getD noBt ∧ BtP w' x.a x.c x.b ∧ Below w.heap.size w w'

/-- The state that came in, in a variable, and a result's variable behind it. -/
structure FoI (w : World) (r : StR) (T : TypeId) (cs : Array Value) (W : World) : Prop where
  box : Row W w.heap.size 29 (stC r)
  res : Row W (w.heap.size + 1) T cs
  st : StP W r
  low : Below w.heap.size w W
theorem FoI.below {w W W' : World} {r : StR} {T : TypeId} {cs : Array Value} (h : FoI w r T cs W) (b : Below W.heap.size W W') : FoI w r T cs W' := ⟨h.box.below b, h.res.below b, h.st.below b, h.low.trans (b.mono h.low.size)⟩
theorem FoI.more {w W : World} {r : StR} {T : TypeId} {cs : Array Value} (h : FoI w r T cs W) (o : Obj) : FoI w r T cs (W.alloc o) := h.below ((Below.refl _ _).alloc (Nat.le_refl _) o)
theorem FoI.begin (w : World) (r : StR) (h : StP w r) (T : TypeId) (cs : Array Value) : FoI w r T cs ((w.alloc (.cells (stC r) 29)).alloc (.cells cs T)) := by
  have b : Below w.heap.size w ((w.alloc (.cells (stC r) 29)).alloc (.cells cs T)) := ((Below.refl _ _).alloc (Nat.le_refl _) _).alloc (by simp) _
  refine ⟨(Row.new w (stC r) _).more _, ?_, h.below b, b⟩
  have := Row.new (w.alloc (.cells (stC r) 29)) cs T
  rwa [show (w.alloc (.cells (stC r) 29)).heap.size = w.heap.size + 1 by simp] at this
theorem FoI.done {w W : World} {r : StR} {T : TypeId} {cs : Array Value} (h : FoI w r T cs W) (z : Array Value) : Below w.heap.size w (W.setRow (w.heap.size + 1) z) := Below.row h.low (by omega) _

theorem findO_drop (l : List OdR) (id : ByteArray) (k : Nat) (h : k < l.length) : findO (odsOf (l.drop k)) id = if l[k].o.id.toList == id.toList then some l[k].o else findO (odsOf (l.drop (k + 1))) id := by
  rw [List.drop_eq_getElem_cons h]
  simp only [odsOf, List.map_cons, findO, List.find?_cons]
  cases (l[k].o.id.toList == id.toList) <;> rfl
theorem findB_drop (l : List BtR) (id : Int) (k : Nat) (h : k < l.length) : findB (btsOf (l.drop k)) id = if l[k].b.id == id then some l[k].b else findB (btsOf (l.drop (k + 1))) id := by
  rw [List.drop_eq_getElem_cons h]
  simp only [btsOf, List.map_cons, findB, List.find?_cons]
  cases (l[k].b.id == id) <;> rfl

set_option maxHeartbeats 4000000 in
theorem refOrder_any (r : StR) (id : ByteArray) (w : World) (h : StP w r) : Calls Tryz.prog 9 #[stV r, .string id] w (OrdOut (findO (odsOf r.ords) id) w) := by
  have I := Lib.hid (FoI.begin w r h 39 (orC noOdR))
  have hl := h.ords.sl.len
  have H := Lib.hid h
  have c9 := I.out.box.st.2.2.2.2.1
  unfold maxLen at hl
  clear h
  go_enter Tryz.func9, Tryz.ntmps9
  go_wp2_with fail
  generalize (w.alloc (.cells (stC r) 29)).alloc (.cells (orC noOdR) 39) = W0 at *
  clear c9
  go_loopw [11] (fun i wr => ∃ (k : Nat), k ≤ r.ords.length ∧ i = .int .i64 k ∧ Hid (findO (odsOf r.ords) id = findO (odsOf (r.ords.drop k)) id) ∧ Hid (FoI w r 39 (orC noOdR) wr)) (fun i _ => r.ords.length - (intOf i).toNat)
  case atStart => exact ⟨0, Nat.zero_le _, rfl, Lib.hid rfl, I⟩
  case round =>
    obtain ⟨k, hk, rfl, HF, HI⟩ := hrel
    by_cases hlt : k < r.ords.length
    · obtain ⟨b, o, e, hb, _, ld, _⟩ := HI.out.st.ords.ld k hlt
      have p1 := HI.out.st.ords.sl.cap
      have HD := Lib.hid (findO_drop r.ords id k hlt)
      have HP := Lib.hid (H.out.ords.each _ (List.getElem_mem hlt))
      rw [e]
      clear e
      generalize r.ords[k] = x at *
      have R := Lib.hid (Row.new wr (orC x) 39)
      have J := Lib.hid (HI.out.more (.cells (orC x) 39))
      have ld2 := ld_or R.out
      have c0 := R.out.o.1.1
      have st := st_or J.out.res x
      cases hx : (x.o.id.toList == id.toList) with
      | true =>
        have HE := Lib.hid (show findO (odsOf r.ords) id = some x.o by rw [HF.out, HD.out, hx]; rfl)
        go_wp2_with fail
        (try simp only [Exit.inBlock, Exit.then])
        apply bodyPost_ret
        case hd => rfl
        case hr => exact results_cell_one rfl _ _ (w.heap.size + 1) _ rfl (load10 (setRow_heap _ _ _ _ _ _ J.out.res))
        case hR => exact ⟨x, by rw [HE.out]; rfl, by rw [HE.out]; rfl, HP.out.below (J.out.done _), J.out.done _⟩
      | false =>
        have HN := Lib.hid (show findO (odsOf r.ords) id = findO (odsOf (r.ords.drop (k + 1))) id by rw [HF.out, HD.out, hx]; rfl)
        clear st
        go_wp2_with fail
        go_roundw
        case rel => exact ⟨k + 1, by omega, by go_num, HN, J⟩
        case measure => simp [intOf]; omega
    · have HE := Lib.hid (show findO (odsOf r.ords) id = none by rw [HF.out, List.drop_eq_nil_of_le (by omega)]; rfl)
      have st := st_or HI.out.res noOdR
      go_wp2_with fail
      (try simp only [Exit.inBlock, Exit.then])
      apply bodyPost_ret
      case hd => rfl
      case hr => exact results_cell_one rfl _ _ (w.heap.size + 1) _ rfl (load10 (setRow_heap _ _ _ _ _ _ HI.out.res))
      case hR => exact ⟨noOdR, by rw [HE.out]; rfl, by rw [HE.out]; rfl, OdP.none _ _ _, HI.out.done _⟩

set_option maxHeartbeats 4000000 in
theorem refBatch_any (r : StR) (id : Int) (w : World) (h : StP w r) : Calls Tryz.prog 14 #[stV r, .int .i64 id] w (BatOut (findB (btsOf r.bats) id) w) := by
  have I := Lib.hid (FoI.begin w r h 46 (baC noBtR))
  have hl := h.bats.sl.len
  have H := Lib.hid h
  have c9 := I.out.box.st.2.2.2.2.2.1
  unfold maxLen at hl
  clear h
  go_enter Tryz.func14, Tryz.ntmps14
  go_wp2_with fail
  generalize (w.alloc (.cells (stC r) 29)).alloc (.cells (baC noBtR) 46) = W0 at *
  clear c9
  go_loopw [11] (fun i wr => ∃ (k : Nat), k ≤ r.bats.length ∧ i = .int .i64 k ∧ Hid (findB (btsOf r.bats) id = findB (btsOf (r.bats.drop k)) id) ∧ Hid (FoI w r 46 (baC noBtR) wr)) (fun i _ => r.bats.length - (intOf i).toNat)
  case atStart => exact ⟨0, Nat.zero_le _, rfl, Lib.hid rfl, I⟩
  case round =>
    obtain ⟨k, hk, rfl, HF, HI⟩ := hrel
    by_cases hlt : k < r.bats.length
    · obtain ⟨b, o, e, hb, _, ld, _⟩ := HI.out.st.bats.ld k hlt
      have p1 := HI.out.st.bats.sl.cap
      have HD := Lib.hid (findB_drop r.bats id k hlt)
      have HP := Lib.hid (H.out.bats.each _ (List.getElem_mem hlt))
      rw [e]
      clear e
      generalize r.bats[k] = x at *
      have R := Lib.hid (Row.new wr (baC x) 46)
      have J := Lib.hid (HI.out.more (.cells (baC x) 46))
      have ld2 := ld_ba R.out
      have c0 := R.out.b.1.1
      have st := st_ba J.out.res x
      cases hx : (x.b.id == id) with
      | true =>
        have HE := Lib.hid (show findB (btsOf r.bats) id = some x.b by rw [HF.out, HD.out, hx]; rfl)
        go_wp2_with fail
        (try simp only [Exit.inBlock, Exit.then])
        apply bodyPost_ret
        case hd => rfl
        case hr => exact results_cell_one rfl _ _ (w.heap.size + 1) _ rfl (load9B (setRow_heap _ _ _ _ _ _ J.out.res))
        case hR => exact ⟨x, by rw [HE.out]; rfl, by rw [HE.out]; rfl, HP.out.below (J.out.done _), J.out.done _⟩
      | false =>
        have HN := Lib.hid (show findB (btsOf r.bats) id = findB (btsOf (r.bats.drop (k + 1))) id by rw [HF.out, HD.out, hx]; rfl)
        clear st
        go_wp2_with fail
        go_roundw
        case rel => exact ⟨k + 1, by omega, by go_num, HN, J⟩
        case measure => simp [intOf]; omega
    · have HE := Lib.hid (show findB (btsOf r.bats) id = none by rw [HF.out, List.drop_eq_nil_of_le (by omega)]; rfl)
      have st := st_ba HI.out.res noBtR
      go_wp2_with fail
      (try simp only [Exit.inBlock, Exit.then])
      apply bodyPost_ret
      case hd => rfl
      case hr => exact results_cell_one rfl _ _ (w.heap.size + 1) _ rfl (load9B (setRow_heap _ _ _ _ _ _ HI.out.res))
      case hR => exact ⟨noBtR, by rw [HE.out]; rfl, by rw [HE.out]; rfl, BtP.none _ _ _, HI.out.done _⟩

theorem weighS_take (l : List Od) (ids : List ByteArray) (k : Nat) (h : k < ids.length) : weighS l (ids.take (k + 1)) = weighS l (ids.take k) + weightV (orderV l ids[k]).ls := by
  rw [List.take_succ_eq_append_getElem h, weighS_append, weighS_one]

set_option maxHeartbeats 4000000 in
theorem refWeighS_any (r : StR) (a : Option Addr) (cap : Nat) (ids : List ByteArray) (w : World) (h : StP w r) (hs : StrsP w a cap ids) (hm : ids.length ≤ 1000000) : Calls Tryz.prog 16 #[stV r, .slice a ids.length cap] w (NumP (weighS (odsOf r.ords) ids) w) := by
  have CO := Lib.hid (fun id W hW => refOrder_any r id W hW)
  have CW := Lib.hid (fun a cap l W hW hm => refWeight_any a cap l W hW hm)
  have I := Lib.hid (And.intro (Row.new w (stC r) 29) ((Below.refl w.heap.size w).alloc (Nat.le_refl _) (.cells (stC r) 29)))
  have H := Lib.hid h
  have S := Lib.hid hs
  have p1 := hs.cap
  clear h hs
  go_enter Tryz.func16, Tryz.ntmps16
  go_wp2_with fail
  generalize w.alloc (.cells (stC r) 29) = W0 at *
  go_loopw [5, 12] (fun s i wr => ∃ (k : Nat), k ≤ ids.length ∧ i = .int .i64 k ∧ s = .int .i64 (weighS (odsOf r.ords) (ids.take k)) ∧ Hid (Row wr w.heap.size 29 (stC r) ∧ Below w.heap.size w wr)) (fun _ i _ => ids.length - (intOf i).toNat)
  case atStart => exact ⟨0, Nat.zero_le _, rfl, rfl, I⟩
  case round =>
    obtain ⟨k, hk, rfl, rfl, HI⟩ := hrel
    by_cases hlt : k < ids.length
    · obtain ⟨b, o, e, hb, c0⟩ := (S.out.below HI.out.2).at k hlt
      rw [e]
      clear e
      have HT := Lib.hid (weighS_take (odsOf r.ords) ids k hlt)
      have hb1 := weighS_bound (odsOf r.ords) (ids.take k)
      have hb2 := weightV_bound (orderV (odsOf r.ords) ids[k]).ls
      have hlen : (ids.take k).length ≤ 1000000 := by rw [List.length_take]; omega
      have q1 : 0 ≤ weighS (odsOf r.ords) (ids.take k) := hb1.1
      have q2 : weighS (odsOf r.ords) (ids.take k) ≤ 800000000000000 := by omega
      have ld := ld_sta HI.out.1
      have CO1 := Lib.hid (CO.out ids[k] wr (H.out.below HI.out.2))
      clear hb1 hlen
      generalize ids[k] = id at *
      generalize weighS (odsOf r.ords) (ids.take k) = s at *
      go_wp2_with fail
      refine CO1.out.mono ?_
      rintro x w1 ⟨x, rfl, hx, hP, b1⟩
      have B1 := HI.out.2.trans (b1.mono HI.out.2.size)
      have R := Lib.hid (Row.new w1 (orC x) 39)
      have B2 := Lib.hid (B1.alloc B1.size (.cells (orC x) 39))
      have I2 := Lib.hid (((HI.out.1.below b1).more (.cells (orC x) 39)))
      have c1 := R.out.o.1.2.1
      have CW1 := Lib.hid (CW.out x.a x.c x.o.ls (w1.alloc (.cells (orC x) 39)) (hP.lns.below ((Below.refl _ _).alloc (Nat.le_refl _) _)) hP.len)
      have hv : weightV x.o.ls = weightV (orderV (odsOf r.ords) id).ls := by rw [hx]; rfl
      rw [hv] at CW1
      clear hx hv B1 b1 hP CO1
      generalize weightV (orderV (odsOf r.ords) id).ls = v at *
      go_wp2_with fail
      refine CW1.out.mono ?_
      rintro e w2 ⟨rfl, b2⟩
      have J := Lib.hid (And.intro (I2.out.below b2) (B2.out.trans (b2.mono B2.out.size)))
      clear b2 I2 B2 CW1 c1 R
      go_wp2_with fail
      go_roundw
      case rel => exact ⟨k + 1, by omega, by go_num, by rw [HT.out], J⟩
      case measure => simp [intOf]; omega
    · have HT := Lib.hid (show weighS (odsOf r.ords) (ids.take k) = weighS (odsOf r.ords) ids by rw [List.take_of_length_le (by omega)])
      go_wp2_with fail
      go_ret
      exact ⟨by rw [← HT.out]; rfl, HI.out.2⟩
end

/- StEq: Groups and caps held against each other. -/
section
set_option maxRecDepth 100000
open Go.RowKit Go.ChangeShapes Go.WideShapes Go.ChangeAt

def capsEq (x y : Cp) : Bool := x.count == y.count && x.wt == y.wt
theorem capsEq_iff (x y : Cp) : capsEq x y = true ↔ x = y := by
  obtain ⟨a, b⟩ := x
  obtain ⟨c, d⟩ := y
  simp [capsEq]
section
variable (ev : Operand → Value) (d : Option Tmp) (ty : TypeId) (pos : String) (af : Array Edge) (gd : Option (Nat × Bool)) (w : World)
theorem eqGr (op : BinOp) (x y : Operand) (z : TypeId) : (execOp ev ⟨d, .binOp op 35 x y z, ty, pos, af, gd⟩).run Tryz.prog w = EqX op 35 x y (ev x) (ev y) w := rfl
theorem eqCa (op : BinOp) (x y : Operand) (z : TypeId) : (execOp ev ⟨d, .binOp op 23 x y z, ty, pos, af, gd⟩).run Tryz.prog w = EqX op 23 x y (ev x) (ev y) w := rfl
end
theorem guardGr : Tryz.prog.eqGuardType Tryz.prog.depth 35 = false := by kernel_rfl
theorem guardCa : Tryz.prog.eqGuardType Tryz.prog.depth 23 = false := by kernel_rfl
theorem run_eq_gr (w : World) (a b c x y z : ByteArray) : (Op.equalIn 10000 35 (grV a b c) (grV x y z)).run Tryz.prog w = .ok (sameG a b c x y z) w := by
  have u9 := Tryz.underlying9
  have a9 := Tryz.isAgg9
  have z9 := Tryz.sizeOf9
  have hS : Tryz.prog.underlying 35 = some (.struct (Tryz.prog.fieldsOf 35)) := by kernel_rfl
  have hp : Tryz.prog.stoodInHeld 35 = false := by kernel_rfl
  unfold sameG grV grC
  rw [show (10000 : Nat) = 9999 + 1 from rfl, run_equalIn_agg w 9999 35 _ _ hS hp]
  simp only [Program.fieldsOf, Tryz.underlying35]
  cases h1 : (a.toList == x.toList) <;> cases h2 : (b.toList == y.toList) <;> cases h3 : (c.toList == z.toList) <;> go_simp
theorem run_eq_ca (w : World) (x y : Cp) : (Op.equalIn 10000 23 (cpV x) (cpV y)).run Tryz.prog w = .ok (capsEq x y) w := by
  have hS : Tryz.prog.underlying 23 = some (.struct (Tryz.prog.fieldsOf 23)) := by kernel_rfl
  have hp : Tryz.prog.stoodInHeld 23 = false := by kernel_rfl
  have u2 := Tryz.underlying2
  have u3 := Tryz.underlying3
  unfold capsEq cpV
  rw [show (10000 : Nat) = 9999 + 1 from rfl, run_equalIn_agg w 9999 23 _ _ hS hp]
  simp only [Program.fieldsOf, Tryz.underlying23]
  cases h1 : (x.count == y.count) <;> cases h2 : (x.wt == y.wt) <;> go_simp
theorem ne_gr (w : World) (a b c x y z : ByteArray) (p q : Operand) : EqX .neq 35 p q (grV a b c) (grV x y z) w = .ok (.value (.bool (!(sameG a b c x y z)))) w := by
  have h := run_eq_gr w a b c x y z
  unfold grV at *
  simp only [EqX, Sem.run_bind, Sem.run_pure, Result.andThen_ok, run_eqGuard_agg w .neq 35 p q (grC a b c) (grC x y z) guardGr, run_neq_struct, h]
theorem eq_grX (w : World) (a b c x y z : ByteArray) (p q : Operand) : EqX .eql 35 p q (grV a b c) (grV x y z) w = .ok (.value (.bool (sameG a b c x y z))) w := by
  have h := run_eq_gr w a b c x y z
  unfold grV at *
  simp only [EqX, Sem.run_bind, Sem.run_pure, Result.andThen_ok, run_eqGuard_agg w .eql 35 p q (grC a b c) (grC x y z) guardGr, run_eql_struct, h]
theorem ne_ca (w : World) (x y : Cp) (p q : Operand) : EqX .neq 23 p q (cpV x) (cpV y) w = .ok (.value (.bool (!(capsEq x y)))) w := by
  have h := run_eq_ca w x y
  have e : ∀ c : Cp, cpV c = .agg (cpC c) := fun _ => rfl
  rw [e, e] at *
  simp only [EqX, Sem.run_bind, Sem.run_pure, Result.andThen_ok, run_eqGuard_agg w .neq 23 p q (cpC x) (cpC y) guardCa, run_neq_struct, h]
theorem eq_caX (w : World) (x y : Cp) (p q : Operand) : EqX .eql 23 p q (cpV x) (cpV y) w = .ok (.value (.bool (capsEq x y))) w := by
  have h := run_eq_ca w x y
  have e : ∀ c : Cp, cpV c = .agg (cpC c) := fun _ => rfl
  rw [e, e] at *
  simp only [EqX, Sem.run_bind, Sem.run_pure, Result.andThen_ok, run_eqGuard_agg w .eql 23 p q (cpC x) (cpC y) guardCa, run_eql_struct, h]
end

/- StRef2: What the document's Inside, asks and batchOk of layer 15 answer. -/
section
set_option maxRecDepth 100000
open Go.RowKit Go.ChangeShapes Go.WideShapes Go.ChangeAt
attribute [local go_sem ↓] ldOr stOr alOr bxOr bdOr ldBa stBa alBa bxBa bdBa ldSt stSt alSt bxSt bdSt ldEf stEf alEf bxEf eqEf bdEf bsEf ldGr bxGr eqGr
attribute [local go_sem] al_or bx_or st_ornew bd_or al_ba bx_ba st_banew bd_ba al_sta bx_sta st_stnew bd_sta al_ef bx_ef st_new bd_ef bs_ef bs_ef0 bx_gr ne_gr

theorem tab_one (W : World) : (Instr.index 114 (.agg #[.int .i64 0, .int .i64 0, .int .i64 0, .int .i64 0, .int .i64 3, .int .i64 4, .int .i64 0, .int .i64 5, .int .i64 6]) (.int .i64 1)).run Tryz.prog W = .ok (.agg #[.int .i64 0, .int .i64 3, .int .i64 4]) W := by kernel_rfl
theorem tab_two (W : World) : (Instr.index 114 (.agg #[.int .i64 0, .int .i64 0, .int .i64 0, .int .i64 0, .int .i64 3, .int .i64 4, .int .i64 0, .int .i64 5, .int .i64 6]) (.int .i64 2)).run Tryz.prog W = .ok (.agg #[.int .i64 0, .int .i64 5, .int .i64 6]) W := by kernel_rfl
theorem row_a1 (W : World) : (Instr.index 113 (.agg #[.int .i64 0, .int .i64 3, .int .i64 4]) (.int .i64 1)).run Tryz.prog W = .ok (.int .i64 3) W := by kernel_rfl
theorem row_a2 (W : World) : (Instr.index 113 (.agg #[.int .i64 0, .int .i64 3, .int .i64 4]) (.int .i64 2)).run Tryz.prog W = .ok (.int .i64 4) W := by kernel_rfl
theorem row_b1 (W : World) : (Instr.index 113 (.agg #[.int .i64 0, .int .i64 5, .int .i64 6]) (.int .i64 1)).run Tryz.prog W = .ok (.int .i64 5) W := by kernel_rfl
theorem row_b2 (W : World) : (Instr.index 113 (.agg #[.int .i64 0, .int .i64 5, .int .i64 6]) (.int .i64 2)).run Tryz.prog W = .ok (.int .i64 6) W := by kernel_rfl
set_option maxHeartbeats 4000000 in
theorem inside_any (r : BtR) (w : World) (hk : r.b.kind = 1 ∨ r.b.kind = 2) (hp : r.b.phase = 1 ∨ r.b.phase = 2) : Calls Tryz.prog 58 #[baV r] w (NumP (insideN r.b.kind r.b.phase) w) := by
  have R := Lib.hid (Row.new w (baC r) 46)
  have B := Lib.hid ((Below.refl w.heap.size w).alloc (Nat.le_refl _) (.cells (baC r) 46))
  have c3 := R.out.b.1.2.2.2.1
  have c4 := R.out.b.1.2.2.2.2
  rcases hk with hk | hk <;> rcases hp with hp | hp
  all_goals
    rw [hk] at c3
    rw [hp] at c4
    have HE := Lib.hid (show insideN r.b.kind r.b.phase = _ by rw [hk, hp])
    clear hk hp
    have t1 := tab_one
    have t2 := tab_two
    have t3 := row_a1
    have t4 := row_a2
    have t5 := row_b1
    have t6 := row_b2
    go_enter Tryz.func58, Tryz.ntmps58
    go_wp2_with fail
    go_region
    go_wp2_with fail
    go_ret
    exact ⟨by rw [HE.out]; rfl, by first | exact B.out | exact B.out.drew⟩

theorem askN_take (l : List Ef) (kind : Int) (id : ByteArray) (batch : Int) (k : Nat) (h : k < l.length) : askN (l.take (k + 1)) kind id batch = askN (l.take k) kind id batch + (if askP kind id batch l[k] then 1 else 0) := countP_drop _ l k h
theorem askN_le (l : List Ef) (kind : Int) (id : ByteArray) (batch : Int) : askN l kind id batch ≤ l.length := List.countP_le_length

set_option maxHeartbeats 4000000 in
theorem asks15_any (r : StR) (kind : Int) (id : ByteArray) (batch : Int) (w : World) (h : StP w r) : Calls Tryz.prog 60 #[stV r, .int .i64 kind, .string id, .int .i64 batch] w (NumP (askN r.effs kind id batch : Nat) w) := by
  have I := Lib.hid (And.intro (Row.new w (stC r) 29) ((Below.refl w.heap.size w).alloc (Nat.le_refl _) (.cells (stC r) 29)))
  have H := Lib.hid h
  have hl := h.effs.sl.len
  have p1 := h.effs.sl.cap
  have c11 := I.out.1.st.2.2.2.2.2.2
  unfold maxLen at hl
  clear h
  go_enter Tryz.func60, Tryz.ntmps60
  go_wp2_with fail
  generalize w.alloc (.cells (stC r) 29) = W0 at *
  clear c11
  go_loopw [9, 15] (fun s i wr => ∃ (k : Nat), k ≤ r.effs.length ∧ i = .int .i64 k ∧ s = .int .i64 (askN (r.effs.take k) kind id batch : Nat) ∧ Hid (Below w.heap.size w wr)) (fun _ i _ => r.effs.length - (intOf i).toNat)
  case atStart => exact ⟨0, Nat.zero_le _, rfl, rfl, Lib.hid I.out.2⟩
  case round =>
    obtain ⟨k, hk, rfl, rfl, HI⟩ := hrel
    by_cases hlt : k < r.effs.length
    · obtain ⟨b, o, e, hb, ld, _⟩ := (H.out.effs.below HI.out).ld k hlt
      rw [e]
      clear e
      have HT := Lib.hid (askN_take r.effs kind id batch k hlt)
      have hn : askN (r.effs.take k) kind id batch ≤ k := by have := askN_le (r.effs.take k) kind id batch; rw [List.length_take] at this; omega
      generalize r.effs[k] = x at *
      generalize askN (r.effs.take k) kind id batch = n at *
      have R := Lib.hid (Row.new wr (efC x) 58)
      have J := Lib.hid (HI.out.alloc HI.out.size (.cells (efC x) 58))
      obtain ⟨⟨_, d1, _⟩, d3, _, d5⟩ := R.out.e
      cases k1 : (x.kind == kind) with
      | false =>
        have HN := Lib.hid (show askN (r.effs.take (k + 1)) kind id batch = n by rw [HT.out]; simp [askP, k1])
        go_wp2_with fail
        go_roundw
        case rel => exact ⟨k + 1, by omega, by go_num, by rw [HN.out], J⟩
        case measure => simp [intOf]; omega
      | true =>
        cases k2 : (x.order.toList == id.toList) with
        | false =>
          have HN := Lib.hid (show askN (r.effs.take (k + 1)) kind id batch = n by rw [HT.out]; simp [askP, k1, k2])
          go_wp2_with fail
          go_roundw
          case rel => exact ⟨k + 1, by omega, by go_num, by rw [HN.out], J⟩
          case measure => simp [intOf]; omega
        | true =>
          cases k3 : (x.batch == batch) with
          | false =>
            have HN := Lib.hid (show askN (r.effs.take (k + 1)) kind id batch = n by rw [HT.out]; simp [askP, k1, k2, k3])
            go_wp2_with fail
            go_roundw
            case rel => exact ⟨k + 1, by omega, by go_num, by rw [HN.out], J⟩
            case measure => simp [intOf]; omega
          | true =>
            have HN := Lib.hid (show askN (r.effs.take (k + 1)) kind id batch = n + 1 by rw [HT.out]; simp [askP, k1, k2, k3])
            go_wp2_with fail
            go_roundw
            case rel => exact ⟨k + 1, by omega, by go_num, by rw [HN.out]; go_num, J⟩
            case measure => simp [intOf]; omega
    · have HT := Lib.hid (show askN (r.effs.take k) kind id batch = askN r.effs kind id batch by rw [List.take_of_length_le (by omega)])
      go_wp2_with fail
      go_ret
      exact ⟨by rw [← HT.out]; rfl, HI.out⟩
end

/- StRef3: What the document's batchOk of layer 15 answers. -/
section
set_option maxRecDepth 100000
open Go.RowKit Go.ChangeShapes Go.WideShapes Go.ChangeAt
attribute [local go_sem ↓] ldOr stOr alOr bxOr bdOr ldBa stBa alBa bxBa bdBa ldSt stSt alSt bxSt bdSt ldEf stEf alEf bxEf eqEf bdEf bsEf ldGr bxGr eqGr
attribute [local go_sem] al_or bx_or st_ornew bd_or al_ba bx_ba st_banew bd_ba al_sta bx_sta st_stnew bd_sta al_ef bx_ef st_new bd_ef bs_ef bs_ef0 bx_gr ne_gr

/-- The state and the batch that came in, each in a variable. -/
structure BkI (w : World) (r : StR) (x : BtR) (W : World) : Prop where
  one : Row W w.heap.size 29 (stC r)
  two : Row W (w.heap.size + 1) 46 (baC x)
  st : StP W r
  bt : BtP W x.a x.c x.b
  low : Below w.heap.size w W
theorem BkI.below {w W W' : World} {r : StR} {x : BtR} (h : BkI w r x W) (b : Below W.heap.size W W') : BkI w r x W' := ⟨h.one.below b, h.two.below b, h.st.below b, h.bt.below b, h.low.trans (b.mono h.low.size)⟩
theorem BkI.more {w W : World} {r : StR} {x : BtR} (h : BkI w r x W) (o : Obj) : BkI w r x (W.alloc o) := h.below ((Below.refl _ _).alloc (Nat.le_refl _) o)
theorem BkI.begin (w : World) (r : StR) (x : BtR) (h : StP w r) (hx : BtP w x.a x.c x.b) : BkI w r x ((w.alloc (.cells (stC r) 29)).alloc (.cells (baC x) 46)) := by
  have F := FoI.begin w r h 46 (baC x)
  exact ⟨F.box, F.res, F.st, hx.below F.low, F.low⟩

theorem rightBt_kind {b : Bt} (h : rightBt b = true) : (b.kind = 1 ∨ b.kind = 2) ∧ (1 ≤ b.phase ∧ b.phase ≤ 3) ∧ b.mem.length ≤ 64 := by
  simp only [rightBt, Bool.and_eq_true, kindB, btPhaseB, membersB, decide_eq_true_eq] at h
  obtain ⟨_, _, _, h1, h2, _, h3, _⟩ := h
  exact ⟨h1, h2, h3⟩

set_option maxHeartbeats 8000000 in
theorem batchOk_any (r : StR) (x : BtR) (w : World) (h : StP w r) (hx : BtP w x.a x.c x.b) : Calls Tryz.prog 25 #[stV r, baV x] w (Tell (batchOk (odsOf r.ords) r.nb x.b) w) := by
  have I := Lib.hid (BkI.begin w r x h hx)
  have HE := Lib.hid (show batchOk (odsOf r.ords) r.nb x.b = (rightBt x.b && (x.b.phase != 3 && (decide (x.b.mem.length ≠ 0) && (decide (x.b.id < r.nb) && ((weighS (odsOf r.ords) x.b.mem == x.b.wt) && x.b.mem.all (memOk (odsOf r.ords) x.b)))))) from rfl)
  have HM := Lib.hid hx.mem
  have HS := Lib.hid h
  clear h hx
  cases k1 : rightBt x.b with
  | false =>
    go_enter Tryz.func25, Tryz.ntmps25
    go_wp2_with fail
    generalize (w.alloc (.cells (stC r) 29)).alloc (.cells (baC x) 46) = W at *
    have f1 : ∀ p : Far W, LdX 46 (.pointer (some ⟨w.heap.size + 1, 0, none⟩)) (farOf W p) = .ok (.value (baV x)) (farOf W p) := fun p => ld_ba (I.out.below (far_below W p)).two
    have f2 : ∀ p : Far W, LdX 29 (.pointer (some ⟨w.heap.size, 0, none⟩)) (farOf W p) = .ok (.value (stV r)) (farOf W p) := fun p => ld_sta (I.out.below (far_below W p)).one
    have g0 := fun p : Far W => (I.out.below (far_below W p)).two.b.1.1
    have g1 := fun p : Far W => (I.out.below (far_below W p)).two.b.1.2.1
    have g4 := fun p : Far W => (I.out.below (far_below W p)).two.b.1.2.2.2.2
    have g8 := fun p : Far W => (I.out.below (far_below W p)).two.b.2.2.2.2
    have g7 := fun p : Far W => (I.out.below (far_below W p)).one.st.2.2.1
    have C1 := Lib.hid (fun p : Far W => refBtRight_any x.a x.c x.b _ (I.out.below (far_below W p)).bt)
    try rw [k1] at C1
    refine wp_region_far (by kernel_rfl) (by kernel_rfl) ?_
    repeat (first | go_big_quiet_step (first | (go_at_call 57; exact calls_far (C1.out _))) | quiet_step (first | (go_at_call 57; exact calls_far (C1.out _))))
    refine wpQuiet_nil ?_
    intro _ hw'
    obtain ⟨p, hw''⟩ := hw'
    subst hw''
    have B4 := Lib.hid (I.out.below (far_below W p)).low
    clear f1 f2 g0 g1 g4 g8 g7 C1
    go_wp2_with fail
    go_ret
    exact ⟨by rw [HE.out]; simp only [k1, Bool.false_and]; try rfl, B4.out⟩
  | true =>
    have HK := Lib.hid (rightBt_kind k1)
    cases k2 : (x.b.phase == 3) with
    | true =>
      have k2d : (x.b.phase != 3) = false := by simp only [bne, k2]; rfl
      go_enter Tryz.func25, Tryz.ntmps25
      go_wp2_with fail
      generalize (w.alloc (.cells (stC r) 29)).alloc (.cells (baC x) 46) = W at *
      have f1 : ∀ p : Far W, LdX 46 (.pointer (some ⟨w.heap.size + 1, 0, none⟩)) (farOf W p) = .ok (.value (baV x)) (farOf W p) := fun p => ld_ba (I.out.below (far_below W p)).two
      have f2 : ∀ p : Far W, LdX 29 (.pointer (some ⟨w.heap.size, 0, none⟩)) (farOf W p) = .ok (.value (stV r)) (farOf W p) := fun p => ld_sta (I.out.below (far_below W p)).one
      have g0 := fun p : Far W => (I.out.below (far_below W p)).two.b.1.1
      have g1 := fun p : Far W => (I.out.below (far_below W p)).two.b.1.2.1
      have g4 := fun p : Far W => (I.out.below (far_below W p)).two.b.1.2.2.2.2
      have g8 := fun p : Far W => (I.out.below (far_below W p)).two.b.2.2.2.2
      have g7 := fun p : Far W => (I.out.below (far_below W p)).one.st.2.2.1
      have C1 := Lib.hid (fun p : Far W => refBtRight_any x.a x.c x.b _ (I.out.below (far_below W p)).bt)
      try rw [k1] at C1
      refine wp_region_far (by kernel_rfl) (by kernel_rfl) ?_
      repeat (first | go_big_quiet_step (first | (go_at_call 57; exact calls_far (C1.out _))) | quiet_step (first | (go_at_call 57; exact calls_far (C1.out _))))
      refine wpQuiet_nil ?_
      intro _ hw'
      obtain ⟨p, hw''⟩ := hw'
      subst hw''
      have B4 := Lib.hid (I.out.below (far_below W p)).low
      clear f1 f2 g0 g1 g4 g8 g7 C1
      go_wp2_with fail
      go_ret
      exact ⟨by rw [HE.out]; simp only [k1, k2d, Bool.false_and, Bool.and_false]; try rfl, B4.out⟩
    | false =>
      have k2d : (x.b.phase != 3) = true := by simp only [bne, k2]; rfl
      cases k3 : ((x.b.mem.length : Int) == 0) with
      | true =>
        have k3d : decide (x.b.mem.length ≠ 0) = false := by have : x.b.mem.length = 0 := (by simpa using k3); simp [this]
        go_enter Tryz.func25, Tryz.ntmps25
        go_wp2_with fail
        generalize (w.alloc (.cells (stC r) 29)).alloc (.cells (baC x) 46) = W at *
        have f1 : ∀ p : Far W, LdX 46 (.pointer (some ⟨w.heap.size + 1, 0, none⟩)) (farOf W p) = .ok (.value (baV x)) (farOf W p) := fun p => ld_ba (I.out.below (far_below W p)).two
        have f2 : ∀ p : Far W, LdX 29 (.pointer (some ⟨w.heap.size, 0, none⟩)) (farOf W p) = .ok (.value (stV r)) (farOf W p) := fun p => ld_sta (I.out.below (far_below W p)).one
        have g0 := fun p : Far W => (I.out.below (far_below W p)).two.b.1.1
        have g1 := fun p : Far W => (I.out.below (far_below W p)).two.b.1.2.1
        have g4 := fun p : Far W => (I.out.below (far_below W p)).two.b.1.2.2.2.2
        have g8 := fun p : Far W => (I.out.below (far_below W p)).two.b.2.2.2.2
        have g7 := fun p : Far W => (I.out.below (far_below W p)).one.st.2.2.1
        have C1 := Lib.hid (fun p : Far W => refBtRight_any x.a x.c x.b _ (I.out.below (far_below W p)).bt)
        try rw [k1] at C1
        refine wp_region_far (by kernel_rfl) (by kernel_rfl) ?_
        repeat (first | go_big_quiet_step (first | (go_at_call 57; exact calls_far (C1.out _))) | quiet_step (first | (go_at_call 57; exact calls_far (C1.out _))))
        refine wpQuiet_nil ?_
        intro _ hw'
        obtain ⟨p, hw''⟩ := hw'
        subst hw''
        have B4 := Lib.hid (I.out.below (far_below W p)).low
        clear f1 f2 g0 g1 g4 g8 g7 C1
        go_wp2_with fail
        go_ret
        exact ⟨by rw [HE.out]; simp only [k1, k2d, k3d, Bool.false_and, Bool.and_false]; try rfl, B4.out⟩
      | false =>
        have k3d : decide (x.b.mem.length ≠ 0) = true := by simpa using k3
        cases k4 : decide (r.nb ≤ x.b.id) with
        | true =>
          have k4d : decide (x.b.id < r.nb) = false := by simp at k4 ⊢; omega
          go_enter Tryz.func25, Tryz.ntmps25
          go_wp2_with fail
          generalize (w.alloc (.cells (stC r) 29)).alloc (.cells (baC x) 46) = W at *
          have f1 : ∀ p : Far W, LdX 46 (.pointer (some ⟨w.heap.size + 1, 0, none⟩)) (farOf W p) = .ok (.value (baV x)) (farOf W p) := fun p => ld_ba (I.out.below (far_below W p)).two
          have f2 : ∀ p : Far W, LdX 29 (.pointer (some ⟨w.heap.size, 0, none⟩)) (farOf W p) = .ok (.value (stV r)) (farOf W p) := fun p => ld_sta (I.out.below (far_below W p)).one
          have g0 := fun p : Far W => (I.out.below (far_below W p)).two.b.1.1
          have g1 := fun p : Far W => (I.out.below (far_below W p)).two.b.1.2.1
          have g4 := fun p : Far W => (I.out.below (far_below W p)).two.b.1.2.2.2.2
          have g8 := fun p : Far W => (I.out.below (far_below W p)).two.b.2.2.2.2
          have g7 := fun p : Far W => (I.out.below (far_below W p)).one.st.2.2.1
          have C1 := Lib.hid (fun p : Far W => refBtRight_any x.a x.c x.b _ (I.out.below (far_below W p)).bt)
          try rw [k1] at C1
          refine wp_region_far (by kernel_rfl) (by kernel_rfl) ?_
          repeat (first | go_big_quiet_step (first | (go_at_call 57; exact calls_far (C1.out _))) | quiet_step (first | (go_at_call 57; exact calls_far (C1.out _))))
          refine wpQuiet_nil ?_
          intro _ hw'
          obtain ⟨p, hw''⟩ := hw'
          subst hw''
          have B4 := Lib.hid (I.out.below (far_below W p)).low
          clear f1 f2 g0 g1 g4 g8 g7 C1
          go_wp2_with fail
          go_ret
          exact ⟨by rw [HE.out]; simp only [k1, k2d, k3d, k4d, Bool.false_and, Bool.and_false]; try rfl, B4.out⟩
        | false =>
          have k4d : decide (x.b.id < r.nb) = true := by simp at k4 ⊢; omega
          have hm : x.b.mem.length ≤ 1000000 := Nat.le_trans HK.out.2.2 (by decide)
          cases k5 : (weighS (odsOf r.ords) x.b.mem == x.b.wt) with
          | false =>
            have k5' : (weighS (odsOf r.ords) x.b.mem != x.b.wt) = true := by simp only [bne, k5]; rfl
            go_enter Tryz.func25, Tryz.ntmps25
            go_wp2_with fail
            generalize (w.alloc (.cells (stC r) 29)).alloc (.cells (baC x) 46) = W at *
            have f1 : ∀ p : Far W, LdX 46 (.pointer (some ⟨w.heap.size + 1, 0, none⟩)) (farOf W p) = .ok (.value (baV x)) (farOf W p) := fun p => ld_ba (I.out.below (far_below W p)).two
            have f2 : ∀ p : Far W, LdX 29 (.pointer (some ⟨w.heap.size, 0, none⟩)) (farOf W p) = .ok (.value (stV r)) (farOf W p) := fun p => ld_sta (I.out.below (far_below W p)).one
            have g0 := fun p : Far W => (I.out.below (far_below W p)).two.b.1.1
            have g1 := fun p : Far W => (I.out.below (far_below W p)).two.b.1.2.1
            have g4 := fun p : Far W => (I.out.below (far_below W p)).two.b.1.2.2.2.2
            have g8 := fun p : Far W => (I.out.below (far_below W p)).two.b.2.2.2.2
            have g7 := fun p : Far W => (I.out.below (far_below W p)).one.st.2.2.1
            have C1 := Lib.hid (fun p : Far W => refBtRight_any x.a x.c x.b _ (I.out.below (far_below W p)).bt)
            have C2 := Lib.hid (fun p : Far W => refWeighS_any r x.a x.c x.b.mem _ (I.out.below (far_below W p)).st (HM.out.below ((I.out.below (far_below W p)).low)) hm)
            try rw [k1] at C1
            refine wp_region_far (by kernel_rfl) (by kernel_rfl) ?_
            repeat (first | go_big_quiet_step (first | (go_at_call 57; exact calls_far (C1.out _)) | (go_at_call 16; exact calls_far (C2.out _))) | quiet_step (first | (go_at_call 57; exact calls_far (C1.out _)) | (go_at_call 16; exact calls_far (C2.out _))))
            refine wpQuiet_nil ?_
            intro _ hw'
            obtain ⟨p, hw''⟩ := hw'
            subst hw''
            have B4 := Lib.hid (I.out.below (far_below W p)).low
            clear f1 f2 g0 g1 g4 g8 g7 C1 C2
            go_wp2_with fail
            go_ret
            exact ⟨by rw [HE.out]; simp only [k1, k2d, k3d, k4d, k5, Bool.false_and, Bool.and_false]; try rfl, B4.out⟩
          | true =>
            have k5' : (weighS (odsOf r.ords) x.b.mem != x.b.wt) = false := by simp only [bne, k5]; rfl
            go_enter Tryz.func25, Tryz.ntmps25
            go_wp2_with fail
            generalize (w.alloc (.cells (stC r) 29)).alloc (.cells (baC x) 46) = W at *
            have f1 : ∀ p : Far W, LdX 46 (.pointer (some ⟨w.heap.size + 1, 0, none⟩)) (farOf W p) = .ok (.value (baV x)) (farOf W p) := fun p => ld_ba (I.out.below (far_below W p)).two
            have f2 : ∀ p : Far W, LdX 29 (.pointer (some ⟨w.heap.size, 0, none⟩)) (farOf W p) = .ok (.value (stV r)) (farOf W p) := fun p => ld_sta (I.out.below (far_below W p)).one
            have g0 := fun p : Far W => (I.out.below (far_below W p)).two.b.1.1
            have g1 := fun p : Far W => (I.out.below (far_below W p)).two.b.1.2.1
            have g4 := fun p : Far W => (I.out.below (far_below W p)).two.b.1.2.2.2.2
            have g8 := fun p : Far W => (I.out.below (far_below W p)).two.b.2.2.2.2
            have g7 := fun p : Far W => (I.out.below (far_below W p)).one.st.2.2.1
            have C1 := Lib.hid (fun p : Far W => refBtRight_any x.a x.c x.b _ (I.out.below (far_below W p)).bt)
            have C2 := Lib.hid (fun p : Far W => refWeighS_any r x.a x.c x.b.mem _ (I.out.below (far_below W p)).st (HM.out.below ((I.out.below (far_below W p)).low)) hm)
            rw [k1] at C1
            refine wp_region_far (by kernel_rfl) (by kernel_rfl) ?_
            repeat (first | go_big_quiet_step (first | (go_at_call 57; exact calls_far (C1.out _)) | (go_at_call 16; exact calls_far (C2.out _))) | quiet_step (first | (go_at_call 57; exact calls_far (C1.out _)) | (go_at_call 16; exact calls_far (C2.out _))))
            refine wpQuiet_nil ?_
            intro _ hw'
            obtain ⟨p, hw''⟩ := hw'
            subst hw''
            replace I := Lib.hid (I.out.below (far_below W p))
            clear f1 f2 g0 g1 g4 g8 g7 C1 C2
            generalize farOf W p = W1 at *
            have HE2 := Lib.hid (show batchOk (odsOf r.ords) r.nb x.b = x.b.mem.all (memOk (odsOf r.ords) x.b) by rw [HE.out]; simp only [k1, k2d, k3d, k4d, k5, Bool.true_and])
            have HI := Lib.hid (fun W => inside_any x W HK.out.1 (by have := HK.out.2.1; simp at k2; omega))
            clear HE k1 k2 k2d k3 k3d k4 k4d k5 k5'
            have c8 := I.out.two.b.2.2.2.2
            have hml := HK.out.2.2
            have hmc := HM.out.cap
            go_wp2_with fail
            go_loopw [42] (fun i wr => ∃ (k : Nat), k ≤ x.b.mem.length ∧ i = .int .i64 k ∧ Hid (batchOk (odsOf r.ords) r.nb x.b = (x.b.mem.drop k).all (memOk (odsOf r.ords) x.b)) ∧ Hid (BkI w r x wr)) (fun i _ => x.b.mem.length - (intOf i).toNat)
            case atStart => exact ⟨0, Nat.zero_le _, rfl, HE2, I⟩
            case round =>
              obtain ⟨k, hk, rfl, HF, HJ⟩ := hrel
              clear I HE2 c8
              by_cases hlt : k < x.b.mem.length
              · obtain ⟨bb, oo, e, hb, c0⟩ := HJ.out.bt.mem.at k hlt
                rw [e]
                clear e
                have HD := Lib.hid (all_drop (memOk (odsOf r.ords) x.b) x.b.mem k hlt)
                have CO1 := Lib.hid (refOrder_any r x.b.mem[k] wr HJ.out.st)
                have ld := ld_sta HJ.out.one
                generalize x.b.mem[k] = id at *
                go_wp2_with fail
                refine CO1.out.mono ?_
                rintro e w1 ⟨y, rfl, hy, hP, b1⟩
                have HMm := Lib.hid (show memOk (odsOf r.ords) x.b id = ((findO (odsOf r.ords) id).isSome && ((y.o.batch == x.b.id) && (sameG y.o.car y.o.zone y.o.serv x.b.car x.b.zone x.b.serv && (y.o.phase == insideN x.b.kind x.b.phase)))) by unfold memOk orderV; rw [hy])
                have I2 := Lib.hid ((HJ.out.below b1).more (.cells (orC y) 39))
                have R2 := Lib.hid (Row.new w1 (orC y) 39)
                clear CO1 ld c0 hy hP b1
                cases q1 : (findO (odsOf r.ords) id).isSome with
                | false =>
                  go_wp2_with fail
                  generalize w1.alloc (.cells (orC y) 39) = W2 at *
                  generalize w1.heap.size = g at *
                  have f1 : ∀ p : Far W2, LdX 46 (.pointer (some ⟨w.heap.size + 1, 0, none⟩)) (farOf W2 p) = .ok (.value (baV x)) (farOf W2 p) := fun p => ld_ba (I2.out.below (far_below W2 p)).two
                  have f3 : ∀ p : Far W2, LdX 35 (.pointer (some ⟨w.heap.size + 1, 5, none⟩)) (farOf W2 p) = .ok (.value (grV x.b.car x.b.zone x.b.serv)) (farOf W2 p) := fun p => ld_grAt (I2.out.below (far_below W2 p)).two.b.2.1 (I2.out.below (far_below W2 p)).two.b.2.2.1 (I2.out.below (far_below W2 p)).two.b.2.2.2.1
                  have f5 : ∀ p : Far W2, LdX 35 (.pointer (some ⟨g, 2, none⟩)) (farOf W2 p) = .ok (.value (grV y.o.car y.o.zone y.o.serv)) (farOf W2 p) := fun p => ld_grAt (R2.out.below (far_below W2 p)).o.1.2.2.1 (R2.out.below (far_below W2 p)).o.1.2.2.2.1 (R2.out.below (far_below W2 p)).o.1.2.2.2.2
                  have g0 := fun p : Far W2 => (I2.out.below (far_below W2 p)).two.b.1.1
                  have g9 := fun p : Far W2 => (R2.out.below (far_below W2 p)).o.2.2.2.2.2
                  have g6 := fun p : Far W2 => (R2.out.below (far_below W2 p)).o.2.2.1
                  have CI := Lib.hid (fun p : Far W2 => HI.out (farOf W2 p))
                  have HN := Lib.hid (show batchOk (odsOf r.ords) r.nb x.b = false by rw [HF.out, HD.out, HMm.out]; simp only [q1, Bool.false_and])
                  refine wp_region_far (by kernel_rfl) (by kernel_rfl) ?_
                  repeat (first | go_big_quiet_step ((go_at_call 58; exact calls_far (CI.out _))) | quiet_step ((go_at_call 58; exact calls_far (CI.out _))))
                  refine wpQuiet_nil ?_
                  intro _ hw'
                  obtain ⟨q, hw''⟩ := hw'
                  subst hw''
                  have B5 := Lib.hid (I2.out.below (far_below W2 q)).low
                  clear f1 f3 f5 g0 g9 g6 CI I2 R2
                  go_wp2_with fail
                  go_ret
                  exact ⟨by rw [HN.out]; try rfl, B5.out⟩
                | true =>
                  go_wp2_with fail
                  generalize w1.alloc (.cells (orC y) 39) = W2 at *
                  generalize w1.heap.size = g at *
                  have f1 : ∀ p : Far W2, LdX 46 (.pointer (some ⟨w.heap.size + 1, 0, none⟩)) (farOf W2 p) = .ok (.value (baV x)) (farOf W2 p) := fun p => ld_ba (I2.out.below (far_below W2 p)).two
                  have f3 : ∀ p : Far W2, LdX 35 (.pointer (some ⟨w.heap.size + 1, 5, none⟩)) (farOf W2 p) = .ok (.value (grV x.b.car x.b.zone x.b.serv)) (farOf W2 p) := fun p => ld_grAt (I2.out.below (far_below W2 p)).two.b.2.1 (I2.out.below (far_below W2 p)).two.b.2.2.1 (I2.out.below (far_below W2 p)).two.b.2.2.2.1
                  have f5 : ∀ p : Far W2, LdX 35 (.pointer (some ⟨g, 2, none⟩)) (farOf W2 p) = .ok (.value (grV y.o.car y.o.zone y.o.serv)) (farOf W2 p) := fun p => ld_grAt (R2.out.below (far_below W2 p)).o.1.2.2.1 (R2.out.below (far_below W2 p)).o.1.2.2.2.1 (R2.out.below (far_below W2 p)).o.1.2.2.2.2
                  have g0 := fun p : Far W2 => (I2.out.below (far_below W2 p)).two.b.1.1
                  have g9 := fun p : Far W2 => (R2.out.below (far_below W2 p)).o.2.2.2.2.2
                  have g6 := fun p : Far W2 => (R2.out.below (far_below W2 p)).o.2.2.1
                  have CI := Lib.hid (fun p : Far W2 => HI.out (farOf W2 p))
                  cases q2 : (y.o.batch == x.b.id) with
                  | false =>
                    have q2d : (y.o.batch != x.b.id) = true := by simp only [bne, q2]; rfl
                    have HN := Lib.hid (show batchOk (odsOf r.ords) r.nb x.b = false by rw [HF.out, HD.out, HMm.out]; simp only [q1, q2, Bool.false_and, Bool.and_false])
                    refine wp_region_far (by kernel_rfl) (by kernel_rfl) ?_
                    repeat (first | go_big_quiet_step ((go_at_call 58; exact calls_far (CI.out _))) | quiet_step ((go_at_call 58; exact calls_far (CI.out _))))
                    refine wpQuiet_nil ?_
                    intro _ hw'
                    obtain ⟨q, hw''⟩ := hw'
                    subst hw''
                    have B5 := Lib.hid (I2.out.below (far_below W2 q)).low
                    clear f1 f3 f5 g0 g9 g6 CI I2 R2
                    go_wp2_with fail
                    go_ret
                    exact ⟨by rw [HN.out]; try rfl, B5.out⟩
                  | true =>
                    have q2d : (y.o.batch != x.b.id) = false := by simp only [bne, q2]; rfl
                    cases q3 : (sameG y.o.car y.o.zone y.o.serv x.b.car x.b.zone x.b.serv) with
                    | false =>
                      have HN := Lib.hid (show batchOk (odsOf r.ords) r.nb x.b = false by rw [HF.out, HD.out, HMm.out]; simp only [q1, q2, q3, Bool.false_and, Bool.and_false])
                      refine wp_region_far (by kernel_rfl) (by kernel_rfl) ?_
                      repeat (first | go_big_quiet_step ((go_at_call 58; exact calls_far (CI.out _))) | quiet_step ((go_at_call 58; exact calls_far (CI.out _))))
                      refine wpQuiet_nil ?_
                      intro _ hw'
                      obtain ⟨q, hw''⟩ := hw'
                      subst hw''
                      have B5 := Lib.hid (I2.out.below (far_below W2 q)).low
                      clear f1 f3 f5 g0 g9 g6 CI I2 R2
                      go_wp2_with fail
                      go_ret
                      exact ⟨by rw [HN.out]; try rfl, B5.out⟩
                    | true =>
                      cases q4 : (y.o.phase == insideN x.b.kind x.b.phase) with
                      | false =>
                        have q4d : (y.o.phase != insideN x.b.kind x.b.phase) = true := by simp only [bne, q4]; rfl
                        have HN := Lib.hid (show batchOk (odsOf r.ords) r.nb x.b = false by rw [HF.out, HD.out, HMm.out]; simp only [q1, q2, q3, q4, Bool.false_and, Bool.and_false])
                        refine wp_region_far (by kernel_rfl) (by kernel_rfl) ?_
                        repeat (first | go_big_quiet_step ((go_at_call 58; exact calls_far (CI.out _))) | quiet_step ((go_at_call 58; exact calls_far (CI.out _))))
                        refine wpQuiet_nil ?_
                        intro _ hw'
                        obtain ⟨q, hw''⟩ := hw'
                        subst hw''
                        have B5 := Lib.hid (I2.out.below (far_below W2 q)).low
                        clear f1 f3 f5 g0 g9 g6 CI I2 R2
                        go_wp2_with fail
                        go_ret
                        exact ⟨by rw [HN.out]; try rfl, B5.out⟩
                      | true =>
                        have q4d : (y.o.phase != insideN x.b.kind x.b.phase) = false := by simp only [bne, q4]; rfl
                        have HN := Lib.hid (show batchOk (odsOf r.ords) r.nb x.b = (x.b.mem.drop (k + 1)).all (memOk (odsOf r.ords) x.b) by rw [HF.out, HD.out, HMm.out]; simp only [q1, q2, q3, q4, Bool.true_and])
                        refine wp_region_far (by kernel_rfl) (by kernel_rfl) ?_
                        repeat (first | go_big_quiet_step ((go_at_call 58; exact calls_far (CI.out _))) | quiet_step ((go_at_call 58; exact calls_far (CI.out _))))
                        refine wpQuiet_nil ?_
                        intro _ hw'
                        obtain ⟨q, hw''⟩ := hw'
                        subst hw''
                        have J := Lib.hid (I2.out.below (far_below W2 q))
                        clear f1 f3 f5 g0 g9 g6 CI I2 R2
                        go_wp2_with fail
                        go_roundw
                        case rel => exact ⟨k + 1, by omega, by go_num, HN, J⟩
                        case measure => simp [intOf]; omega
              · have HN := Lib.hid (show batchOk (odsOf r.ords) r.nb x.b = true by rw [HF.out, List.drop_eq_nil_of_le (by omega)]; rfl)
                go_wp2_with fail
                go_ret
                exact ⟨by rw [HN.out]; rfl, HJ.out.low⟩
end

/- StRef4: What the document's effectsOk of layer 15 answers. -/
section
set_option maxRecDepth 100000
open Go.RowKit Go.ChangeShapes Go.WideShapes Go.ChangeAt
attribute [local go_sem ↓] ldOr stOr alOr bxOr bdOr ldBa stBa alBa bxBa bdBa ldSt stSt alSt bxSt bdSt ldEf stEf alEf bxEf eqEf bdEf bsEf ldGr bxGr eqGr
attribute [local go_sem] al_or bx_or st_ornew bd_or al_ba bx_ba st_banew bd_ba al_sta bx_sta st_stnew bd_sta al_ef bx_ef st_new bd_ef bs_ef bs_ef0 bx_gr ne_gr

/-- The state that came in, in a variable. -/
structure OnI (w : World) (r : StR) (W : World) : Prop where
  one : Row W w.heap.size 29 (stC r)
  st : StP W r
  low : Below w.heap.size w W
theorem OnI.below {w W W' : World} {r : StR} (h : OnI w r W) (b : Below W.heap.size W W') : OnI w r W' := ⟨h.one.below b, h.st.below b, h.low.trans (b.mono h.low.size)⟩
theorem OnI.more {w W : World} {r : StR} (h : OnI w r W) (o : Obj) : OnI w r (W.alloc o) := h.below ((Below.refl _ _).alloc (Nat.le_refl _) o)
theorem OnI.begin (w : World) (r : StR) (h : StP w r) : OnI w r (w.alloc (.cells (stC r) 29)) := by
  have b : Below w.heap.size w (w.alloc (.cells (stC r) 29)) := (Below.refl _ _).alloc (Nat.le_refl _) _
  exact ⟨Row.new _ _ _, h.below b, b⟩

theorem effsOk_raw (r : StR) : effsOk (odsOf r.ords) (btsOf r.bats) r.effs r.nk =
    (r.ords.all (fun x => needO r.effs x.o) && (r.bats.all (fun x => needB r.effs x.b) && (r.effs.all (fun e => decide (e.key < r.nk)) && (decide (r.ords.countP (fun x => asksB x.o) + r.bats.countP (fun x => outB x.b) = r.effs.length) && rightE r.effs)))) := by
  unfold effsOk manyN odsOf btsOf
  rw [List.all_map, List.all_map, List.countP_map, List.countP_map]
  rfl
/-- Their phases and kinds are such as there are. -/
structure Tame (r : StR) : Prop where
  ph : ∀ x ∈ r.ords, 1 ≤ x.o.phase ∧ x.o.phase ≤ 12
  kd : ∀ x ∈ r.bats, x.b.kind = 1 ∨ x.b.kind = 2
  few : r.ords.length ≤ 1000000 ∧ r.bats.length ≤ 1000000 ∧ r.effs.length ≤ 1000000

set_option maxHeartbeats 8000000 in
theorem effsOk_any (r : StR) (w : World) (h : StP w r) (ht : Tame r) : Calls Tryz.prog 27 #[stV r] w (Tell (effsOk (odsOf r.ords) (btsOf r.bats) r.effs r.nk) w) := by
  have I := Lib.hid (OnI.begin w r h)
  obtain ⟨hl1, hl2, hl3⟩ := ht.few
  have p1 := h.ords.sl.cap
  have p2 := h.bats.sl.cap
  have p3 := h.effs.sl.cap
  have c9 := I.out.one.st.2.2.2.2.1
  have HT := Lib.hid ht
  have HE := Lib.hid (effsOk_raw r)
  generalize effsOk (odsOf r.ords) (btsOf r.bats) r.effs r.nk = res at *
  clear h ht
  go_enter Tryz.func27, Tryz.ntmps27
  go_wp2_with fail
  generalize w.alloc (.cells (stC r) 29) = W0 at *
  clear c9
  go_loopw [3, 14] (fun s i wr => ∃ (k : Nat), k ≤ r.ords.length ∧ i = .int .i64 k ∧ s = .int .i64 ((r.ords.take k).countP (fun x => asksB x.o) : Nat) ∧ Hid (res = ((r.ords.drop k).all (fun x => needO r.effs x.o) && (r.bats.all (fun x => needB r.effs x.b) && (r.effs.all (fun e => decide (e.key < r.nk)) && (decide (r.ords.countP (fun x => asksB x.o) + r.bats.countP (fun x => outB x.b) = r.effs.length) && rightE r.effs))))) ∧ Hid (OnI w r wr)) (fun _ i _ => r.ords.length - (intOf i).toNat)
  case atStart => exact ⟨0, Nat.zero_le _, rfl, rfl, HE, I⟩
  case round =>
    obtain ⟨k, hk, rfl, rfl, HF, HI⟩ := hrel
    by_cases hlt : k < r.ords.length
    · obtain ⟨b, o, e, hb, _, ld, _⟩ := HI.out.st.ords.ld k hlt
      rw [e]
      clear e
      have HD := Lib.hid (all_drop (fun x => needO r.effs x.o) r.ords k hlt)
      have HC := Lib.hid (countP_drop (fun x => asksB x.o) r.ords k hlt)
      have hn : (r.ords.take k).countP (fun x => asksB x.o) ≤ k := Nat.le_trans List.countP_le_length (by rw [List.length_take]; omega)
      have hph := HT.out.ph _ (List.getElem_mem hlt)
      generalize r.ords[k] = x at *
      generalize (r.ords.take k).countP (fun x => asksB x.o) = n at *
      have CA := Lib.hid (fun W => refAsks_any x.o.phase W (by omega))
      have R := Lib.hid (Row.new wr (orC x) 39)
      have J := Lib.hid (HI.out.more (.cells (orC x) 39))
      have d6 := R.out.o.2.2.1
      clear hph
      go_wp2_with fail
      generalize wr.alloc (.cells (orC x) 39) = W1 at *
      refine (CA.out _).mono ?_
      rintro e w2 ⟨rfl, b2⟩
      have J2 := Lib.hid (J.out.below b2)
      have R2 := Lib.hid (R.out.below b2)
      clear b2 R J d6 ld
      cases q1 : (asksN x.o.phase != 0) with
      | false =>
        have q1e : asksN x.o.phase = 0 := by simpa [bne] using q1
        have HN := Lib.hid (show needO r.effs x.o = true by unfold needO; rw [q1e]; rfl)
        have HM := Lib.hid (show asksB x.o = false from q1)
        go_wp2_with fail
        go_roundw
        case rel => exact ⟨k + 1, by omega, by go_num, by rw [HC.out, HM.out]; rfl, Lib.hid (by rw [HF.out, HD.out, HN.out, Bool.true_and]), J2⟩
        case measure => simp [intOf]; omega
      | true =>
        have HM := Lib.hid (show asksB x.o = true from q1)
        have q1e : asksN x.o.phase ≠ 0 := by simpa [bne] using q1
        have HN := Lib.hid (show needO r.effs x.o = (askN r.effs (asksN x.o.phase) x.o.id 0 == 1) by unfold needO; rw [beq_eq_false_iff_ne.2 q1e, Bool.false_or])
        have CK := Lib.hid (fun W hW => asks15_any r (asksN x.o.phase) x.o.id 0 W hW)
        have ld := ld_sta J2.out.one
        have d0 := R2.out.o.1.1
        clear q1e
        go_wp2_with fail
        refine (CK.out _ J2.out.st).mono ?_
        rintro e w3 ⟨rfl, b3⟩
        have J3 := Lib.hid (J2.out.below b3)
        clear b3 J2 R2 ld d0 CK CA
        generalize askN r.effs (asksN x.o.phase) x.o.id 0 = m at *
        cases q2 : (m == 1) with
        | true =>
          have q2d : (((m : Nat) : Int) != 1) = false := by simp at q2 ⊢; omega
          go_wp2_with fail
          go_roundw
          case rel => exact ⟨k + 1, by omega, by go_num, by rw [HC.out, HM.out]; go_num, Lib.hid (by rw [HF.out, HD.out, HN.out, q2, Bool.true_and]), J3⟩
          case measure => simp [intOf]; omega
        | false =>
          have q2d : (((m : Nat) : Int) != 1) = true := by simp at q2 ⊢; omega
          have HX := Lib.hid (show res = false by rw [HF.out, HD.out, HN.out, q2, Bool.false_and, Bool.false_and])
          go_wp2_with fail
          go_ret
          exact ⟨by rw [HX.out]; try rfl, J3.out.low⟩
    · have HF2 := Lib.hid (show res = (r.bats.all (fun x => needB r.effs x.b) && (r.effs.all (fun e => decide (e.key < r.nk)) && (decide (r.ords.countP (fun x => asksB x.o) + r.bats.countP (fun x => outB x.b) = r.effs.length) && rightE r.effs))) by rw [HF.out, List.drop_eq_nil_of_le (by omega)]; rfl)
      have hkk : r.ords.take k = r.ords := List.take_of_length_le (by omega)
      rw [hkk]
      clear hkk HF
      have hn1 : r.ords.countP (fun x => asksB x.o) ≤ r.ords.length := List.countP_le_length
      generalize r.ords.countP (fun x => asksB x.o) = n1 at *
      have c10 := HI.out.one.st.2.2.2.2.2.1
      have ce := HT.out.kd
      have he3 := HT.out.ph
      clear I HE HT
      have HT := Lib.hid ce
      clear ce he3
      go_wp2_with fail
      go_loopw [3, 36] (fun s i wi => ∃ (k : Nat), k ≤ r.bats.length ∧ i = .int .i64 k ∧ s = .int .i64 (n1 + (r.bats.take k).countP (fun x => outB x.b) : Nat) ∧ Hid (res = ((r.bats.drop k).all (fun x => needB r.effs x.b) && (r.effs.all (fun e => decide (e.key < r.nk)) && (decide (n1 + r.bats.countP (fun x => outB x.b) = r.effs.length) && rightE r.effs)))) ∧ Hid (OnI w r wi)) (fun _ i _ => r.bats.length - (intOf i).toNat)
      case atStart => exact ⟨0, Nat.zero_le _, rfl, rfl, HF2, HI⟩
      case round =>
        clear HI HF2 c10
        obtain ⟨k, hk, rfl, rfl, HF, HI⟩ := hrel
        by_cases hlt : k < r.bats.length
        · obtain ⟨b, o, e, hb, _, ld, _⟩ := HI.out.st.bats.ld k hlt
          rw [e]
          clear e
          have HD := Lib.hid (all_drop (fun x => needB r.effs x.b) r.bats k hlt)
          have HC := Lib.hid (countP_drop (fun x => outB x.b) r.bats k hlt)
          have hn : (r.bats.take k).countP (fun x => outB x.b) ≤ k := Nat.le_trans List.countP_le_length (by rw [List.length_take]; omega)
          have hkd := HT.out _ (List.getElem_mem hlt)
          generalize r.bats[k] = x at *
          generalize (r.bats.take k).countP (fun x => outB x.b) = n at *
          have R := Lib.hid (Row.new wr (baC x) 46)
          have J := Lib.hid (HI.out.more (.cells (baC x) 46))
          have d4 := R.out.b.1.2.2.2.2
          cases q1 : (x.b.phase == 2) with
          | false =>
            have HN := Lib.hid (show needB r.effs x.b = true by unfold needB; simp only [bne, q1]; rfl)
            have HM := Lib.hid (show outB x.b = false from q1)
            clear hkd
            go_wp2_with fail
            go_roundw
            case rel => exact ⟨k + 1, by omega, by go_num, by rw [HC.out, HM.out]; rfl, Lib.hid (by rw [HF.out, HD.out, HN.out, Bool.true_and]), J⟩
            case measure => simp [intOf]; omega
          | true =>
            have HM := Lib.hid (show outB x.b = true from q1)
            have HN := Lib.hid (show needB r.effs x.b = (askN r.effs (2 + x.b.kind) noT x.b.id == 1) by unfold needB; simp only [bne, q1]; rfl)
            have ld2 := ld_sta J.out.one
            have d0 := R.out.b.1.1
            have d3 := R.out.b.1.2.2.2.1
            have CK := Lib.hid (fun W hW => asks15_any r (2 + x.b.kind) noT x.b.id W hW)
            unfold noT at CK HN
            obtain ⟨z, hz⟩ : ∃ z, x.b.kind = z := ⟨_, rfl⟩
            rw [hz] at hkd d3 CK HN
            clear hz
            rcases hkd with rfl | rfl
            all_goals
              go_wp2_with fail
              refine (CK.out _ J.out.st).mono ?_
              rintro e w3 ⟨rfl, b3⟩
              have J3 := Lib.hid (J.out.below b3)
              clear b3 J R ld ld2 d0 d3 d4 CK
            all_goals
              generalize askN r.effs _ _ x.b.id = m at *
              cases q2 : (m == 1) with
              | true =>
                have q2d : (((m : Nat) : Int) != 1) = false := by simp at q2 ⊢; omega
                go_wp2_with fail
                go_roundw
                case rel => exact ⟨k + 1, by omega, by go_num, by rw [HC.out, HM.out]; go_num, Lib.hid (by rw [HF.out, HD.out, HN.out, q2, Bool.true_and]), J3⟩
                case measure => simp [intOf]; omega
              | false =>
                have q2d : (((m : Nat) : Int) != 1) = true := by simp at q2 ⊢; omega
                have HX := Lib.hid (show res = false by rw [HF.out, HD.out, HN.out, q2, Bool.false_and, Bool.false_and])
                go_wp2_with fail
                go_ret
                exact ⟨by rw [HX.out]; try rfl, J3.out.low⟩
        · have HF2 := Lib.hid (show res = (r.effs.all (fun e => decide (e.key < r.nk)) && (decide (n1 + r.bats.countP (fun x => outB x.b) = r.effs.length) && rightE r.effs)) by rw [HF.out, List.drop_eq_nil_of_le (by omega)]; rfl)
          have hkk : r.bats.take k = r.bats := List.take_of_length_le (by omega)
          rw [hkk]
          clear hkk HF
          have hn2 : r.bats.countP (fun x => outB x.b) ≤ r.bats.length := List.countP_le_length
          generalize r.bats.countP (fun x => outB x.b) = n2 at *
          have c11 := HI.out.one.st.2.2.2.2.2.2
          clear HT
          go_wp2_with fail
          go_loopw [57] (fun i wi => ∃ (k : Nat), k ≤ r.effs.length ∧ i = .int .i64 k ∧ Hid (res = ((r.effs.drop k).all (fun e => decide (e.key < r.nk)) && (decide (n1 + n2 = r.effs.length) && rightE r.effs))) ∧ Hid (OnI w r wi)) (fun i _ => r.effs.length - (intOf i).toNat)
          case atStart => exact ⟨0, Nat.zero_le _, rfl, HF2, HI⟩
          case round =>
            clear HI HF2 c11
            obtain ⟨k, hk, rfl, HF, HI⟩ := hrel
            by_cases hlt : k < r.effs.length
            · obtain ⟨b, o, e, hb, ld, _⟩ := HI.out.st.effs.ld k hlt
              rw [e]
              clear e
              have HD := Lib.hid (all_drop (fun e => decide (e.key < r.nk)) r.effs k hlt)
              generalize r.effs[k] = x at *
              have R := Lib.hid (Row.new wr (efC x) 58)
              have J := Lib.hid (HI.out.more (.cells (efC x) 58))
              have d0 := R.out.e.1.1
              have d8 := J.out.one.st.2.2.2.1
              cases q1 : decide (r.nk ≤ x.key) with
              | true =>
                have q1d : decide (x.key < r.nk) = false := by simp at q1 ⊢; omega
                have HX := Lib.hid (show res = false by rw [HF.out, HD.out, q1d, Bool.false_and, Bool.false_and])
                go_wp2_with fail
                go_ret
                exact ⟨by rw [HX.out]; try rfl, J.out.low⟩
              | false =>
                have q1d : decide (x.key < r.nk) = true := by simp at q1 ⊢; omega
                have HN := Lib.hid (show res = ((r.effs.drop (k + 1)).all (fun e => decide (e.key < r.nk)) && (decide (n1 + n2 = r.effs.length) && rightE r.effs)) by rw [HF.out, HD.out, q1d, Bool.true_and])
                clear q1d
                go_wp2_with fail
                go_roundw
                case rel => exact ⟨k + 1, by omega, by go_num, HN, J⟩
                case measure => simp [intOf]; omega
            · have HF2 := Lib.hid (show res = (decide (n1 + n2 = r.effs.length) && rightE r.effs) by rw [HF.out, List.drop_eq_nil_of_le (by omega)]; rfl)
              clear HF
              have c11 := HI.out.one.st.2.2.2.2.2.2
              cases q1 : decide (n1 + n2 = r.effs.length) with
              | false =>
                have HX := Lib.hid (show res = false by rw [HF2.out, q1, Bool.false_and])
                have q1d : (((n1 : Int) + (n2 : Int)) == (r.effs.length : Int)) = false := by simp at q1 ⊢; omega
                go_wp2_with fail
                go_ret
                exact ⟨by rw [HX.out]; try rfl, HI.out.low⟩
              | true =>
                have HX := Lib.hid (show res = rightE r.effs by rw [HF2.out, q1, Bool.true_and])
                have q1d : (((n1 : Int) + (n2 : Int)) == (r.effs.length : Int)) = true := by simp at q1 ⊢; omega
                have CR := Lib.hid (refObRight_any r.ea r.ec r.effs wr HI.out.st.effs.sl HI.out.st.effs.each)
                go_wp2_with fail
                refine CR.out.mono ?_
                rintro e w3 ⟨rfl, b3⟩
                have J := Lib.hid (HI.out.below b3)
                go_wp2_with fail
                go_ret
                exact ⟨by rw [HX.out]; try rfl, J.out.low⟩
end

/- StRef5: What the document's Right of layer 15 answers. -/
section
set_option maxRecDepth 100000
open Go.RowKit Go.ChangeShapes Go.WideShapes Go.ChangeAt
attribute [local go_sem ↓] ldOr stOr alOr bxOr bdOr ldBa stBa alBa bxBa bdBa ldSt stSt alSt bxSt bdSt ldEf stEf alEf bxEf eqEf bdEf bsEf ldGr bxGr eqGr ldCa bxCa eqCa
attribute [local go_sem] al_or bx_or st_ornew bd_or al_ba bx_ba st_banew bd_ba al_sta bx_sta st_stnew bd_sta al_ef bx_ef st_new bd_ef bs_ef bs_ef0 bx_gr ne_gr bx_ca ne_ca

theorem aboveB_two (n : Int) : aboveB n = (decide (1 ≤ n) && decide (n ≤ 1000000000000)) := by rw [Bool.eq_iff_iff]; simp [aboveB]
theorem limitB_two (n : Int) : limitB n = (decide (1 ≤ n) && decide (n ≤ 100)) := by rw [Bool.eq_iff_iff]; simp [limitB]
theorem goodO_all : ∀ (l : List Od) (p : Option ByteArray), goodO p l = true → ∀ o ∈ l, rightO o = true
  | [], _, _, o, ho => by simp at ho
  | x :: r, p, h, o, ho => by
    simp only [goodO, Bool.and_eq_true] at h
    rcases List.mem_cons.1 ho with rfl | ho
    · exact h.1
    · exact goodO_all r _ h.2.2 o ho
theorem goodB_all (os : List Od) (nb : Int) : ∀ (l : List Bt) (p : Option Int), goodB os nb p l = true → ∀ b ∈ l, batchOk os nb b = true
  | [], _, _, b, hb => by simp at hb
  | x :: r, p, h, b, hb => by
    simp only [goodB, Bool.and_eq_true] at h
    rcases List.mem_cons.1 hb with rfl | hb
    · exact h.1
    · exact goodB_all os nb r _ h.2.2 b hb
theorem rightO_phase {o : Od} (h : rightO o = true) : 1 ≤ o.phase ∧ o.phase ≤ 12 := by
  simp only [rightO, Bool.and_eq_true, sagaB, phaseB, decide_eq_true_eq] at h
  exact h.1.1.2.1
theorem batchOk_right {os : List Od} {nb : Int} {b : Bt} (h : batchOk os nb b = true) : rightBt b = true := by
  simp only [batchOk, Bool.and_eq_true] at h
  exact h.1
theorem tame_of {r : StR} (h1 : goodO none (odsOf r.ords) = true) (h2 : goodB (odsOf r.ords) r.nb none (btsOf r.bats) = true) (hf : r.ords.length ≤ 1000000 ∧ r.bats.length ≤ 1000000 ∧ r.effs.length ≤ 1000000) : Tame r :=
  ⟨fun x hx => rightO_phase (goodO_all _ _ h1 x.o (List.mem_map_of_mem hx)), fun x hx => (rightBt_kind (batchOk_right (goodB_all _ _ _ _ h2 x.b (List.mem_map_of_mem hx)))).1, hf⟩
theorem goodO_raw (l : List OdR) (k : Nat) (h : k < l.length) : goodO (prevO (odsOf l) k) ((odsOf l).drop k) = (rightO l[k].o && (aheadO (prevO (odsOf l) k) l[k].o.id && goodO (prevO (odsOf l) (k + 1)) ((odsOf l).drop (k + 1)))) := by
  have h2 : k < (odsOf l).length := by simpa [odsOf] using h
  have := goodO_drop (odsOf l) k h2
  rw [this]
  simp [odsOf]
theorem goodB_raw (os : List Od) (nb : Int) (l : List BtR) (k : Nat) (h : k < l.length) : goodB os nb (prevB (btsOf l) k) ((btsOf l).drop k) = (batchOk os nb l[k].b && (aheadB (prevB (btsOf l) k) l[k].b.id && goodB os nb (prevB (btsOf l) (k + 1)) ((btsOf l).drop (k + 1)))) := by
  have h2 : k < (btsOf l).length := by simpa [btsOf] using h
  have := goodB_drop os nb (btsOf l) k h2
  rw [this]
  simp [btsOf]
theorem two_0 (a b : Int) (W : World) : (Instr.index 62 (.agg #[.int .i64 a, .int .i64 b]) (.int .i64 0)).run Tryz.prog W = .ok (.int .i64 a) W := by kernel_rfl
theorem two_1 (a b : Int) (W : World) : (Instr.index 62 (.agg #[.int .i64 a, .int .i64 b]) (.int .i64 1)).run Tryz.prog W = .ok (.int .i64 b) W := by kernel_rfl
/-- So few that they can be counted. -/
def FewS (r : StR) : Prop := r.ords.length ≤ 1000000 ∧ r.bats.length ≤ 1000000 ∧ r.effs.length ≤ 1000000

set_option maxHeartbeats 16000000 in
theorem refRightS_any (r : StR) (w : World) (h : StP w r) (hf : FewS r) : Calls Tryz.prog 7 #[stV r] w (Tell (rightS r.st) w) := by
  have I := Lib.hid (OnI.begin w r h)
  have HV := Lib.hid hf
  have hdl := h.dlen
  obtain ⟨hl1, hl2, _⟩ := hf
  have p1 := h.ords.sl.cap
  have p2 := h.bats.sl.cap
  have C1 := Lib.hid (fun W => refCaps_any r.waves W)
  have C2 := Lib.hid (fun W => refCaps_any r.mans W)
  have C3 := Lib.hid (fun W hW => refFits_any r.da r.dc r.doors W hW hdl)
  have C4 := Lib.hid (fun W => refTick_any r.now W)
  have HE := Lib.hid (show rightS r.st = ((capsB r.waves && (capsB r.mans && (limitB r.limit && (fitsB r.doors && (tickB r.now && (aboveB r.nb && aboveB r.nk)))))) && (decide (r.ords.length ≤ 400) && (goodO none (odsOf r.ords) && (goodB (odsOf r.ords) r.nb none (btsOf r.bats) && ((odsOf r.ords).all (heldIn (btsOf r.bats)) && effsOk (odsOf r.ords) (btsOf r.bats) r.effs r.nk))))) by
    unfold rightS limitsB StR.st
    simp only [odsOf, List.length_map])
  rw [limitB_two, aboveB_two, aboveB_two] at HE
  generalize rightS r.st = res at *
  have c := I.out.one.st
  obtain ⟨⟨c0, c1, c2, c3, c4, c5⟩, c6, c7, c8, c9, _⟩ := c
  have ldw := ld_caAt c0 c1
  have ldm := ld_caAt c2 c3
  clear h c0 c1 c2 c3
  go_enter Tryz.func7, Tryz.ntmps7
  go_wp2_with fail
  generalize w.alloc (.cells (stC r) 29) = W0 at *
  refine (C1.out _).mono ?_
  rintro e w1 ⟨rfl, b1⟩
  have I1 := Lib.hid (I.out.below b1)
  cases k1 : capsB r.waves with
  | false =>
    have HX := Lib.hid (show res = false by rw [HE.out]; simp only [k1, Bool.false_and])
    go_wp2_with fail
    go_ret
    exact ⟨by rw [HX.out]; try rfl, I1.out.low⟩
  | true =>
    have c := I1.out.one.st
    obtain ⟨⟨c0, c1, c2, c3, c4, c5⟩, c6, c7, c8, c9, _⟩ := c
    have ldm := ld_caAt c2 c3
    clear c0 c1 c2 c3 b1 I
    go_wp2_with fail
    refine (C2.out _).mono ?_
    rintro e w2 ⟨rfl, b2⟩
    have I2 := Lib.hid (I1.out.below b2)
    clear ldm c4 c5 c6 c7 c8 c9 I1
    have c := I2.out.one.st
    obtain ⟨⟨_, _, _, _, c4, c5⟩, c6, c7, c8, c9, _⟩ := c
    cases k2 : capsB r.mans with
    | false =>
      have HX := Lib.hid (show res = false by rw [HE.out]; simp only [k1, k2, Bool.false_and, Bool.and_false])
      go_wp2_with fail
      go_ret
      exact ⟨by rw [HX.out]; try rfl, I2.out.low⟩
    | true =>
      cases k3 : decide (1 ≤ r.limit) with
      | false =>
        have k3d : r.limit < 1 := by simp at k3; omega
        have HX := Lib.hid (show res = false by rw [HE.out]; simp only [k1, k2, k3, Bool.false_and, Bool.and_false])
        go_wp2_with fail
        go_ret
        exact ⟨by rw [HX.out]; try rfl, I2.out.low⟩
      | true =>
        have k3d : ¬ r.limit < 1 := by simp at k3; omega
        cases k4 : decide (r.limit ≤ 100) with
        | false =>
          have k4d : 100 < r.limit := by simp at k4; omega
          have HX := Lib.hid (show res = false by rw [HE.out]; simp only [k1, k2, k3, k4, Bool.false_and, Bool.and_false])
          go_wp2_with fail
          go_ret
          exact ⟨by rw [HX.out]; try rfl, I2.out.low⟩
        | true =>
          have k4d : ¬ 100 < r.limit := by simp at k4; omega
          have C3' := Lib.hid (C3.out w2 I2.out.st.doors)
          go_wp2_with fail
          refine C3'.out.mono ?_
          rintro e w3 ⟨rfl, rfl⟩
          cases k5 : fitsB r.doors with
          | false =>
            have HX := Lib.hid (show res = false by rw [HE.out]; simp only [k1, k2, k3, k4, k5, Bool.true_and, Bool.false_and, Bool.and_false])
            go_wp2_with fail
            go_ret
            exact ⟨by rw [HX.out]; try rfl, I2.out.low⟩
          | true =>
            go_wp2_with fail
            refine (C4.out _).mono ?_
            rintro e w3 ⟨rfl, rfl⟩
            cases k6 : tickB r.now with
            | false =>
              have HX := Lib.hid (show res = false by rw [HE.out]; simp only [k1, k2, k3, k4, k5, k6, Bool.true_and, Bool.false_and, Bool.and_false])
              go_wp2_with fail
              go_ret
              exact ⟨by rw [HX.out]; try rfl, I2.out.low⟩
            | true =>
              have HF := Lib.hid (show res = (((decide (1 ≤ r.nb) && decide (r.nb ≤ 1000000000000)) && (decide (1 ≤ r.nk) && decide (r.nk ≤ 1000000000000))) && (decide (r.ords.length ≤ 400) && (goodO none (odsOf r.ords) && (goodB (odsOf r.ords) r.nb none (btsOf r.bats) && ((odsOf r.ords).all (heldIn (btsOf r.bats)) && effsOk (odsOf r.ords) (btsOf r.bats) r.effs r.nk))))) by rw [HE.out]; simp only [k1, k2, k3, k4, k5, k6, Bool.true_and])
              clear HE C1 C2 C3 C3' C4 k1 k2 k3 k4 k5 k6
              go_wp2_with fail
              go_loopw [50] (fun i wr => ∃ (k : Nat), k ≤ 2 ∧ i = .int .i64 k ∧ Hid (res = (((decide (2 ≤ k) || (decide (1 ≤ r.nk) && decide (r.nk ≤ 1000000000000))) && (decide (1 ≤ k) || (decide (1 ≤ r.nb) && decide (r.nb ≤ 1000000000000)))) && (decide (r.ords.length ≤ 400) && (goodO none (odsOf r.ords) && (goodB (odsOf r.ords) r.nb none (btsOf r.bats) && ((odsOf r.ords).all (heldIn (btsOf r.bats)) && effsOk (odsOf r.ords) (btsOf r.bats) r.effs r.nk)))))) ∧ Hid (OnI w r wr)) (fun i _ => 2 - (intOf i).toNat)
              case atStart => exact ⟨0, by decide, rfl, Lib.hid (by rw [HF.out, Bool.and_comm (decide (1 ≤ r.nb) && decide (r.nb ≤ 1000000000000))]; rfl), I2⟩
              case round =>
                clear I2 HF c4 c5 c6 c7 c8 c9
                obtain ⟨k, hk, rfl, HF, HI⟩ := hrel
                have hk3 : k = 0 ∨ k = 1 ∨ k = 2 := by omega
                have t0 := two_0 r.nb r.nk
                have t1 := two_1 r.nb r.nk
                rcases hk3 with rfl | rfl | rfl
                · cases k1 : decide (1 ≤ r.nb) with
                  | false =>
                    have k1d : r.nb < 1 := by simp at k1; omega
                    have HX := Lib.hid (show res = false by rw [HF.out, k1]; simp)
                    go_wp2_with fail
                    go_ret
                    exact ⟨by rw [HX.out]; try rfl, HI.out.low⟩
                  | true =>
                    have k1d : ¬ r.nb < 1 := by simp at k1; omega
                    cases k2 : decide (r.nb ≤ 1000000000000) with
                    | false =>
                      have k2d : 1000000000000 < r.nb := by simp at k2; omega
                      have HX := Lib.hid (show res = false by rw [HF.out, k1, k2]; simp)
                      go_wp2_with fail
                      go_ret
                      exact ⟨by rw [HX.out]; try rfl, HI.out.low⟩
                    | true =>
                      have k2d : ¬ 1000000000000 < r.nb := by simp at k2; omega
                      have HN := Lib.hid (show res = (((decide (2 ≤ 1) || (decide (1 ≤ r.nk) && decide (r.nk ≤ 1000000000000))) && (decide (1 ≤ 1) || (decide (1 ≤ r.nb) && decide (r.nb ≤ 1000000000000)))) && (decide (r.ords.length ≤ 400) && (goodO none (odsOf r.ords) && (goodB (odsOf r.ords) r.nb none (btsOf r.bats) && ((odsOf r.ords).all (heldIn (btsOf r.bats)) && effsOk (odsOf r.ords) (btsOf r.bats) r.effs r.nk))))) by rw [HF.out, k1, k2]; simp)
                      go_wp2_with fail
                      go_roundw
                      case rel => exact ⟨1, by omega, by go_num, HN, HI⟩
                      case measure => simp [intOf]
                · cases k1 : decide (1 ≤ r.nk) with
                  | false =>
                    have k1d : r.nk < 1 := by simp at k1; omega
                    have HX := Lib.hid (show res = false by rw [HF.out, k1]; simp)
                    go_wp2_with fail
                    go_ret
                    exact ⟨by rw [HX.out]; try rfl, HI.out.low⟩
                  | true =>
                    have k1d : ¬ r.nk < 1 := by simp at k1; omega
                    cases k2 : decide (r.nk ≤ 1000000000000) with
                    | false =>
                      have k2d : 1000000000000 < r.nk := by simp at k2; omega
                      have HX := Lib.hid (show res = false by rw [HF.out, k1, k2]; simp)
                      go_wp2_with fail
                      go_ret
                      exact ⟨by rw [HX.out]; try rfl, HI.out.low⟩
                    | true =>
                      have k2d : ¬ 1000000000000 < r.nk := by simp at k2; omega
                      have HN := Lib.hid (show res = (((decide (2 ≤ 2) || (decide (1 ≤ r.nk) && decide (r.nk ≤ 1000000000000))) && (decide (1 ≤ 2) || (decide (1 ≤ r.nb) && decide (r.nb ≤ 1000000000000)))) && (decide (r.ords.length ≤ 400) && (goodO none (odsOf r.ords) && (goodB (odsOf r.ords) r.nb none (btsOf r.bats) && ((odsOf r.ords).all (heldIn (btsOf r.bats)) && effsOk (odsOf r.ords) (btsOf r.bats) r.effs r.nk))))) by rw [HF.out, k1, k2]; simp)
                      go_wp2_with fail
                      go_roundw
                      case rel => exact ⟨2, by omega, by go_num, HN, HI⟩
                      case measure => simp [intOf]
                · have HG := Lib.hid (show res = (decide (r.ords.length ≤ 400) && (goodO none (odsOf r.ords) && (goodB (odsOf r.ords) r.nb none (btsOf r.bats) && ((odsOf r.ords).all (heldIn (btsOf r.bats)) && effsOk (odsOf r.ords) (btsOf r.bats) r.effs r.nk)))) by rw [HF.out]; simp)
                  clear HF
                  have c9 := HI.out.one.st.2.2.2.2.1
                  cases k1 : decide (r.ords.length ≤ 400) with
                  | false =>
                    have k1d : (400 : Int) < (r.ords.length : Int) := by simp at k1; omega
                    have HX := Lib.hid (show res = false by rw [HG.out, k1]; simp)
                    go_wp2_with fail
                    go_ret
                    exact ⟨by rw [HX.out]; try rfl, HI.out.low⟩
                  | true =>
                    have k1d : ¬ (400 : Int) < (r.ords.length : Int) := by simp at k1; omega
                    have HF := Lib.hid (show res = (goodO none (odsOf r.ords) && (goodB (odsOf r.ords) r.nb none (btsOf r.bats) && ((odsOf r.ords).all (heldIn (btsOf r.bats)) && effsOk (odsOf r.ords) (btsOf r.bats) r.effs r.nk))) by rw [HG.out, k1, Bool.true_and])
                    clear HG k1
                    go_wp2_with fail
                    go_loopw [67] (fun i wr => ∃ (k : Nat), k ≤ r.ords.length ∧ i = .int .i64 k ∧ Hid (res = (goodO (prevO (odsOf r.ords) k) ((odsOf r.ords).drop k) && (goodB (odsOf r.ords) r.nb none (btsOf r.bats) && ((odsOf r.ords).all (heldIn (btsOf r.bats)) && effsOk (odsOf r.ords) (btsOf r.bats) r.effs r.nk)))) ∧ Hid (goodO none (odsOf r.ords) = goodO (prevO (odsOf r.ords) k) ((odsOf r.ords).drop (k))) ∧ Hid (OnI w r wr)) (fun i _ => r.ords.length - (intOf i).toNat)
                    case atStart => exact ⟨0, Nat.zero_le _, rfl, HF, Lib.hid rfl, HI⟩
                    case round =>
                      have HG := HF
                      clear HI HF
                      obtain ⟨k, hk, rfl, HF, HQ, HI⟩ := hrel
                      by_cases hlt : k < r.ords.length
                      · obtain ⟨b, o, e, hb, _, ld, _⟩ := HI.out.st.ords.ld k hlt
                        have HD := Lib.hid (goodO_raw r.ords k hlt)
                        have HS := Lib.hid (HI.out.st.ords.each _ (List.getElem_mem hlt))
                        have HPV : ∀ j, k = j + 1 → ∃ y : OdR, prevO (odsOf r.ords) k = some y.o.id ∧ wr.cell? ⟨b, o + j * 10, none⟩ = some (.string y.o.id) ∧ y.o.id.size ≤ maxLen := by
                          intro j hj
                          subst hj
                          obtain ⟨b2, o2, e2, _, hc, _, hP⟩ := HI.out.st.ords.ld j (by omega)
                          rw [e] at e2
                          injection e2 with e2
                          injection e2 with e3 e4
                          subst e3 e4
                          exact ⟨r.ords[j]'(by omega), by rw [prevO_succ (by simpa [odsOf] using (by omega : j < r.ords.length))]; simp [odsOf], hc, hP.id⟩
                        have HPV := Lib.hid HPV
                        rw [e]
                        have He := Lib.hid e
                        clear e
                        generalize r.ords[k] = x at *
                        have R := Lib.hid (Row.new wr (orC x) 39)
                        have J := Lib.hid (HI.out.more (.cells (orC x) 39))
                        have BW := Lib.hid ((Below.refl wr.heap.size wr).alloc (Nat.le_refl _) (.cells (orC x) 39))
                        cases k1 : rightO x.o with
                        | false =>
                          go_wp2_with fail
                          generalize wr.alloc (.cells (orC x) 39) = W1 at *
                          have f1 : ∀ p : Far W1, LdX 39 (.pointer (some ⟨wr.heap.size, 0, none⟩)) (farOf W1 p) = .ok (.value (orV x)) (farOf W1 p) := fun p => ld_or (R.out.below (far_below W1 p))
                          have g9 : ∀ p : Far W1, (farOf W1 p).cell? ⟨w.heap.size, 9, none⟩ = some (.slice (some ⟨b, o, none⟩) r.ords.length r.oc) := fun p => by rw [← He.out]; exact (J.out.below (far_below W1 p)).one.st.2.2.2.2.1
                          have g0 := fun p : Far W1 => (R.out.below (far_below W1 p)).o.1.1
                          have CR := Lib.hid (fun p : Far W1 => refORight_any x.a x.c x.o _ ((HS.out.below BW.out).below (far_below W1 p)))
                          clear ld
                          rw [k1] at CR
                          have HX := Lib.hid (show res = false by rw [HF.out, HD.out, k1, Bool.false_and, Bool.false_and])
                          refine wp_region_far (by kernel_rfl) (by kernel_rfl) ?_
                          repeat (first | go_big_quiet_step ((go_at_call 23; exact calls_far (CR.out _))) | quiet_step ((go_at_call 23; exact calls_far (CR.out _))))
                          refine wpQuiet_nil ?_
                          intro _ hw'
                          obtain ⟨q, hw''⟩ := hw'
                          subst hw''
                          have B5 := Lib.hid (J.out.below (far_below W1 q)).low
                          clear f1 g9 g0 CR
                          go_wp2_with fail
                          go_ret
                          exact ⟨by rw [HX.out]; try rfl, B5.out⟩
                        | true =>
                          by_cases hk0 : 0 < k
                          · obtain ⟨j, rfl⟩ : ∃ j, k = j + 1 := ⟨k - 1, by omega⟩
                            obtain ⟨y, hpv, hpc, hps⟩ := HPV.out j rfl
                            go_wp2_with fail
                            generalize wr.alloc (.cells (orC x) 39) = W1 at *
                            have f1 : ∀ p : Far W1, LdX 39 (.pointer (some ⟨wr.heap.size, 0, none⟩)) (farOf W1 p) = .ok (.value (orV x)) (farOf W1 p) := fun p => ld_or (R.out.below (far_below W1 p))
                            have g9 : ∀ p : Far W1, (farOf W1 p).cell? ⟨w.heap.size, 9, none⟩ = some (.slice (some ⟨b, o, none⟩) r.ords.length r.oc) := fun p => by rw [← He.out]; exact (J.out.below (far_below W1 p)).one.st.2.2.2.2.1
                            have g0 := fun p : Far W1 => (R.out.below (far_below W1 p)).o.1.1
                            have CR := Lib.hid (fun p : Far W1 => refORight_any x.a x.c x.o _ ((HS.out.below BW.out).below (far_below W1 p)))
                            clear ld
                            rw [k1] at CR
                            have hpc1 := (BW.out.cell (p := ⟨b, o + j * 10, none⟩) hb).trans hpc
                            have hb1 : b < W1.heap.size := Nat.lt_of_lt_of_le hb BW.out.size
                            have gp := far_cell hb1 hpc1
                            have CC := Lib.hid (fun p : Far W1 => refCmp_any y.o.id x.o.id (farOf W1 p) hps HS.out.id)
                            have h3 := kcmp_three y.o.id x.o.id
                            cases k2 : decide (kcmp y.o.id x.o.id < 0) with
                            | false =>
                              have hq3 : (kcmp y.o.id x.o.id != -1) = true := by simp at k2 ⊢; omega
                              have HX := Lib.hid (show res = false by rw [HF.out, HD.out, k1, hpv, aheadO]; simp only [k2, Bool.false_and, Bool.true_and])
                              clear k2 h3 hpv hpc hpc1
                              generalize kcmp y.o.id x.o.id = c at *
                              refine wp_region_far (by kernel_rfl) (by kernel_rfl) ?_
                              repeat (first | go_big_quiet_step (first | (go_at_call 23; exact calls_far (CR.out _)) | (go_at_call 24; exact calls_far (CC.out _))) | quiet_step (first | (go_at_call 23; exact calls_far (CR.out _)) | (go_at_call 24; exact calls_far (CC.out _))))
                              refine wpQuiet_nil ?_
                              intro _ hw'
                              obtain ⟨q, hw''⟩ := hw'
                              subst hw''
                              have B5 := Lib.hid (J.out.below (far_below W1 q)).low
                              clear f1 g9 g0 gp CR CC
                              go_wp2_with fail
                              go_ret
                              exact ⟨by rw [HX.out]; try rfl, B5.out⟩
                            | true =>
                              have hq3 : (kcmp y.o.id x.o.id != -1) = false := by simp at k2 ⊢; omega
                              have HN := Lib.hid (show res = (goodO (prevO (odsOf r.ords) (j + 1 + 1)) ((odsOf r.ords).drop (j + 1 + 1)) && (goodB (odsOf r.ords) r.nb none (btsOf r.bats) && ((odsOf r.ords).all (heldIn (btsOf r.bats)) && effsOk (odsOf r.ords) (btsOf r.bats) r.effs r.nk))) by rw [HF.out, HD.out, k1, hpv, aheadO]; simp only [k2, Bool.true_and])
                              have HQ2 := Lib.hid (show goodO none (odsOf r.ords) = goodO (prevO (odsOf r.ords) (j + 1 + 1)) ((odsOf r.ords).drop (j + 1 + 1)) by rw [HQ.out, HD.out, k1, hpv, aheadO]; simp only [k2, Bool.true_and])
                              clear k2 h3 hpv hpc hpc1
                              generalize kcmp y.o.id x.o.id = c at *
                              refine wp_region_far (by kernel_rfl) (by kernel_rfl) ?_
                              repeat (first | go_big_quiet_step (first | (go_at_call 23; exact calls_far (CR.out _)) | (go_at_call 24; exact calls_far (CC.out _))) | quiet_step (first | (go_at_call 23; exact calls_far (CR.out _)) | (go_at_call 24; exact calls_far (CC.out _))))
                              refine wpQuiet_nil ?_
                              intro _ hw'
                              obtain ⟨q, hw''⟩ := hw'
                              subst hw''
                              have J2 := Lib.hid (J.out.below (far_below W1 q))
                              clear f1 g9 g0 gp CR CC
                              go_wp2_with fail
                              go_roundw
                              case rel => exact ⟨j + 1 + 1, by omega, by go_num, HN, HQ2, J2⟩
                              case measure => simp [intOf]; omega
                          · have HP0 := Lib.hid (show prevO (odsOf r.ords) k = none by simp [prevO]; omega)
                            have HN := Lib.hid (show res = (goodO (prevO (odsOf r.ords) (k + 1)) ((odsOf r.ords).drop (k + 1)) && (goodB (odsOf r.ords) r.nb none (btsOf r.bats) && ((odsOf r.ords).all (heldIn (btsOf r.bats)) && effsOk (odsOf r.ords) (btsOf r.bats) r.effs r.nk))) by rw [HF.out, HD.out, k1, HP0.out]; rfl)
                            have HQ2 := Lib.hid (show goodO none (odsOf r.ords) = goodO (prevO (odsOf r.ords) (k + 1)) ((odsOf r.ords).drop (k + 1)) by rw [HQ.out, HD.out, k1, HP0.out]; rfl)
                            go_wp2_with fail
                            generalize wr.alloc (.cells (orC x) 39) = W1 at *
                            have f1 : ∀ p : Far W1, LdX 39 (.pointer (some ⟨wr.heap.size, 0, none⟩)) (farOf W1 p) = .ok (.value (orV x)) (farOf W1 p) := fun p => ld_or (R.out.below (far_below W1 p))
                            have g9 : ∀ p : Far W1, (farOf W1 p).cell? ⟨w.heap.size, 9, none⟩ = some (.slice (some ⟨b, o, none⟩) r.ords.length r.oc) := fun p => by rw [← He.out]; exact (J.out.below (far_below W1 p)).one.st.2.2.2.2.1
                            have g0 := fun p : Far W1 => (R.out.below (far_below W1 p)).o.1.1
                            have CR := Lib.hid (fun p : Far W1 => refORight_any x.a x.c x.o _ ((HS.out.below BW.out).below (far_below W1 p)))
                            clear ld
                            rw [k1] at CR
                            refine wp_region_far (by kernel_rfl) (by kernel_rfl) ?_
                            repeat (first | go_big_quiet_step ((go_at_call 23; exact calls_far (CR.out _))) | quiet_step ((go_at_call 23; exact calls_far (CR.out _))))
                            refine wpQuiet_nil ?_
                            intro _ hw'
                            obtain ⟨q, hw''⟩ := hw'
                            subst hw''
                            have J2 := Lib.hid (J.out.below (far_below W1 q))
                            clear f1 g9 g0 CR
                            go_wp2_with fail
                            go_roundw
                            case rel => exact ⟨k + 1, by omega, by go_num, HN, HQ2, J2⟩
                            case measure => simp [intOf]; omega
                      · have HF2 := Lib.hid (show res = (goodB (odsOf r.ords) r.nb none (btsOf r.bats) && ((odsOf r.ords).all (heldIn (btsOf r.bats)) && effsOk (odsOf r.ords) (btsOf r.bats) r.effs r.nk)) by rw [HF.out, List.drop_eq_nil_of_le (by simp [odsOf]; omega)]; rfl)
                        have HO := Lib.hid (show goodO none (odsOf r.ords) = true by rw [HQ.out, List.drop_eq_nil_of_le (by simp [odsOf]; omega)]; rfl)
                        clear HF HQ
                        have c10 := HI.out.one.st.2.2.2.2.2.1
                        go_wp2_with fail
                        go_loopw [96] (fun i wr => ∃ (k : Nat), k ≤ r.bats.length ∧ i = .int .i64 k ∧ Hid (res = (goodB (odsOf r.ords) r.nb (prevB (btsOf r.bats) k) ((btsOf r.bats).drop k) && ((odsOf r.ords).all (heldIn (btsOf r.bats)) && effsOk (odsOf r.ords) (btsOf r.bats) r.effs r.nk))) ∧ Hid (goodB (odsOf r.ords) r.nb none (btsOf r.bats) = goodB (odsOf r.ords) r.nb (prevB (btsOf r.bats) k) ((btsOf r.bats).drop (k))) ∧ Hid (OnI w r wr)) (fun i _ => r.bats.length - (intOf i).toNat)
                        case atStart => exact ⟨0, Nat.zero_le _, rfl, HF2, Lib.hid rfl, HI⟩
                        case round =>
                          clear HI HF2 c10
                          obtain ⟨k, hk, rfl, HF, HQ, HI⟩ := hrel
                          by_cases hlt : k < r.bats.length
                          · obtain ⟨b, o, e, hb, _, ld, _⟩ := HI.out.st.bats.ld k hlt
                            have HD := Lib.hid (goodB_raw (odsOf r.ords) r.nb r.bats k hlt)
                            have HS := Lib.hid (HI.out.st.bats.each _ (List.getElem_mem hlt))
                            have HPV : ∀ j, k = j + 1 → ∃ y : BtR, prevB (btsOf r.bats) k = some y.b.id ∧ wr.cell? ⟨b, o + j * 9, none⟩ = some (.int .i64 y.b.id) := by
                              intro j hj
                              subst hj
                              obtain ⟨b2, o2, e2, _, hc, _, _⟩ := HI.out.st.bats.ld j (by omega)
                              rw [e] at e2
                              injection e2 with e2
                              injection e2 with e3 e4
                              subst e3 e4
                              exact ⟨r.bats[j]'(by omega), by rw [prevB_succ (by simpa [btsOf] using (by omega : j < r.bats.length))]; simp [btsOf], hc⟩
                            have HPV := Lib.hid HPV
                            rw [e]
                            have He := Lib.hid e
                            clear e
                            generalize r.bats[k] = x at *
                            have R := Lib.hid (Row.new wr (baC x) 46)
                            have J := Lib.hid (HI.out.more (.cells (baC x) 46))
                            have BW := Lib.hid ((Below.refl wr.heap.size wr).alloc (Nat.le_refl _) (.cells (baC x) 46))
                            cases k1 : batchOk (odsOf r.ords) r.nb x.b with
                            | false =>
                              go_wp2_with fail
                              generalize wr.alloc (.cells (baC x) 46) = W1 at *
                              have f1 : ∀ p : Far W1, LdX 46 (.pointer (some ⟨wr.heap.size, 0, none⟩)) (farOf W1 p) = .ok (.value (baV x)) (farOf W1 p) := fun p => ld_ba (R.out.below (far_below W1 p))
                              have f2 : ∀ p : Far W1, LdX 29 (.pointer (some ⟨w.heap.size, 0, none⟩)) (farOf W1 p) = .ok (.value (stV r)) (farOf W1 p) := fun p => ld_sta (J.out.below (far_below W1 p)).one
                              have g9 : ∀ p : Far W1, (farOf W1 p).cell? ⟨w.heap.size, 10, none⟩ = some (.slice (some ⟨b, o, none⟩) r.bats.length r.bc) := fun p => by rw [← He.out]; exact (J.out.below (far_below W1 p)).one.st.2.2.2.2.2.1
                              have g0 := fun p : Far W1 => (R.out.below (far_below W1 p)).b.1.1
                              have CR := Lib.hid (fun p : Far W1 => batchOk_any r x _ (J.out.below (far_below W1 p)).st ((HS.out.below BW.out).below (far_below W1 p)))
                              clear ld
                              rw [k1] at CR
                              have HX := Lib.hid (show res = false by rw [HF.out, HD.out, k1, Bool.false_and, Bool.false_and])
                              refine wp_region_far (by kernel_rfl) (by kernel_rfl) ?_
                              repeat (first | go_big_quiet_step ((go_at_call 25; exact calls_far (CR.out _))) | quiet_step ((go_at_call 25; exact calls_far (CR.out _))))
                              refine wpQuiet_nil ?_
                              intro _ hw'
                              obtain ⟨q, hw''⟩ := hw'
                              subst hw''
                              have B5 := Lib.hid (J.out.below (far_below W1 q)).low
                              clear f1 f2 g9 g0 CR
                              go_wp2_with fail
                              go_ret
                              exact ⟨by rw [HX.out]; try rfl, B5.out⟩
                            | true =>
                              by_cases hk0 : 0 < k
                              · obtain ⟨j, rfl⟩ : ∃ j, k = j + 1 := ⟨k - 1, by omega⟩
                                obtain ⟨y, hpv, hpc⟩ := HPV.out j rfl
                                go_wp2_with fail
                                generalize wr.alloc (.cells (baC x) 46) = W1 at *
                                have f1 : ∀ p : Far W1, LdX 46 (.pointer (some ⟨wr.heap.size, 0, none⟩)) (farOf W1 p) = .ok (.value (baV x)) (farOf W1 p) := fun p => ld_ba (R.out.below (far_below W1 p))
                                have f2 : ∀ p : Far W1, LdX 29 (.pointer (some ⟨w.heap.size, 0, none⟩)) (farOf W1 p) = .ok (.value (stV r)) (farOf W1 p) := fun p => ld_sta (J.out.below (far_below W1 p)).one
                                have g9 : ∀ p : Far W1, (farOf W1 p).cell? ⟨w.heap.size, 10, none⟩ = some (.slice (some ⟨b, o, none⟩) r.bats.length r.bc) := fun p => by rw [← He.out]; exact (J.out.below (far_below W1 p)).one.st.2.2.2.2.2.1
                                have g0 := fun p : Far W1 => (R.out.below (far_below W1 p)).b.1.1
                                have CR := Lib.hid (fun p : Far W1 => batchOk_any r x _ (J.out.below (far_below W1 p)).st ((HS.out.below BW.out).below (far_below W1 p)))
                                clear ld
                                rw [k1] at CR
                                have hpc1 := (BW.out.cell (p := ⟨b, o + j * 9, none⟩) hb).trans hpc
                                have hb1 : b < W1.heap.size := Nat.lt_of_lt_of_le hb BW.out.size
                                have gp := far_cell hb1 hpc1
                                cases k2 : decide (y.b.id < x.b.id) with
                                | false =>
                                  have hq3 : x.b.id ≤ y.b.id := by simp at k2; omega
                                  have HX := Lib.hid (show res = false by rw [HF.out, HD.out, k1, hpv, aheadB]; simp only [k2, Bool.false_and, Bool.true_and])
                                  clear k2 hpv hpc hpc1
                                  refine wp_region_far (by kernel_rfl) (by kernel_rfl) ?_
                                  repeat (first | go_big_quiet_step ((go_at_call 25; exact calls_far (CR.out _))) | quiet_step ((go_at_call 25; exact calls_far (CR.out _))))
                                  refine wpQuiet_nil ?_
                                  intro _ hw'
                                  obtain ⟨q, hw''⟩ := hw'
                                  subst hw''
                                  have B5 := Lib.hid (J.out.below (far_below W1 q)).low
                                  clear f1 f2 g9 g0 gp CR
                                  go_wp2_with fail
                                  go_ret
                                  exact ⟨by rw [HX.out]; try rfl, B5.out⟩
                                | true =>
                                  have hq3 : ¬ x.b.id ≤ y.b.id := by simp at k2; omega
                                  have HN := Lib.hid (show res = (goodB (odsOf r.ords) r.nb (prevB (btsOf r.bats) (j + 1 + 1)) ((btsOf r.bats).drop (j + 1 + 1)) && ((odsOf r.ords).all (heldIn (btsOf r.bats)) && effsOk (odsOf r.ords) (btsOf r.bats) r.effs r.nk)) by rw [HF.out, HD.out, k1, hpv, aheadB]; simp only [k2, Bool.true_and])
                                  have HQ2 := Lib.hid (show goodB (odsOf r.ords) r.nb none (btsOf r.bats) = goodB (odsOf r.ords) r.nb (prevB (btsOf r.bats) (j + 1 + 1)) ((btsOf r.bats).drop (j + 1 + 1)) by rw [HQ.out, HD.out, k1, hpv, aheadB]; simp only [k2, Bool.true_and])
                                  clear k2 hpv hpc hpc1
                                  refine wp_region_far (by kernel_rfl) (by kernel_rfl) ?_
                                  repeat (first | go_big_quiet_step ((go_at_call 25; exact calls_far (CR.out _))) | quiet_step ((go_at_call 25; exact calls_far (CR.out _))))
                                  refine wpQuiet_nil ?_
                                  intro _ hw'
                                  obtain ⟨q, hw''⟩ := hw'
                                  subst hw''
                                  have J2 := Lib.hid (J.out.below (far_below W1 q))
                                  clear f1 f2 g9 g0 gp CR
                                  go_wp2_with fail
                                  go_roundw
                                  case rel => exact ⟨j + 1 + 1, by omega, by go_num, HN, HQ2, J2⟩
                                  case measure => simp [intOf]; omega
                              · have HP0 := Lib.hid (show prevB (btsOf r.bats) k = none by simp [prevB]; omega)
                                have HN := Lib.hid (show res = (goodB (odsOf r.ords) r.nb (prevB (btsOf r.bats) (k + 1)) ((btsOf r.bats).drop (k + 1)) && ((odsOf r.ords).all (heldIn (btsOf r.bats)) && effsOk (odsOf r.ords) (btsOf r.bats) r.effs r.nk)) by rw [HF.out, HD.out, k1, HP0.out]; rfl)
                                have HQ2 := Lib.hid (show goodB (odsOf r.ords) r.nb none (btsOf r.bats) = goodB (odsOf r.ords) r.nb (prevB (btsOf r.bats) (k + 1)) ((btsOf r.bats).drop (k + 1)) by rw [HQ.out, HD.out, k1, HP0.out]; rfl)
                                go_wp2_with fail
                                generalize wr.alloc (.cells (baC x) 46) = W1 at *
                                have f1 : ∀ p : Far W1, LdX 46 (.pointer (some ⟨wr.heap.size, 0, none⟩)) (farOf W1 p) = .ok (.value (baV x)) (farOf W1 p) := fun p => ld_ba (R.out.below (far_below W1 p))
                                have f2 : ∀ p : Far W1, LdX 29 (.pointer (some ⟨w.heap.size, 0, none⟩)) (farOf W1 p) = .ok (.value (stV r)) (farOf W1 p) := fun p => ld_sta (J.out.below (far_below W1 p)).one
                                have g9 : ∀ p : Far W1, (farOf W1 p).cell? ⟨w.heap.size, 10, none⟩ = some (.slice (some ⟨b, o, none⟩) r.bats.length r.bc) := fun p => by rw [← He.out]; exact (J.out.below (far_below W1 p)).one.st.2.2.2.2.2.1
                                have g0 := fun p : Far W1 => (R.out.below (far_below W1 p)).b.1.1
                                have CR := Lib.hid (fun p : Far W1 => batchOk_any r x _ (J.out.below (far_below W1 p)).st ((HS.out.below BW.out).below (far_below W1 p)))
                                clear ld
                                rw [k1] at CR
                                refine wp_region_far (by kernel_rfl) (by kernel_rfl) ?_
                                repeat (first | go_big_quiet_step ((go_at_call 25; exact calls_far (CR.out _))) | quiet_step ((go_at_call 25; exact calls_far (CR.out _))))
                                refine wpQuiet_nil ?_
                                intro _ hw'
                                obtain ⟨q, hw''⟩ := hw'
                                subst hw''
                                have J2 := Lib.hid (J.out.below (far_below W1 q))
                                clear f1 f2 g9 g0 CR
                                go_wp2_with fail
                                go_roundw
                                case rel => exact ⟨k + 1, by omega, by go_num, HN, HQ2, J2⟩
                                case measure => simp [intOf]; omega
                          · have HF3 := Lib.hid (show res = ((odsOf r.ords).all (heldIn (btsOf r.bats)) && effsOk (odsOf r.ords) (btsOf r.bats) r.effs r.nk) by rw [HF.out, List.drop_eq_nil_of_le (by simp [btsOf]; omega)]; rfl)
                            have HB := Lib.hid (show goodB (odsOf r.ords) r.nb none (btsOf r.bats) = true by rw [HQ.out, List.drop_eq_nil_of_le (by simp [btsOf]; omega)]; rfl)
                            clear HF HQ
                            have c9 := HI.out.one.st.2.2.2.2.1
                            go_wp2_with fail
                            go_loopw [125] (fun i wr => ∃ (k : Nat), k ≤ r.ords.length ∧ i = .int .i64 k ∧ Hid (res = ((r.ords.drop k).all (fun x => heldIn (btsOf r.bats) x.o) && effsOk (odsOf r.ords) (btsOf r.bats) r.effs r.nk)) ∧ Hid (OnI w r wr)) (fun i _ => r.ords.length - (intOf i).toNat)
                            case atStart => exact ⟨0, Nat.zero_le _, rfl, Lib.hid (by rw [HF3.out]; unfold odsOf; rw [List.all_map]; rfl), HI⟩
                            case round =>
                              clear HI HF3 c9
                              obtain ⟨k, hk, rfl, HF, HI⟩ := hrel
                              by_cases hlt : k < r.ords.length
                              · obtain ⟨b, o, e, hb, _, ld, _⟩ := HI.out.st.ords.ld k hlt
                                have HD := Lib.hid (all_drop (fun x : OdR => heldIn (btsOf r.bats) x.o) r.ords k hlt)
                                rw [e]
                                clear e
                                generalize r.ords[k] = x at *
                                have R := Lib.hid (Row.new wr (orC x) 39)
                                have J := Lib.hid (HI.out.more (.cells (orC x) 39))
                                have d9 := R.out.o.2.2.2.2.2
                                have ld2 := ld_sta J.out.one
                                have CB := Lib.hid (fun W hW => refBatch_any r x.o.batch W hW)
                                go_wp2_with fail
                                generalize wr.alloc (.cells (orC x) 39) = W1 at *
                                refine (CB.out _ J.out.st).mono ?_
                                rintro e w1 ⟨y, rfl, hy, hP, b1⟩
                                have HH := Lib.hid (show heldIn (btsOf r.bats) x.o = ((x.o.batch == 0) || ((findB (btsOf r.bats) x.o.batch).isSome && hasT y.b.mem x.o.id)) by unfold heldIn batchV; rw [hy])
                                have J1 := Lib.hid ((J.out.below b1).more (.cells (baC y) 46))
                                have R1 := Lib.hid ((R.out.below b1).more (.cells (baC y) 46))
                                have Q1 := Lib.hid (Row.new w1 (baC y) 46)
                                have CH := Lib.hid (fun W hW => refHas_any y.a y.c y.b x.o.id W hW)
                                have HM := Lib.hid (hP.mem.below ((Below.refl w1.heap.size w1).alloc (Nat.le_refl _) (.cells (baC y) 46)))
                                clear R J d9 ld ld2 CB hy hP b1
                                have d9 := R1.out.o.2.2.2.2.2
                                have d0 := R1.out.o.1.1
                                have ld3 := ld_ba Q1.out
                                cases k1 : (x.o.batch == 0) with
                                | true =>
                                  have k1d : (x.o.batch != 0) = false := by simp only [bne, k1]; rfl
                                  have HN := Lib.hid (show res = ((r.ords.drop (k + 1)).all (fun x => heldIn (btsOf r.bats) x.o) && effsOk (odsOf r.ords) (btsOf r.bats) r.effs r.nk) by rw [HF.out, HD.out, HH.out, k1, Bool.true_or, Bool.true_and])
                                  go_wp2_with fail
                                  go_roundw
                                  case rel => exact ⟨k + 1, by omega, by go_num, HN, J1⟩
                                  case measure => simp [intOf]; omega
                                | false =>
                                  have k1d : (x.o.batch != 0) = true := by simp only [bne, k1]; rfl
                                  cases k2 : (findB (btsOf r.bats) x.o.batch).isSome with
                                  | false =>
                                    have HX := Lib.hid (show res = false by rw [HF.out, HD.out, HH.out, k1, k2]; rfl)
                                    go_wp2_with fail
                                    go_ret
                                    exact ⟨by rw [HX.out]; try rfl, J1.out.low⟩
                                  | true =>
                                    go_wp2_with fail
                                    refine (CH.out _ HM.out).mono ?_
                                    rintro e w2 ⟨rfl, b2⟩
                                    have J2 := Lib.hid (J1.out.below b2)
                                    cases k3 : hasT y.b.mem x.o.id with
                                    | false =>
                                      have HX := Lib.hid (show res = false by rw [HF.out, HD.out, HH.out, k1, k2, k3]; rfl)
                                      clear d9 d0 ld3
                                      go_wp2_with fail
                                      go_ret
                                      exact ⟨by rw [HX.out]; try rfl, J2.out.low⟩
                                    | true =>
                                      have HN := Lib.hid (show res = ((r.ords.drop (k + 1)).all (fun x => heldIn (btsOf r.bats) x.o) && effsOk (odsOf r.ords) (btsOf r.bats) r.effs r.nk) by rw [HF.out, HD.out, HH.out, k1, k2, k3]; rfl)
                                      clear d9 d0 ld3
                                      go_wp2_with fail
                                      go_roundw
                                      case rel => exact ⟨k + 1, by omega, by go_num, HN, J2⟩
                                      case measure => simp [intOf]; omega
                              · have HF4 := Lib.hid (show res = effsOk (odsOf r.ords) (btsOf r.bats) r.effs r.nk by rw [HF.out, List.drop_eq_nil_of_le (by omega)]; rfl)
                                clear HF
                                have ld := ld_sta HI.out.one
                                have CE := Lib.hid (effsOk_any r wr HI.out.st (tame_of HO.out HB.out HV.out))
                                go_wp2_with fail
                                refine CE.out.mono ?_
                                rintro e w1 ⟨rfl, b1⟩
                                have J := Lib.hid (HI.out.below b1)
                                go_wp2_with fail
                                go_ret
                                exact ⟨by rw [HF4.out]; try rfl, J.out.low⟩
end

end Go.Proofs.YtaghbfnikcldiaaGreat
