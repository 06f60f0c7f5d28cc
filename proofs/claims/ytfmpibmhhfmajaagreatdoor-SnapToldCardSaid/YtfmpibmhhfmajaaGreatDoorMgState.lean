/- States, as the document tells them. -/
import Derived.Test.YtfmpibmhhfmajaaGreatDoorMgLines
import Derived.Test.YtfmpibmhhfmajaaGreatDoorMgOrders
import Derived.Test.YtfmpibmhhfmajaaGreatDoorMgBatches
import Derived.Test.YtfmpibmhhfmajaaGreatDoorMgEffects
import Derived.Test.YtfmpibmhhfmajaaGreatDoorPDy
import Derived.OwnWalk
import Derived.Deep.DeepCutAuto
namespace Go.Proofs.YtfmpibmhhfmajaaGreatDoor
/- StPlain: Plain facts on all that a desk knows: what is there, whether it hangs together. -/
section
set_option maxRecDepth 100000

/-- All that a desk knows. -/
structure St where
  waves : Cp
  mans : Cp
  limit : Int
  doors : List Int
  now : Int
  nb : Int
  nk : Int
  ords : List Od
  bats : List Bt
  effs : List Ef

def noSt : St := ⟨⟨0, 0⟩, ⟨0, 0⟩, 0, [], 0, 0, 0, [], [], []⟩
def noOd : Od := ⟨⟨#[]⟩, [], ⟨#[]⟩, ⟨#[]⟩, ⟨#[]⟩, 0, 0, false, 0, 0⟩
/-- The order of an id, the batch of an id. -/
def findO (l : List Od) (id : ByteArray) : Option Od := l.find? fun o => o.id.toList == id.toList
def findB (l : List Bt) (id : Int) : Option Bt := l.find? fun b => b.id == id
def orderV (l : List Od) (id : ByteArray) : Od := (findO l id).getD noOd
def batchV (l : List Bt) (id : Int) : Bt := (findB l id).getD noBt
/-- What orders weigh together. -/
def weighS (l : List Od) (ids : List ByteArray) : Int := (ids.map fun id => weightV (orderV l id).ls).sum
theorem weighS_append (l : List Od) (a b : List ByteArray) : weighS l (a ++ b) = weighS l a + weighS l b := by simp [weighS]
theorem weighS_one (l : List Od) (id : ByteArray) : weighS l [id] = weightV (orderV l id).ls := by simp [weighS]
theorem weighS_bound (l : List Od) : ∀ (ids : List ByteArray), 0 ≤ weighS l ids ∧ weighS l ids ≤ 800000000 * ids.length
  | [] => by simp [weighS]
  | x :: r => by
    have ih := weighS_bound l r
    have hw := weightV_bound (orderV l x).ls
    rw [show x :: r = [x] ++ r from rfl, weighS_append, weighS_one]
    simp only [List.length_append, List.length_cons, List.length_nil]
    omega
/-- The phase of the members of a batch. -/
def insideN (kind phase : Int) : Int := if kind = 1 then (if phase = 1 then 3 else 4) else (if phase = 1 then 5 else 6)
/-- Whether one is a member as it must be. -/
def memOk (l : List Od) (b : Bt) (id : ByteArray) : Bool :=
  (findO l id).isSome && ((orderV l id).batch == b.id && (sameG (orderV l id).car (orderV l id).zone (orderV l id).serv b.car b.zone b.serv && ((orderV l id).phase == insideN b.kind b.phase)))
def batchOk (l : List Od) (nb : Int) (b : Bt) : Bool :=
  rightBt b && (b.phase != 3 && (decide (b.mem.length ≠ 0) && (decide (b.id < nb) && ((weighS l b.mem == b.wt) && b.mem.all (memOk l b)))))
/-- How many effects there are of a kind, an order, a batch. -/
def askP (kind : Int) (id : ByteArray) (batch : Int) (e : Ef) : Bool := e.kind == kind && ((e.order.toList == id.toList) && (e.batch == batch))
def askN (l : List Ef) (kind : Int) (id : ByteArray) (batch : Int) : Nat := l.countP (askP kind id batch)
def noT : ByteArray := ⟨#[]⟩
def needO (l : List Ef) (o : Od) : Bool := asksN o.phase == 0 || askN l (asksN o.phase) o.id 0 == 1
def needB (l : List Ef) (b : Bt) : Bool := b.phase != 2 || askN l (2 + b.kind) noT b.id == 1
def asksB (o : Od) : Bool := asksN o.phase != 0
def outB (b : Bt) : Bool := b.phase == 2
def manyN (os : List Od) (bs : List Bt) : Nat := os.countP asksB + bs.countP outB
def effsOk (os : List Od) (bs : List Bt) (l : List Ef) (nk : Int) : Bool :=
  os.all (needO l) && (bs.all (needB l) && (l.all (fun e => decide (e.key < nk)) && (decide (manyN os bs = l.length) && rightE l)))
/-- What stands behind has the greater id. -/
def aheadO (p : Option ByteArray) (id : ByteArray) : Bool := match p with | none => true | some q => decide (kcmp q id < 0)
def aheadB (p : Option Int) (id : Int) : Bool := match p with | none => true | some q => decide (q < id)
/-- Orders that can be, their ids rising. -/
def goodO (p : Option ByteArray) : List Od → Bool
  | [] => true
  | o :: r => rightO o && (aheadO p o.id && goodO (some o.id) r)
def prevO (l : List Od) (k : Nat) : Option ByteArray := if k = 0 then none else (l[k - 1]?).map (·.id)
def goodB (os : List Od) (nb : Int) (p : Option Int) : List Bt → Bool
  | [] => true
  | b :: r => batchOk os nb b && (aheadB p b.id && goodB os nb (some b.id) r)
def prevB (l : List Bt) (k : Nat) : Option Int := if k = 0 then none else (l[k - 1]?).map (·.id)
/-- Who is in a batch is a member of it. -/
def heldIn (l : List Bt) (o : Od) : Bool := o.batch == 0 || ((findB l o.batch).isSome && hasT (batchV l o.batch).mem o.id)
def limitB (n : Int) : Bool := decide (1 ≤ n ∧ n ≤ 100)
def limitsB (s : St) : Bool := capsB s.waves && (capsB s.mans && (limitB s.limit && (fitsB s.doors && (tickB s.now && (aboveB s.nb && aboveB s.nk)))))
def rightS (s : St) : Bool :=
  limitsB s && (decide (s.ords.length ≤ 400) && (goodO none s.ords && (goodB s.ords s.nb none s.bats && (s.ords.all (heldIn s.bats) && effsOk s.ords s.bats s.effs s.nk))))
/-- What a desk begins with. -/
def newOk (w m : Cp) (limit : Int) (doors : List Int) : Bool := (doorsE doors == 0) && (capsB w && (capsB m && limitB limit))
def newV (w m : Cp) (limit : Int) (doors : List Int) : St := if newOk w m limit doors then ⟨w, m, limit, doorsV doors, 0, 1, 1, [], [], []⟩ else noSt
def newE (w m : Cp) (limit : Int) (doors : List Int) : Int := if newOk w m limit doors then 0 else 151
theorem all_drop {α : Type} (P : α → Bool) (l : List α) (k : Nat) (h : k < l.length) : (l.drop k).all P = (P l[k] && (l.drop (k + 1)).all P) := by
  rw [List.drop_eq_getElem_cons h, List.all_cons]
theorem prevO_succ {l : List Od} {k : Nat} (h : k < l.length) : prevO l (k + 1) = some l[k].id := by simp [prevO, h]
theorem prevB_succ {l : List Bt} {k : Nat} (h : k < l.length) : prevB l (k + 1) = some l[k].id := by simp [prevB, h]
theorem goodO_drop (l : List Od) (k : Nat) (h : k < l.length) : goodO (prevO l k) (l.drop k) = (rightO l[k] && (aheadO (prevO l k) l[k].id && goodO (prevO l (k + 1)) (l.drop (k + 1)))) := by
  rw [List.drop_eq_getElem_cons h, prevO_succ h]; rfl
theorem goodB_drop (os : List Od) (nb : Int) (l : List Bt) (k : Nat) (h : k < l.length) : goodB os nb (prevB l k) (l.drop k) = (batchOk os nb l[k] && (aheadB (prevB l k) l[k].id && goodB os nb (prevB l (k + 1)) (l.drop (k + 1)))) := by
  rw [List.drop_eq_getElem_cons h, prevB_succ h]; rfl
end

/- StLay: Orders, batches and states as values: how they lie, whole loads, stores and new variables told at once. -/
section
set_option maxRecDepth 100000
open Go.RowKit Go.ChangeShapes Go.WideShapes Go.ChangeAt

/-- An order, and where its lines lie. -/
structure OdR where
  o : Od
  a : Option Addr
  c : Nat
/-- A batch, and where its members lie. -/
structure BtR where
  b : Bt
  a : Option Addr
  c : Nat
def noOdR : OdR := ⟨noOd, none, 0⟩
def noBtR : BtR := ⟨noBt, none, 0⟩
def orV (r : OdR) : Value := odV r.a r.c r.o
def baV (r : BtR) : Value := btV r.a r.c r.b
def orC (r : OdR) : Array Value := odC r.a r.c r.o
def baC (r : BtR) : Array Value := btC r.a r.c r.b
def orL (r : OdR) : List Value := [.string r.o.id, .slice r.a r.o.ls.length r.c, .string r.o.car, .string r.o.zone, .string r.o.serv, .int .i64 r.o.total, .int .i64 r.o.phase, .bool r.o.given, .int .i64 r.o.ref, .int .i64 r.o.batch]
def baL (r : BtR) : List Value := [.int .i64 r.b.id, .int .i64 r.b.wt, .int .i64 r.b.born, .int .i64 r.b.kind, .int .i64 r.b.phase, .string r.b.car, .string r.b.zone, .string r.b.serv, .slice r.a r.b.mem.length r.c]
def LO : Lay OdR := ⟨orL, 10, 93, 33, orV noOdR, 128⟩
def LB : Lay BtR := ⟨baL, 9, 98, 34, baV noBtR, 112⟩
theorem LO_ok : LO.Ok where
  len := fun _ => rfl
  one := fun x v h => by
    simp only [LO, orL, List.mem_cons, List.not_mem_nil, or_false] at h
    rcases h with rfl | rfl | rfl | rfl | rfl | rfl | rfl | rfl | rfl | rfl <;> rfl
  und := Tryz.underlying33
  info := by kernel_rfl
  zs := rfl
  pos := by decide
  few := by decide
  agg := fun W => by show (isAgg 93).run Tryz.prog W = _; kernel_rfl
theorem LB_ok : LB.Ok where
  len := fun _ => rfl
  one := fun x v h => by
    simp only [LB, baL, List.mem_cons, List.not_mem_nil, or_false] at h
    rcases h with rfl | rfl | rfl | rfl | rfl | rfl | rfl | rfl | rfl <;> rfl
  und := Tryz.underlying34
  info := by kernel_rfl
  zs := rfl
  pos := by decide
  few := by decide
  agg := fun W => by show (isAgg 98).run Tryz.prog W = _; kernel_rfl

/-- A state, and where its lists lie. -/
structure StR where
  waves : Cp
  mans : Cp
  limit : Int
  doors : List Int
  da : Option Addr
  dc : Nat
  now : Int
  nb : Int
  nk : Int
  ords : List OdR
  oa : Option Addr
  oc : Nat
  bats : List BtR
  ba : Option Addr
  bc : Nat
  effs : List Ef
  ea : Option Addr
  ec : Nat
def odsOf (l : List OdR) : List Od := l.map (·.o)
def btsOf (l : List BtR) : List Bt := l.map (·.b)
def StR.st (r : StR) : St := ⟨r.waves, r.mans, r.limit, r.doors, r.now, r.nb, r.nk, odsOf r.ords, btsOf r.bats, r.effs⟩
def noStR : StR := ⟨⟨0, 0⟩, ⟨0, 0⟩, 0, [], none, 0, 0, 0, 0, [], none, 0, [], none, 0, [], none, 0⟩
def stC (r : StR) : Array Value := #[.int .i64 r.waves.count, .int .i64 r.waves.wt, .int .i64 r.mans.count, .int .i64 r.mans.wt, .int .i64 r.limit, .slice r.da r.doors.length r.dc, .int .i64 r.now, .int .i64 r.nb, .int .i64 r.nk, .slice r.oa r.ords.length r.oc, .slice r.ba r.bats.length r.bc, .slice r.ea r.effs.length r.ec]
def stV (r : StR) : Value := .agg (stC r)
def cpC (c : Cp) : Array Value := #[.int .i64 c.count, .int .i64 c.wt]
def grC (a b c : ByteArray) : Array Value := #[.string a, .string b, .string c]
def grV (a b c : ByteArray) : Value := .agg (grC a b c)

theorem OdP.none (w : World) (a : Option Addr) (cap : Nat) : OdP w a cap noOd := ⟨LnsP.nil _ _ _, by decide, by decide, by decide, by decide, by decide⟩
theorem BtP.none (w : World) (a : Option Addr) (cap : Nat) : BtP w a cap noBt := ⟨⟨by simp [noBt], by simp [noBt], fun h => absurd rfl h⟩, by simp [noBt], by decide, by decide, by decide⟩
/-- A list of orders lies there, and what is in each. -/
structure OrsP (w : World) (a : Option Addr) (cap : Nat) (l : List OdR) : Prop where
  sl : SlP LO w a cap l
  each : ∀ r ∈ l, OdP w r.a r.c r.o
structure BasP (w : World) (a : Option Addr) (cap : Nat) (l : List BtR) : Prop where
  sl : SlP LB w a cap l
  each : ∀ r ∈ l, BtP w r.a r.c r.b
structure EfsP (w : World) (a : Option Addr) (cap : Nat) (l : List Ef) : Prop where
  sl : SlP LE w a cap l
  each : ∀ e ∈ l, e.order.size ≤ maxLen
theorem OrsP.below {w w' : World} {a cap l} (h : OrsP w a cap l) (b : Below w.heap.size w w') : OrsP w' a cap l := ⟨h.sl.below b, fun r hr => (h.each r hr).below b⟩
theorem BasP.below {w w' : World} {a cap l} (h : BasP w a cap l) (b : Below w.heap.size w w') : BasP w' a cap l := ⟨h.sl.below b, fun r hr => (h.each r hr).below b⟩
theorem EfsP.below {w w' : World} {a cap l} (h : EfsP w a cap l) (b : Below w.heap.size w w') : EfsP w' a cap l := ⟨h.sl.below b, h.each⟩
theorem OrsP.nil (w : World) (a : Option Addr) (cap : Nat) : OrsP w a cap [] := ⟨SlP.nil _ _ _, by simp⟩
theorem BasP.nil (w : World) (a : Option Addr) (cap : Nat) : BasP w a cap [] := ⟨SlP.nil _ _ _, by simp⟩
theorem EfsP.nil (w : World) (a : Option Addr) (cap : Nat) : EfsP w a cap [] := ⟨SlP.nil _ _ _, by simp⟩
/-- A state lies there. -/
structure StP (w : World) (r : StR) : Prop where
  doors : IntsP w r.da r.dc r.doors
  dlen : r.doors.length ≤ maxLen
  ords : OrsP w r.oa r.oc r.ords
  bats : BasP w r.ba r.bc r.bats
  effs : EfsP w r.ea r.ec r.effs
theorem StP.below {w w' : World} {r : StR} (h : StP w r) (b : Below w.heap.size w w') : StP w' r := ⟨h.doors.below b, h.dlen, h.ords.below b, h.bats.below b, h.effs.below b⟩
theorem StP.none (w : World) : StP w noStR := ⟨IntsP.nil _ _ _, by decide, OrsP.nil _ _ _, BasP.nil _ _ _, EfsP.nil _ _ _⟩

section
variable (ev : Operand → Value) (d : Option Tmp) (ty : TypeId) (pos : String) (af : Array Edge) (gd : Option (Nat × Bool)) (w : World)
theorem ldOr (x : Operand) : (execOp ev ⟨d, .load 93 x, ty, pos, af, gd⟩).run Tryz.prog w = LdX 93 (ev x) w := rfl
theorem stOr (x y : Operand) : (execOp ev ⟨d, .store 93 x y, ty, pos, af, gd⟩).run Tryz.prog w = StX 93 (ev x) (ev y) w := rfl
theorem alOr : (execOp ev ⟨d, .alloc 93, ty, pos, af, gd⟩).run Tryz.prog w = AlX 93 w := rfl
theorem bxOr (x : Operand) : (execOp ev ⟨d, .box 93 x, ty, pos, af, gd⟩).run Tryz.prog w = BxX 93 (ev x) w := rfl
theorem ldBa (x : Operand) : (execOp ev ⟨d, .load 98 x, ty, pos, af, gd⟩).run Tryz.prog w = LdX 98 (ev x) w := rfl
theorem stBa (x y : Operand) : (execOp ev ⟨d, .store 98 x y, ty, pos, af, gd⟩).run Tryz.prog w = StX 98 (ev x) (ev y) w := rfl
theorem alBa : (execOp ev ⟨d, .alloc 98, ty, pos, af, gd⟩).run Tryz.prog w = AlX 98 w := rfl
theorem bxBa (x : Operand) : (execOp ev ⟨d, .box 98 x, ty, pos, af, gd⟩).run Tryz.prog w = BxX 98 (ev x) w := rfl
theorem ldSt (x : Operand) : (execOp ev ⟨d, .load 37 x, ty, pos, af, gd⟩).run Tryz.prog w = LdX 37 (ev x) w := rfl
theorem stSt (x y : Operand) : (execOp ev ⟨d, .store 37 x y, ty, pos, af, gd⟩).run Tryz.prog w = StX 37 (ev x) (ev y) w := rfl
theorem alSt : (execOp ev ⟨d, .alloc 37, ty, pos, af, gd⟩).run Tryz.prog w = AlX 37 w := rfl
theorem bxSt (x : Operand) : (execOp ev ⟨d, .box 37 x, ty, pos, af, gd⟩).run Tryz.prog w = BxX 37 (ev x) w := rfl
theorem ldCa (x : Operand) : (execOp ev ⟨d, .load 31 x, ty, pos, af, gd⟩).run Tryz.prog w = LdX 31 (ev x) w := rfl
theorem bxCa (x : Operand) : (execOp ev ⟨d, .box 31 x, ty, pos, af, gd⟩).run Tryz.prog w = BxX 31 (ev x) w := rfl
theorem ldGr (x : Operand) : (execOp ev ⟨d, .load 24 x, ty, pos, af, gd⟩).run Tryz.prog w = LdX 24 (ev x) w := rfl
theorem bxGr (x : Operand) : (execOp ev ⟨d, .box 24 x, ty, pos, af, gd⟩).run Tryz.prog w = BxX 24 (ev x) w := rfl
theorem bdOr (ps : Array (Nat × Operand)) : (execOp ev ⟨d, .build 93 ps, ty, pos, af, gd⟩).run Tryz.prog w = BdX 93 (ps.map fun (i, x) => (i, ev x)) w := rfl
theorem bdBa (ps : Array (Nat × Operand)) : (execOp ev ⟨d, .build 98 ps, ty, pos, af, gd⟩).run Tryz.prog w = BdX 98 (ps.map fun (i, x) => (i, ev x)) w := rfl
theorem bdSt (ps : Array (Nat × Operand)) : (execOp ev ⟨d, .build 37 ps, ty, pos, af, gd⟩).run Tryz.prog w = BdX 37 (ps.map fun (i, x) => (i, ev x)) w := rfl
theorem bd_or : BdX 93 #[] w = .ok (.value (orV noOdR)) w := by kernel_rfl
theorem bd_ba : BdX 98 #[] w = .ok (.value (baV noBtR)) w := by kernel_rfl
theorem bd_sta : BdX 37 #[] w = .ok (.value (stV noStR)) w := by kernel_rfl
theorem zeroOr (W : World) : (zeroValue 93).run Tryz.prog W = .ok (.agg (orC noOdR)) W := by kernel_rfl
theorem zeroBa (W : World) : (zeroValue 98).run Tryz.prog W = .ok (.agg (baC noBtR)) W := by kernel_rfl
theorem zeroSt (W : World) : (zeroValue 37).run Tryz.prog W = .ok (.agg (stC noStR)) W := by kernel_rfl
theorem al_or : AlX 93 w = .ok (.value (.pointer (some ⟨w.heap.size, 0, none⟩))) (w.alloc (.cells (orC noOdR) 93)) := al_any _ _ w zeroOr
theorem al_ba : AlX 98 w = .ok (.value (.pointer (some ⟨w.heap.size, 0, none⟩))) (w.alloc (.cells (baC noBtR) 98)) := al_any _ _ w zeroBa
theorem al_sta : AlX 37 w = .ok (.value (.pointer (some ⟨w.heap.size, 0, none⟩))) (w.alloc (.cells (stC noStR) 37)) := al_any _ _ w zeroSt
theorem bx_or (r : OdR) : BxX 93 (orV r) w = .ok (.value (.pointer (some ⟨w.heap.size, 0, none⟩))) (w.alloc (.cells (orC r) 93)) := bx_any _ _ w
theorem bx_ba (r : BtR) : BxX 98 (baV r) w = .ok (.value (.pointer (some ⟨w.heap.size, 0, none⟩))) (w.alloc (.cells (baC r) 98)) := bx_any _ _ w
theorem bx_sta (r : StR) : BxX 37 (stV r) w = .ok (.value (.pointer (some ⟨w.heap.size, 0, none⟩))) (w.alloc (.cells (stC r) 37)) := bx_any _ _ w
theorem bx_ca (c : Cp) : BxX 31 (cpV c) w = .ok (.value (.pointer (some ⟨w.heap.size, 0, none⟩))) (w.alloc (.cells (cpC c) 31)) := bx_any _ _ w
theorem bx_gr (a b c : ByteArray) : BxX 24 (grV a b c) w = .ok (.value (.pointer (some ⟨w.heap.size, 0, none⟩))) (w.alloc (.cells (grC a b c) 24)) := bx_any _ _ w
end

theorem size10 (r : OdR) : (Tryz.prog.info? 93).map (·.size) = some (orC r).size := by
  show _ = some 10
  kernel_rfl
theorem size9B (r : BtR) : (Tryz.prog.info? 98).map (·.size) = some (baC r).size := by
  show _ = some 9
  kernel_rfl
theorem size12 (r : StR) : (Tryz.prog.info? 37).map (·.size) = some (stC r).size := by
  show _ = some 12
  kernel_rfl
theorem load10 {W : World} {g : Nat} {r : OdR} (h : Row W g 93 (orC r)) : (loadVar 93 ⟨g, 0, none⟩).run Tryz.prog W = .ok (.agg (orC r)) W :=
  run_loadVar_row (P := Tryz.prog) W g 93 93 _ (0, 0) _ h Tryz.underlying93 rfl (size10 r)
theorem load9B {W : World} {g : Nat} {r : BtR} (h : Row W g 98 (baC r)) : (loadVar 98 ⟨g, 0, none⟩).run Tryz.prog W = .ok (.agg (baC r)) W :=
  run_loadVar_row (P := Tryz.prog) W g 98 98 _ (0, 0) _ h Tryz.underlying98 rfl (size9B r)
theorem load12 {W : World} {g : Nat} {r : StR} (h : Row W g 37 (stC r)) : (loadVar 37 ⟨g, 0, none⟩).run Tryz.prog W = .ok (.agg (stC r)) W :=
  run_loadVar_row (P := Tryz.prog) W g 37 37 _ (0, 0) _ h Tryz.underlying37 rfl (size12 r)
theorem ld_or {W : World} {g : Nat} {r : OdR} (h : Row W g 93 (orC r)) : LdX 93 (.pointer (some ⟨g, 0, none⟩)) W = .ok (.value (orV r)) W := by
  simp only [LdX, Instr.loadAt, Instr.sureAddr, Sem.run_bind, Sem.run_pure, Result.andThen_ok, load10 h]
  rfl
theorem ld_ba {W : World} {g : Nat} {r : BtR} (h : Row W g 98 (baC r)) : LdX 98 (.pointer (some ⟨g, 0, none⟩)) W = .ok (.value (baV r)) W := by
  simp only [LdX, Instr.loadAt, Instr.sureAddr, Sem.run_bind, Sem.run_pure, Result.andThen_ok, load9B h]
  rfl
theorem ld_sta {W : World} {g : Nat} {r : StR} (h : Row W g 37 (stC r)) : LdX 37 (.pointer (some ⟨g, 0, none⟩)) W = .ok (.value (stV r)) W := by
  simp only [LdX, Instr.loadAt, Instr.sureAddr, Sem.run_bind, Sem.run_pure, Result.andThen_ok, load12 h]
  rfl
theorem st_or {W : World} {g : Nat} {o : OdR} (h : Row W g 93 (orC o)) (r : OdR) : StX 93 (.pointer (some ⟨g, 0, none⟩)) (orV r) W = .ok .skip (W.setRow g (orC r)) := by
  have := run_storeVar_row (P := Tryz.prog) W g 93 93 (orC o) (orC r) h (size10 r) rfl (by simp [orC, odC, Value.oneCell'])
  simp only [StX, Instr.storeAt, Instr.sureAddr, Sem.run_bind, Sem.run_pure, Result.andThen_ok, orV]
  rw [show odV r.a r.c r.o = Value.agg (orC r) from rfl, this]
  rfl
theorem st_ba {W : World} {g : Nat} {o : BtR} (h : Row W g 98 (baC o)) (r : BtR) : StX 98 (.pointer (some ⟨g, 0, none⟩)) (baV r) W = .ok .skip (W.setRow g (baC r)) := by
  have := run_storeVar_row (P := Tryz.prog) W g 98 98 (baC o) (baC r) h (size9B r) rfl (by simp [baC, btC, Value.oneCell'])
  simp only [StX, Instr.storeAt, Instr.sureAddr, Sem.run_bind, Sem.run_pure, Result.andThen_ok, baV]
  rw [show btV r.a r.c r.b = Value.agg (baC r) from rfl, this]
  rfl
theorem st_sta {W : World} {g : Nat} {o : StR} (h : Row W g 37 (stC o)) (r : StR) : StX 37 (.pointer (some ⟨g, 0, none⟩)) (stV r) W = .ok .skip (W.setRow g (stC r)) := by
  have := run_storeVar_row (P := Tryz.prog) W g 37 37 (stC o) (stC r) h (size12 r) rfl (by simp [stC, Value.oneCell'])
  simp only [StX, Instr.storeAt, Instr.sureAddr, Sem.run_bind, Sem.run_pure, Result.andThen_ok, stV]
  rw [this]
  rfl
theorem st_ornew (W : World) (r : OdR) : StX 93 (.pointer (some ⟨W.heap.size, 0, none⟩)) (orV r) (W.alloc (.cells (orC noOdR) 93)) = .ok .skip (W.alloc (.cells (orC r) 93)) := by
  rw [st_or (Row.new W (orC noOdR) 93) r, alloc_setRow]
theorem st_banew (W : World) (r : BtR) : StX 98 (.pointer (some ⟨W.heap.size, 0, none⟩)) (baV r) (W.alloc (.cells (baC noBtR) 98)) = .ok .skip (W.alloc (.cells (baC r) 98)) := by
  rw [st_ba (Row.new W (baC noBtR) 98) r, alloc_setRow]
theorem st_stnew (W : World) (r : StR) : StX 37 (.pointer (some ⟨W.heap.size, 0, none⟩)) (stV r) (W.alloc (.cells (stC noStR) 37)) = .ok .skip (W.alloc (.cells (stC r) 37)) := by
  rw [st_sta (Row.new W (stC noStR) 37) r, alloc_setRow]
/-- A whole part of a variable: the caps, the group. -/
theorem aggCa (W : World) : (isAgg 31).run Tryz.prog W = .ok true W := by kernel_rfl
theorem sizeCa (W : World) : (sizeOf 31).run Tryz.prog W = .ok 2 W := by kernel_rfl
theorem aggGr (W : World) : (isAgg 24).run Tryz.prog W = .ok true W := by kernel_rfl
theorem sizeGr (W : World) : (sizeOf 24).run Tryz.prog W = .ok 3 W := by kernel_rfl
theorem ld_caAt {W : World} {g o : Nat} {c : Cp} (h0 : W.cell? ⟨g, o, none⟩ = some (.int .i64 c.count)) (h1 : W.cell? ⟨g, o + 1, none⟩ = some (.int .i64 c.wt)) : LdX 31 (.pointer (some ⟨g, o, none⟩)) W = .ok (.value (cpV c)) W :=
  ld_cells 31 [.int .i64 c.count, .int .i64 c.wt] (fun j v hj => by
    match j, hj with
    | 0, hj => injection hj with hj; subst hj; exact h0
    | 1, hj => injection hj with hj; subst hj; exact h1
    | j + 2, hj => cases hj) aggCa sizeCa
theorem ld_grAt {W : World} {g o : Nat} {a b c : ByteArray} (h0 : W.cell? ⟨g, o, none⟩ = some (.string a)) (h1 : W.cell? ⟨g, o + 1, none⟩ = some (.string b)) (h2 : W.cell? ⟨g, o + 2, none⟩ = some (.string c)) : LdX 24 (.pointer (some ⟨g, o, none⟩)) W = .ok (.value (grV a b c)) W :=
  ld_cells 24 [.string a, .string b, .string c] (fun j v hj => by
    match j, hj with
    | 0, hj => injection hj with hj; subst hj; exact h0
    | 1, hj => injection hj with hj; subst hj; exact h1
    | 2, hj => injection hj with hj; subst hj; exact h2
    | j + 3, hj => cases hj) aggGr sizeGr

/-- One of a list: whole. -/
theorem OrsP.ld {W : World} {a : Option Addr} {cap : Nat} {l : List OdR} (h : OrsP W a cap l) (j : Nat) (hj : j < l.length) :
    ∃ b o, a = some ⟨b, o, none⟩ ∧ b < W.heap.size ∧ W.cell? ⟨b, o + j * 10, none⟩ = some (.string l[j].o.id) ∧ LdX 93 (.pointer (some ⟨b, o + j * 10, none⟩)) W = .ok (.value (orV l[j])) W ∧ OdP W l[j].a l[j].c l[j].o := by
  obtain ⟨b, o, e, hb, hc, hl⟩ := h.sl.at LO_ok j hj
  exact ⟨b, o, e, hb, hc 0 _ rfl, hl, h.each _ (List.getElem_mem hj)⟩
theorem BasP.ld {W : World} {a : Option Addr} {cap : Nat} {l : List BtR} (h : BasP W a cap l) (j : Nat) (hj : j < l.length) :
    ∃ b o, a = some ⟨b, o, none⟩ ∧ b < W.heap.size ∧ W.cell? ⟨b, o + j * 9, none⟩ = some (.int .i64 l[j].b.id) ∧ LdX 98 (.pointer (some ⟨b, o + j * 9, none⟩)) W = .ok (.value (baV l[j])) W ∧ BtP W l[j].a l[j].c l[j].b := by
  obtain ⟨b, o, e, hb, hc, hl⟩ := h.sl.at LB_ok j hj
  exact ⟨b, o, e, hb, hc 0 _ rfl, hl, h.each _ (List.getElem_mem hj)⟩
theorem Row.o {W : World} {g : Nat} {r : OdR} (h : Row W g 93 (orC r)) :
    (W.cell? ⟨g, 0, none⟩ = some (.string r.o.id) ∧ W.cell? ⟨g, 1, none⟩ = some (.slice r.a r.o.ls.length r.c) ∧ W.cell? ⟨g, 2, none⟩ = some (.string r.o.car) ∧ W.cell? ⟨g, 3, none⟩ = some (.string r.o.zone) ∧ W.cell? ⟨g, 4, none⟩ = some (.string r.o.serv)) ∧
    W.cell? ⟨g, 5, none⟩ = some (.int .i64 r.o.total) ∧ W.cell? ⟨g, 6, none⟩ = some (.int .i64 r.o.phase) ∧ W.cell? ⟨g, 7, none⟩ = some (.bool r.o.given) ∧ W.cell? ⟨g, 8, none⟩ = some (.int .i64 r.o.ref) ∧ W.cell? ⟨g, 9, none⟩ = some (.int .i64 r.o.batch) :=
  ⟨⟨h.cell 0, h.cell 1, h.cell 2, h.cell 3, h.cell 4⟩, h.cell 5, h.cell 6, h.cell 7, h.cell 8, h.cell 9⟩
theorem Row.b {W : World} {g : Nat} {r : BtR} (h : Row W g 98 (baC r)) :
    (W.cell? ⟨g, 0, none⟩ = some (.int .i64 r.b.id) ∧ W.cell? ⟨g, 1, none⟩ = some (.int .i64 r.b.wt) ∧ W.cell? ⟨g, 2, none⟩ = some (.int .i64 r.b.born) ∧ W.cell? ⟨g, 3, none⟩ = some (.int .i64 r.b.kind) ∧ W.cell? ⟨g, 4, none⟩ = some (.int .i64 r.b.phase)) ∧
    W.cell? ⟨g, 5, none⟩ = some (.string r.b.car) ∧ W.cell? ⟨g, 6, none⟩ = some (.string r.b.zone) ∧ W.cell? ⟨g, 7, none⟩ = some (.string r.b.serv) ∧ W.cell? ⟨g, 8, none⟩ = some (.slice r.a r.b.mem.length r.c) :=
  ⟨⟨h.cell 0, h.cell 1, h.cell 2, h.cell 3, h.cell 4⟩, h.cell 5, h.cell 6, h.cell 7, h.cell 8⟩
theorem Row.st {W : World} {g : Nat} {r : StR} (h : Row W g 37 (stC r)) :
    (W.cell? ⟨g, 0, none⟩ = some (.int .i64 r.waves.count) ∧ W.cell? ⟨g, 1, none⟩ = some (.int .i64 r.waves.wt) ∧ W.cell? ⟨g, 2, none⟩ = some (.int .i64 r.mans.count) ∧ W.cell? ⟨g, 3, none⟩ = some (.int .i64 r.mans.wt) ∧ W.cell? ⟨g, 4, none⟩ = some (.int .i64 r.limit) ∧ W.cell? ⟨g, 5, none⟩ = some (.slice r.da r.doors.length r.dc)) ∧
    W.cell? ⟨g, 6, none⟩ = some (.int .i64 r.now) ∧ W.cell? ⟨g, 7, none⟩ = some (.int .i64 r.nb) ∧ W.cell? ⟨g, 8, none⟩ = some (.int .i64 r.nk) ∧ W.cell? ⟨g, 9, none⟩ = some (.slice r.oa r.ords.length r.oc) ∧ W.cell? ⟨g, 10, none⟩ = some (.slice r.ba r.bats.length r.bc) ∧ W.cell? ⟨g, 11, none⟩ = some (.slice r.ea r.effs.length r.ec) :=
  ⟨⟨h.cell 0, h.cell 1, h.cell 2, h.cell 3, h.cell 4, h.cell 5⟩, h.cell 6, h.cell 7, h.cell 8, h.cell 9, h.cell 10, h.cell 11⟩

theorem EfsP.ld {W : World} {a : Option Addr} {cap : Nat} {l : List Ef} (h : EfsP W a cap l) (j : Nat) (hj : j < l.length) :
    ∃ b o, a = some ⟨b, o, none⟩ ∧ b < W.heap.size ∧ LdX 138 (.pointer (some ⟨b, o + j * 6, none⟩)) W = .ok (.value (efV l[j])) W ∧ l[j].order.size ≤ maxLen := by
  obtain ⟨b, o, e, hb, _, hl⟩ := h.sl.at LE_ok j hj
  exact ⟨b, o, e, hb, hl, h.each _ (List.getElem_mem hj)⟩
theorem Row.e {W : World} {g : Nat} {e : Ef} (h : Row W g 138 (efC e)) :
    (W.cell? ⟨g, 0, none⟩ = some (.int .i64 e.key) ∧ W.cell? ⟨g, 1, none⟩ = some (.int .i64 e.batch) ∧ W.cell? ⟨g, 2, none⟩ = some (.int .i64 e.due)) ∧ W.cell? ⟨g, 3, none⟩ = some (.int .i64 e.kind) ∧ W.cell? ⟨g, 4, none⟩ = some (.int .i64 e.tries) ∧ W.cell? ⟨g, 5, none⟩ = some (.string e.order) :=
  ⟨⟨h.cell 0, h.cell 1, h.cell 2⟩, h.cell 3, h.cell 4, h.cell 5⟩
end

/- StRef: What the document's Order, Batch and Weight of layer 15 answer. -/
section
set_option maxRecDepth 100000
open Go.RowKit Go.ChangeShapes Go.WideShapes Go.ChangeAt
attribute [local go_sem ↓] ldOr stOr alOr bxOr bdOr ldBa stBa alBa bxBa bdBa ldSt stSt alSt bxSt bdSt
attribute [local go_sem] al_or bx_or st_ornew bd_or al_ba bx_ba st_banew bd_ba al_sta bx_sta st_stnew bd_sta

/-- The state that came in, in a variable, and a result's variable behind it. -/
structure FoI (w : World) (r : StR) (T : TypeId) (cs : Array Value) (W : World) : Prop where
  box : Row W w.heap.size 37 (stC r)
  res : Row W (w.heap.size + 1) T cs
  st : StP W r
  low : Below w.heap.size w W
theorem FoI.below {w W W' : World} {r : StR} {T : TypeId} {cs : Array Value} (h : FoI w r T cs W) (b : Below W.heap.size W W') : FoI w r T cs W' := ⟨h.box.below b, h.res.below b, h.st.below b, h.low.trans (b.mono h.low.size)⟩
theorem FoI.more {w W : World} {r : StR} {T : TypeId} {cs : Array Value} (h : FoI w r T cs W) (o : Obj) : FoI w r T cs (W.alloc o) := h.below ((Below.refl _ _).alloc (Nat.le_refl _) o)
theorem FoI.begin (w : World) (r : StR) (h : StP w r) (T : TypeId) (cs : Array Value) : FoI w r T cs ((w.alloc (.cells (stC r) 37)).alloc (.cells cs T)) := by
  have b : Below w.heap.size w ((w.alloc (.cells (stC r) 37)).alloc (.cells cs T)) := ((Below.refl _ _).alloc (Nat.le_refl _) _).alloc (by simp) _
  refine ⟨(Row.new w (stC r) _).more _, ?_, h.below b, b⟩
  have := Row.new (w.alloc (.cells (stC r) 37)) cs T
  rwa [show (w.alloc (.cells (stC r) 37)).heap.size = w.heap.size + 1 by simp] at this
theorem FoI.done {w W : World} {r : StR} {T : TypeId} {cs : Array Value} (h : FoI w r T cs W) (z : Array Value) : Below w.heap.size w (W.setRow (w.heap.size + 1) z) := Below.row h.low (by omega) _

theorem findO_drop (l : List OdR) (id : ByteArray) (k : Nat) (h : k < l.length) : findO (odsOf (l.drop k)) id = if l[k].o.id.toList == id.toList then some l[k].o else findO (odsOf (l.drop (k + 1))) id := by
  rw [List.drop_eq_getElem_cons h]
  simp only [odsOf, List.map_cons, findO, List.find?_cons]
  cases (l[k].o.id.toList == id.toList) <;> rfl
theorem findB_drop (l : List BtR) (id : Int) (k : Nat) (h : k < l.length) : findB (btsOf (l.drop k)) id = if l[k].b.id == id then some l[k].b else findB (btsOf (l.drop (k + 1))) id := by
  rw [List.drop_eq_getElem_cons h]
  simp only [btsOf, List.map_cons, findB, List.find?_cons]
  cases (l[k].b.id == id) <;> rfl

theorem weighS_take (l : List Od) (ids : List ByteArray) (k : Nat) (h : k < ids.length) : weighS l (ids.take (k + 1)) = weighS l (ids.take k) + weightV (orderV l ids[k]).ls := by
  rw [List.take_succ_eq_append_getElem h, weighS_append, weighS_one]

end

/- StEq: Groups and caps held against each other. -/
section
set_option maxRecDepth 100000
open Go.RowKit Go.ChangeShapes Go.WideShapes Go.ChangeAt

def capsEq (x y : Cp) : Bool := x.count == y.count && x.wt == y.wt
theorem capsEq_iff (x y : Cp) : capsEq x y = true ↔ x = y := by
  obtain ⟨a, b⟩ := x
  obtain ⟨c, d⟩ := y
  simp [capsEq]
section
variable (ev : Operand → Value) (d : Option Tmp) (ty : TypeId) (pos : String) (af : Array Edge) (gd : Option (Nat × Bool)) (w : World)
theorem eqGr (op : BinOp) (x y : Operand) (z : TypeId) : (execOp ev ⟨d, .binOp op 24 x y z, ty, pos, af, gd⟩).run Tryz.prog w = EqX op 24 x y (ev x) (ev y) w := rfl
theorem eqCa (op : BinOp) (x y : Operand) (z : TypeId) : (execOp ev ⟨d, .binOp op 31 x y z, ty, pos, af, gd⟩).run Tryz.prog w = EqX op 31 x y (ev x) (ev y) w := rfl
end
theorem guardGr : Tryz.prog.eqGuardType Tryz.prog.depth 24 = false := by kernel_rfl
theorem guardCa : Tryz.prog.eqGuardType Tryz.prog.depth 31 = false := by kernel_rfl
theorem run_eq_gr (w : World) (a b c x y z : ByteArray) : (Op.equalIn 10000 24 (grV a b c) (grV x y z)).run Tryz.prog w = .ok (sameG a b c x y z) w := by
  have u9 := Tryz.underlying9
  have a9 := Tryz.isAgg9
  have z9 := Tryz.sizeOf9
  have hS : Tryz.prog.underlying 24 = some (.struct (Tryz.prog.fieldsOf 24)) := by kernel_rfl
  have hp : Tryz.prog.stoodInHeld 24 = false := by kernel_rfl
  unfold sameG grV grC
  rw [show (10000 : Nat) = 9999 + 1 from rfl, run_equalIn_agg w 9999 24 _ _ hS hp]
  simp only [Program.fieldsOf, Tryz.underlying24]
  cases h1 : (a.toList == x.toList) <;> cases h2 : (b.toList == y.toList) <;> cases h3 : (c.toList == z.toList) <;> go_simp
theorem run_eq_ca (w : World) (x y : Cp) : (Op.equalIn 10000 31 (cpV x) (cpV y)).run Tryz.prog w = .ok (capsEq x y) w := by
  have hS : Tryz.prog.underlying 31 = some (.struct (Tryz.prog.fieldsOf 31)) := by kernel_rfl
  have hp : Tryz.prog.stoodInHeld 31 = false := by kernel_rfl
  have u2 := Tryz.underlying2
  have u3 := Tryz.underlying3
  unfold capsEq cpV
  rw [show (10000 : Nat) = 9999 + 1 from rfl, run_equalIn_agg w 9999 31 _ _ hS hp]
  simp only [Program.fieldsOf, Tryz.underlying31]
  cases h1 : (x.count == y.count) <;> cases h2 : (x.wt == y.wt) <;> go_simp
theorem ne_gr (w : World) (a b c x y z : ByteArray) (p q : Operand) : EqX .neq 24 p q (grV a b c) (grV x y z) w = .ok (.value (.bool (!(sameG a b c x y z)))) w := by
  have h := run_eq_gr w a b c x y z
  unfold grV at *
  simp only [EqX, Sem.run_bind, Sem.run_pure, Result.andThen_ok, run_eqGuard_agg w .neq 24 p q (grC a b c) (grC x y z) guardGr, run_neq_struct, h]
theorem eq_grX (w : World) (a b c x y z : ByteArray) (p q : Operand) : EqX .eql 24 p q (grV a b c) (grV x y z) w = .ok (.value (.bool (sameG a b c x y z))) w := by
  have h := run_eq_gr w a b c x y z
  unfold grV at *
  simp only [EqX, Sem.run_bind, Sem.run_pure, Result.andThen_ok, run_eqGuard_agg w .eql 24 p q (grC a b c) (grC x y z) guardGr, run_eql_struct, h]
theorem ne_ca (w : World) (x y : Cp) (p q : Operand) : EqX .neq 31 p q (cpV x) (cpV y) w = .ok (.value (.bool (!(capsEq x y)))) w := by
  have h := run_eq_ca w x y
  have e : ∀ c : Cp, cpV c = .agg (cpC c) := fun _ => rfl
  rw [e, e] at *
  simp only [EqX, Sem.run_bind, Sem.run_pure, Result.andThen_ok, run_eqGuard_agg w .neq 31 p q (cpC x) (cpC y) guardCa, run_neq_struct, h]
theorem eq_caX (w : World) (x y : Cp) (p q : Operand) : EqX .eql 31 p q (cpV x) (cpV y) w = .ok (.value (.bool (capsEq x y))) w := by
  have h := run_eq_ca w x y
  have e : ∀ c : Cp, cpV c = .agg (cpC c) := fun _ => rfl
  rw [e, e] at *
  simp only [EqX, Sem.run_bind, Sem.run_pure, Result.andThen_ok, run_eqGuard_agg w .eql 31 p q (cpC x) (cpC y) guardCa, run_eql_struct, h]
end

/- StRef2: What the document's Inside, asks and batchOk of layer 15 answer. -/
section
set_option maxRecDepth 100000
open Go.RowKit Go.ChangeShapes Go.WideShapes Go.ChangeAt
attribute [local go_sem ↓] ldOr stOr alOr bxOr bdOr ldBa stBa alBa bxBa bdBa ldSt stSt alSt bxSt bdSt ldEf stEf alEf bxEf eqEf bdEf bsEf ldGr bxGr eqGr
attribute [local go_sem] al_or bx_or st_ornew bd_or al_ba bx_ba st_banew bd_ba al_sta bx_sta st_stnew bd_sta al_ef bx_ef st_new bd_ef bs_ef bs_ef0 bx_gr ne_gr

end

/- StRef3: What the document's batchOk of layer 15 answers. -/
section
set_option maxRecDepth 100000
open Go.RowKit Go.ChangeShapes Go.WideShapes Go.ChangeAt
attribute [local go_sem ↓] ldOr stOr alOr bxOr bdOr ldBa stBa alBa bxBa bdBa ldSt stSt alSt bxSt bdSt ldEf stEf alEf bxEf eqEf bdEf bsEf ldGr bxGr eqGr
attribute [local go_sem] al_or bx_or st_ornew bd_or al_ba bx_ba st_banew bd_ba al_sta bx_sta st_stnew bd_sta al_ef bx_ef st_new bd_ef bs_ef bs_ef0 bx_gr ne_gr

/-- The state and the batch that came in, each in a variable. -/
structure BkI (w : World) (r : StR) (x : BtR) (W : World) : Prop where
  one : Row W w.heap.size 37 (stC r)
  two : Row W (w.heap.size + 1) 98 (baC x)
  st : StP W r
  bt : BtP W x.a x.c x.b
  low : Below w.heap.size w W
theorem BkI.below {w W W' : World} {r : StR} {x : BtR} (h : BkI w r x W) (b : Below W.heap.size W W') : BkI w r x W' := ⟨h.one.below b, h.two.below b, h.st.below b, h.bt.below b, h.low.trans (b.mono h.low.size)⟩
theorem BkI.more {w W : World} {r : StR} {x : BtR} (h : BkI w r x W) (o : Obj) : BkI w r x (W.alloc o) := h.below ((Below.refl _ _).alloc (Nat.le_refl _) o)
theorem BkI.begin (w : World) (r : StR) (x : BtR) (h : StP w r) (hx : BtP w x.a x.c x.b) : BkI w r x ((w.alloc (.cells (stC r) 37)).alloc (.cells (baC x) 98)) := by
  have F := FoI.begin w r h 98 (baC x)
  exact ⟨F.box, F.res, F.st, hx.below F.low, F.low⟩

theorem rightBt_kind {b : Bt} (h : rightBt b = true) : (b.kind = 1 ∨ b.kind = 2) ∧ (1 ≤ b.phase ∧ b.phase ≤ 3) ∧ b.mem.length ≤ 64 := by
  simp only [rightBt, Bool.and_eq_true, kindB, btPhaseB, membersB, decide_eq_true_eq] at h
  obtain ⟨_, _, _, h1, h2, _, h3, _⟩ := h
  exact ⟨h1, h2, h3⟩

end

/- StRef4: What the document's effectsOk of layer 15 answers. -/
section
set_option maxRecDepth 100000
open Go.RowKit Go.ChangeShapes Go.WideShapes Go.ChangeAt
attribute [local go_sem ↓] ldOr stOr alOr bxOr bdOr ldBa stBa alBa bxBa bdBa ldSt stSt alSt bxSt bdSt ldEf stEf alEf bxEf eqEf bdEf bsEf ldGr bxGr eqGr
attribute [local go_sem] al_or bx_or st_ornew bd_or al_ba bx_ba st_banew bd_ba al_sta bx_sta st_stnew bd_sta al_ef bx_ef st_new bd_ef bs_ef bs_ef0 bx_gr ne_gr

/-- The state that came in, in a variable. -/
structure OnI (w : World) (r : StR) (W : World) : Prop where
  one : Row W w.heap.size 37 (stC r)
  st : StP W r
  low : Below w.heap.size w W
theorem OnI.below {w W W' : World} {r : StR} (h : OnI w r W) (b : Below W.heap.size W W') : OnI w r W' := ⟨h.one.below b, h.st.below b, h.low.trans (b.mono h.low.size)⟩
theorem OnI.more {w W : World} {r : StR} (h : OnI w r W) (o : Obj) : OnI w r (W.alloc o) := h.below ((Below.refl _ _).alloc (Nat.le_refl _) o)
theorem OnI.begin (w : World) (r : StR) (h : StP w r) : OnI w r (w.alloc (.cells (stC r) 37)) := by
  have b : Below w.heap.size w (w.alloc (.cells (stC r) 37)) := (Below.refl _ _).alloc (Nat.le_refl _) _
  exact ⟨Row.new _ _ _, h.below b, b⟩

/-- Their phases and kinds are such as there are. -/
structure Tame (r : StR) : Prop where
  ph : ∀ x ∈ r.ords, 1 ≤ x.o.phase ∧ x.o.phase ≤ 12
  kd : ∀ x ∈ r.bats, x.b.kind = 1 ∨ x.b.kind = 2
  few : r.ords.length ≤ 1000000 ∧ r.bats.length ≤ 1000000 ∧ r.effs.length ≤ 1000000

end

/- StRef5: What the document's Right of layer 15 answers. -/
section
set_option maxRecDepth 100000
open Go.RowKit Go.ChangeShapes Go.WideShapes Go.ChangeAt
attribute [local go_sem ↓] ldOr stOr alOr bxOr bdOr ldBa stBa alBa bxBa bdBa ldSt stSt alSt bxSt bdSt ldEf stEf alEf bxEf eqEf bdEf bsEf ldGr bxGr eqGr ldCa bxCa eqCa
attribute [local go_sem] al_or bx_or st_ornew bd_or al_ba bx_ba st_banew bd_ba al_sta bx_sta st_stnew bd_sta al_ef bx_ef st_new bd_ef bs_ef bs_ef0 bx_gr ne_gr bx_ca ne_ca

theorem limitB_two (n : Int) : limitB n = (decide (1 ≤ n) && decide (n ≤ 100)) := by rw [Bool.eq_iff_iff]; simp [limitB]
theorem goodO_all : ∀ (l : List Od) (p : Option ByteArray), goodO p l = true → ∀ o ∈ l, rightO o = true
  | [], _, _, o, ho => by simp at ho
  | x :: r, p, h, o, ho => by
    simp only [goodO, Bool.and_eq_true] at h
    rcases List.mem_cons.1 ho with rfl | ho
    · exact h.1
    · exact goodO_all r _ h.2.2 o ho
theorem goodB_all (os : List Od) (nb : Int) : ∀ (l : List Bt) (p : Option Int), goodB os nb p l = true → ∀ b ∈ l, batchOk os nb b = true
  | [], _, _, b, hb => by simp at hb
  | x :: r, p, h, b, hb => by
    simp only [goodB, Bool.and_eq_true] at h
    rcases List.mem_cons.1 hb with rfl | hb
    · exact h.1
    · exact goodB_all os nb r _ h.2.2 b hb
theorem rightO_phase {o : Od} (h : rightO o = true) : 1 ≤ o.phase ∧ o.phase ≤ 12 := by
  simp only [rightO, Bool.and_eq_true, sagaB, phaseB, decide_eq_true_eq] at h
  exact h.1.1.2.1
theorem batchOk_right {os : List Od} {nb : Int} {b : Bt} (h : batchOk os nb b = true) : rightBt b = true := by
  simp only [batchOk, Bool.and_eq_true] at h
  exact h.1
theorem tame_of {r : StR} (h1 : goodO none (odsOf r.ords) = true) (h2 : goodB (odsOf r.ords) r.nb none (btsOf r.bats) = true) (hf : r.ords.length ≤ 1000000 ∧ r.bats.length ≤ 1000000 ∧ r.effs.length ≤ 1000000) : Tame r :=
  ⟨fun x hx => rightO_phase (goodO_all _ _ h1 x.o (List.mem_map_of_mem hx)), fun x hx => (rightBt_kind (batchOk_right (goodB_all _ _ _ _ h2 x.b (List.mem_map_of_mem hx)))).1, hf⟩
theorem goodO_raw (l : List OdR) (k : Nat) (h : k < l.length) : goodO (prevO (odsOf l) k) ((odsOf l).drop k) = (rightO l[k].o && (aheadO (prevO (odsOf l) k) l[k].o.id && goodO (prevO (odsOf l) (k + 1)) ((odsOf l).drop (k + 1)))) := by
  have h2 : k < (odsOf l).length := by simpa [odsOf] using h
  have := goodO_drop (odsOf l) k h2
  rw [this]
  simp [odsOf]
theorem goodB_raw (os : List Od) (nb : Int) (l : List BtR) (k : Nat) (h : k < l.length) : goodB os nb (prevB (btsOf l) k) ((btsOf l).drop k) = (batchOk os nb l[k].b && (aheadB (prevB (btsOf l) k) l[k].b.id && goodB os nb (prevB (btsOf l) (k + 1)) ((btsOf l).drop (k + 1)))) := by
  have h2 : k < (btsOf l).length := by simpa [btsOf] using h
  have := goodB_drop os nb (btsOf l) k h2
  rw [this]
  simp [btsOf]
/-- So few that they can be counted. -/
def FewS (r : StR) : Prop := r.ords.length ≤ 1000000 ∧ r.bats.length ≤ 1000000 ∧ r.effs.length ≤ 1000000

end
end Go.Proofs.YtfmpibmhhfmajaaGreatDoor
