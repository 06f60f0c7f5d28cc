/- A batch in a variable, with members of a call's own: what stays, what is put. -/
import Derived.Test.YtieoihmndpkdoaaBtRules
namespace Go.Proofs.Ytieoihmndpkdoaa
set_option maxRecDepth 100000
open Go.RowKit Go.ChangeShapes Go.WideShapes Go.ChangeAt

/-- A batch in a variable, its members in memory of a call's own from block base on. -/
structure Vo (W : World) (g base : Nat) (a : Option Addr) (cap : Nat) (x : Bt) : Prop where
  row : Row W g 28 (btC a cap x)
  own : OwnT W base (.slice a x.mem.length cap) x.mem
theorem Vo.below {W W' : World} {g base : Nat} {a : Option Addr} {cap : Nat} {x : Bt} (h : Vo W g base a cap x) (b : Below W.heap.size W W') : Vo W' g base a cap x := ⟨h.row.below b, h.own.below b⟩
theorem Vo.next {W W' : World} {g base : Nat} {a : Option Addr} {cap : Nat} {x : Bt} (h : Vo W g base a cap x) (b : Below W.heap.size W W') (o : Obj) : Vo (W'.alloc o) g base a cap x := (h.below b).below ((Below.refl _ _).alloc (Nat.le_refl _) _)
theorem Vo.new {W : World} {base : Nat} {a : Option Addr} {cap : Nat} {x : Bt} (h : OwnT W base (.slice a x.mem.length cap) x.mem) : Vo (W.alloc (.cells (btC a cap x) 28)) W.heap.size base a cap x := ⟨heap_alloc_new _ _, h.below ((Below.refl _ _).alloc (Nat.le_refl _) _)⟩
theorem Vo.mem {W : World} {g base : Nat} {a : Option Addr} {cap : Nat} {x : Bt} (h : Vo W g base a cap x) : StrsP W a cap x.mem := h.own.reads.2
theorem Vo.setRow {W : World} {g base : Nat} {a : Option Addr} {cap : Nat} {x : Bt} (h : Vo W g base a cap x) {k : Nat} (hk : g ≠ k) (hb : k < base) (cs : Array Value) : Vo (W.setRow k cs) g base a cap x :=
  ⟨(setRow_other _ _ _ _ hk).trans h.row, h.own.setRow hb cs⟩
theorem Vo.put {W : World} {g base : Nat} {a a' : Option Addr} {cap cap' : Nat} {x x' : Bt} (h : Row W g 28 (btC a cap x)) (o : OwnT W base (.slice a' x'.mem.length cap') x'.mem) (hb : g < base) : Vo (W.setRow g (btC a' cap' x')) g base a' cap' x' :=
  ⟨setRow_heap _ _ _ _ _ _ h, o.setRow hb _⟩

end Go.Proofs.Ytieoihmndpkdoaa
