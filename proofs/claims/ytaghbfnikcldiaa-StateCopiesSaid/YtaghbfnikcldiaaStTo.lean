/- The copy that is written on is another state; what else there is stays as it was. -/
import Derived.Test.YtaghbfnikcldiaaStTch
import Derived.Test.YtaghbfnikcldiaaStTouch
namespace Go.Proofs.Ytaghbfnikcldiaa
set_option maxRecDepth 100000
open Go.RowKit Go.ChangeShapes Go.WideShapes Go.ChangeAt

/-- So many elements of a list have been turned. -/
structure TG {α : Type} (f : α → Int) (ok : α → Prop) (l0 : List α) (k : Nat) (l : List α) : Prop where
  len : l.length = l0.length
  each : ∀ x ∈ l, ok x
  first : k = 0 → l = l0
  dif : 0 < k → (l[0]?).map f ≠ (l0[0]?).map f
section
variable {α : Type} {f : α → Int} {ok ok' : α → Prop} {l0 l : List α} {k : Nat} {y : α}
theorem TG.begin (h : ∀ x ∈ l0, ok x) : TG f ok l0 0 l0 := ⟨rfl, h, fun _ => rfl, fun h => absurd h (by omega)⟩
theorem TG.weaken (h : TG f ok l0 k l) (hm : ∀ x, ok x → ok' x) : TG f ok' l0 k l := ⟨h.len, fun x hx => hm x (h.each x hx), h.first, h.dif⟩
theorem TG.put (h : TG f ok l0 k l) (hy : ok y) : ∀ x ∈ l.set k y, ok x := fun x hx => by
  rcases List.mem_or_eq_of_mem_set hx with hx | rfl
  · exact h.each x hx
  · exact hy
theorem TG.turn (h : TG f ok l0 k l) (hk : k < l.length) (hy : ok y) (hf : f y = bits .xor .i64 (f l[k]) 1) : TG f ok l0 (k + 1) (l.set k y) := by
  refine ⟨by rw [List.length_set, h.len], h.put hy, fun e => absurd e (by omega), fun _ e => ?_⟩
  by_cases h0 : k = 0
  · have e0 := h.first h0
    subst h0
    subst e0
    rw [List.getElem?_set_self hk, List.getElem?_eq_getElem hk] at e
    injection e with e
    rw [hf] at e
    exact xor1_ne _ e
  · rw [List.getElem?_set_ne (by omega)] at e
    exact h.dif (by omega) e
theorem TG.same (h : TG f ok l0 (k + 1) l) (hk : k < l.length) (hy : ok y) (hf : f y = f l[k]) : TG f ok l0 (k + 1) (l.set k y) := by
  refine ⟨by rw [List.length_set, h.len], fun x hx => ?_, fun e => absurd e (by omega), fun _ e => ?_⟩
  · rcases List.mem_or_eq_of_mem_set hx with hx | rfl
    · exact h.each x hx
    · exact hy
  · refine h.dif (by omega) (Eq.trans ?_ e)
    by_cases h0 : k = 0
    · subst h0
      rw [List.getElem?_set_self hk, List.getElem?_eq_getElem hk, Option.map_some, Option.map_some, hf]
    · rw [List.getElem?_set_ne (by omega)]
theorem TG.none (h : TG f ok l0 l0.length l) (h0 : l0.length = 0) : l = l0 := by
  have h1 := h.len
  exact (List.eq_nil_of_length_eq_zero (by omega : l.length = 0)).trans (List.eq_nil_of_length_eq_zero h0).symm
theorem TG.other (h : TG f ok l0 l0.length l) (h0 : 0 < l0.length) : l ≠ l0 := fun e => h.dif h0 (by rw [e])
end
/-- A variable that holds a state. -/
def RSt (W : World) (g : Nat) : Type := PLift (∃ x : StR, Row W g 29 (stC x))
instance rst_new {V : World} {x : StR} : Nonempty (RSt (V.alloc (.cells (stC x) 29)) V.heap.size) := ⟨⟨x, Row.new _ _ _⟩⟩
instance rst_new1 {V : World} {o : Obj} {x : StR} : Nonempty (RSt ((V.alloc o).alloc (.cells (stC x) 29)) (V.heap.size + 1)) := by
  have h : (V.alloc o).heap.size = V.heap.size + 1 := by show (V.heap.push _).size = _; rw [Array.size_push]
  rw [← h]
  exact ⟨⟨x, Row.new _ _ _⟩⟩
instance rst_more {V : World} {g : Nat} {o : Obj} [h : Nonempty (RSt V g)] : Nonempty (RSt (V.alloc o) g) := h.elim fun ⟨x, hx⟩ => ⟨⟨x, hx.more o⟩⟩
instance rst_set {V : World} {g k : Nat} {s : StR} [h : Nonempty (RSt V g)] : Nonempty (RSt (V.setRow k (stC s)) g) := h.elim fun ⟨x, hx⟩ => ⟨⟨if k = g then s else x, by
  by_cases e : k = g
  · subst e
    rw [if_pos rfl]
    unfold Row at hx ⊢
    simp [World.setRow, Array.getElem?_modify, hx]
  · rw [if_neg e]
    exact (setRow_other _ _ g _ (fun h => e h.symm)).trans hx⟩⟩
instance rst_drew {V : World} {g : Nat} [h : Nonempty (RSt V g)] : Nonempty (RSt V.drew g) := h.elim fun ⟨x, hx⟩ => ⟨⟨x, hx⟩⟩
theorem rst_keep {V W : World} (b : Below V.heap.size V W) : ∀ g : Nat, ∀ [Nonempty (RSt V g)], Nonempty (RSt W g) := fun _ h => h.elim fun ⟨x, hx⟩ => ⟨⟨x, hx.below b⟩⟩
theorem rst_of {V : World} {g : Nat} {x : StR} (h : Row V g 29 (stC x)) : Nonempty (RSt V g) := ⟨⟨x, h⟩⟩
/-- A state is put into a variable. -/
theorem st_any {W : World} {g : Nat} [h : Nonempty (RSt W g)] (s : StR) : StX 29 (.pointer (some ⟨g, 0, none⟩)) (stV s) W = .ok .skip (W.setRow g (stC s)) := h.elim fun ⟨_, hx⟩ => st_sta hx s
def okO (x : OdR) : Prop := (∀ z ∈ x.o.ls, z.sku.size ≤ maxLen) ∧ x.o.ls.length ≤ maxLen ∧ x.o.id.size ≤ maxLen ∧ x.o.car.size ≤ maxLen ∧ x.o.zone.size ≤ maxLen ∧ x.o.serv.size ≤ maxLen
def okB (n : Nat) (x : BtR) : Prop := (∀ z ∈ x.b.mem, z.size ≤ 140737488355328 + n) ∧ x.b.mem.length ≤ 80 ∧ x.b.car.size ≤ maxLen ∧ x.b.zone.size ≤ maxLen ∧ x.b.serv.size ≤ maxLen
def okE (e : Ef) : Prop := e.order.size ≤ maxLen
def okD (_ : Int) : Prop := True
theorem okO_tot {x : OdR} (h : okO x) (v : Int) : okO (totO x v) := h
theorem okO_line {x : OdR} (h : okO x) {j : Nat} (hj : j < x.o.ls.length) (v : Int) : okO (lnsO x (x.o.ls.set j ⟨x.o.ls[j].sku, v, x.o.ls[j].wt⟩)) := by
  refine ⟨fun z hz => ?_, by show (x.o.ls.set j _).length ≤ _; rw [List.length_set]; exact h.2.1, h.2.2.1, h.2.2.2.1, h.2.2.2.2.1, h.2.2.2.2.2⟩
  rcases List.mem_or_eq_of_mem_set hz with hz | rfl
  · exact h.1 z hz
  · exact h.1 x.o.ls[j] (List.getElem_mem hj)
theorem okB_more {n m : Nat} (h : n ≤ m) (x : BtR) (hx : okB n x) : okB m x := ⟨fun z hz => Nat.le_trans (hx.1 z hz) (by omega), hx.2⟩
theorem okB_wt {n : Nat} {x : BtR} (h : okB n x) (v : Int) : okB n (wtB x v) := h
theorem okB_mem {n : Nat} {x : BtR} (h : okB n x) {j : Nat} {t : ByteArray} (ht : t.size ≤ 140737488355328 + n) : okB n (memB x (x.b.mem.set j t)) := by
  refine ⟨fun z hz => ?_, by show (x.b.mem.set j t).length ≤ 80; rw [List.length_set]; exact h.2.1, h.2.2⟩
  rcases List.mem_or_eq_of_mem_set hz with hz | rfl
  · exact h.1 z hz
  · exact ht
theorem okE_key {e : Ef} (h : okE e) (v : Int) : okE (turnE e v) := h
theorem small_like {r s : StR} (h : Small r) (he : s.st = r.st) : Small s := by
  have ho : odsOf s.ords = odsOf r.ords := congrArg St.ords he
  have hb : btsOf s.bats = btsOf r.bats := congrArg St.bats he
  have hf : s.effs = r.effs := congrArg St.effs he
  have hd : s.doors = r.doors := congrArg St.doors he
  have l1 : s.ords.length = r.ords.length := by have := congrArg List.length ho; simpa [odsOf] using this
  have l2 : s.bats.length = r.bats.length := by have := congrArg List.length hb; simpa [btsOf] using this
  refine ⟨by rw [l1]; exact h.ords, by rw [l2]; exact h.bats, by rw [hf]; exact h.effs, by rw [hd]; exact h.doors, fun x hx => ?_, fun x hx => ?_⟩
  · have h1 : x.o ∈ odsOf r.ords := by rw [← ho]; exact List.mem_map_of_mem hx
    obtain ⟨y, hy, e⟩ := List.mem_map.1 h1
    rw [← e]
    exact h.ls y hy
  · have h1 : x.b ∈ btsOf r.bats := by rw [← hb]; exact List.mem_map_of_mem hx
    obtain ⟨y, hy, e⟩ := List.mem_map.1 h1
    rw [← e]
    exact h.mem y hy
theorem mem_like {r s : StR} (h : ∀ x ∈ r.bats, ∀ t ∈ x.b.mem, t.size ≤ 140737488355328) (he : s.st = r.st) : ∀ x ∈ s.bats, ∀ t ∈ x.b.mem, t.size ≤ 140737488355328 := fun x hx => by
  have hb : btsOf s.bats = btsOf r.bats := congrArg St.bats he
  have h1 : x.b ∈ btsOf r.bats := by rw [← hb]; exact List.mem_map_of_mem hx
  obtain ⟨y, hy, e⟩ := List.mem_map.1 h1
  rw [← e]
  exact h y hy
theorem okB_all {s : StR} (h : SizesS s) (hm : Small s) (hz : ∀ x ∈ s.bats, ∀ t ∈ x.b.mem, t.size ≤ 140737488355328) : ∀ x ∈ s.bats, okB 0 x := fun x hx => ⟨hz x hx, hm.mem x hx, (h.bats x hx).2⟩
/-- The copy, the other copy, and the state itself, in their variables. -/
structure Cop (w : World) (r s d : StR) (B T C D : Nat) (W0 : World) : Prop where
  on : OnI w r W0
  was : StP w r
  rc : Row W0 C 29 (stC s)
  rd : Row W0 D 29 (stC d)
  es : s.st = r.st
  ed : d.st = r.st
  own : OwnRows W0 B (rowsOf s)
  od : OwnRows W0 T (rowsOf d)
  hi : ∀ x ∈ rowsOf s, ∀ a, x.a = some a → a.block < T
  hB : w.heap.size < B
  hT : B ≤ T
  hC : C < B ∨ T ≤ C
  hD : D < B ∨ T ≤ D
  hW : T ≤ W0.heap.size
section
variable {w W0 W : World} {r s d : StR} {B T C D : Nat}
theorem Cop.below {W1 : World} (h : Cop w r s d B T C D W0) (b : Below W0.heap.size W0 W1) : Cop w r s d B T C D W1 :=
  ⟨h.on.below b, h.was, h.rc.below b, h.rd.below b, h.es, h.ed, h.own.below b, h.od.below b, h.hi, h.hB, h.hT, h.hC, h.hD, Nat.le_trans h.hW b.size⟩
theorem Cop.stS (h : Cop w r s d B T C D W0) : StP W0 s := stP_of_rows ((sizes_of h.on.st).like h.es) h.own
theorem Cop.stD (h : Cop w r s d B T C D W0) : StP W0 d := stP_of_rows ((sizes_of h.on.st).like h.ed) h.od
/-- Written on: orders, batches, effects, doors. -/
def ToT (W0 : World) (s : StR) (B : Nat) (L : List OdR) (M : List BtR) (E : List Ef) (F : List Int) (W : World) : Prop := Tch W0 B ((rowsOf s).map (·.a)) (rowsOf (stT s L M E F)) W
theorem ToT.begin (h : Cop w r s d B T C D W0) : ToT W0 s B s.ords s.bats s.effs s.doors W0 := ⟨h.own, rfl, Below.refl _ _, rfl, fun _ _ => rfl⟩
theorem Tch.heap {W0 W W' : World} {B : Nat} {As : List (Option Addr)} {rs : List RowD} (h : Tch W0 B As rs W) (hB : B ≤ W0.heap.size) (b : Below W.heap.size W W') (hs : W'.heap.size = W.heap.size) : Tch W0 B As rs W' :=
  ⟨h.own.below b, h.adr, h.low.trans (b.mono (by have := h.size; omega)), hs.trans h.size, fun k hk => by
    by_cases hlt : k < W.heap.size
    · exact (b.block k hlt).trans (h.rest k hk)
    · rw [Array.getElem?_eq_none (by omega), ← h.rest k hk, Array.getElem?_eq_none (by omega)]⟩
end
section
variable {w W0 W : World} {r s d : StR} {B T C D : Nat} {L : List OdR} {M : List BtR} {E : List Ef} {F : List Int}
theorem ToT.out (c : Cop w r s d B T C D W0) (h : ToT W0 s B L M E F W) {k : Nat} (hk : k < B ∨ T ≤ k) : W.heap[k]? = W0.heap[k]? := by
  refine h.rest k (fun a ha e => ?_)
  obtain ⟨x, hx, hxa⟩ := List.mem_map.1 ha
  have h1 := c.hi x hx a hxa
  have h2 := (rowS_at (c.own.owns x hx) a hxa).1
  omega
theorem ToT.heap {W' : World} (h : ToT W0 s B L M E F W) (c : Cop w r s d B T C D W0) (b : Below W.heap.size W W') (hs : W'.heap.size = W.heap.size) : ToT W0 s B L M E F W' := Tch.heap h (Nat.le_trans c.hT c.hW) b hs
theorem ToT.rowC (h : ToT W0 s B L M E F W) (c : Cop w r s d B T C D W0) : Row W C 29 (stC s) := (h.out c c.hC).trans c.rc
theorem ToT.rowD (h : ToT W0 s B L M E F W) (c : Cop w r s d B T C D W0) : Row W D 29 (stC d) := (h.out c c.hD).trans c.rd
theorem ToT.on (h : ToT W0 s B L M E F W) (c : Cop w r s d B T C D W0) : OnI w r W := by
  have hl : Below w.heap.size w W := c.on.low.trans (h.low.mono (Nat.le_of_lt c.hB))
  exact ⟨(h.out c (.inl c.hB)).trans c.on.one, c.was.below hl, hl⟩
theorem ToT.stD (h : ToT W0 s B L M E F W) (c : Cop w r s d B T C D W0) : StP W d := stP_of_rows ((sizes_of c.on.st).like c.ed) (c.od.keep (Nat.le_of_eq h.size.symm) (fun _ hk _ => h.out c (.inr hk)))
/-- The two copies have been made, each in its variable. -/
theorem cop_of {w V1 w7 V2 w8 Wm : World} {r s d : StR} {C D : Nat} {x y : StR} (was : StP w r) (on : OnI w r Wm) (es : s.st = r.st) (ed : d.st = r.st)
    (o7 : OwnRows w7 V1.heap.size (rowsOf s)) (o8 : OwnRows w8 V2.heap.size (rowsOf d)) (b7 : Below w7.heap.size w7 Wm) (b8 : Below w8.heap.size w8 Wm)
    (rc : Row Wm C 29 (stC x)) (rd : Row Wm D 29 (stC y)) (l : w.heap.size < V1.heap.size ∧ V1.heap.size ≤ w7.heap.size ∧ w7.heap.size ≤ V2.heap.size ∧ V2.heap.size ≤ w8.heap.size ∧ w.heap.size < C ∧ w.heap.size < D ∧ C ≠ D ∧
      (C < V1.heap.size ∨ w7.heap.size ≤ C) ∧ (D < V1.heap.size ∨ w7.heap.size ≤ D) ∧ (C < V2.heap.size ∨ w8.heap.size ≤ C) ∧ (D < V2.heap.size ∨ w8.heap.size ≤ D)) :
    Cop w r s d V1.heap.size w7.heap.size C D ((Wm.setRow C (stC s)).setRow D (stC d)) := by
  obtain ⟨l0, l1, l2, l3, lc, ld, ne, c1, d1, c2, d2⟩ := l
  have hsz : ((Wm.setRow C (stC s)).setRow D (stC d)).heap.size = Wm.heap.size := by simp only [World.setRow, Array.size_modify]
  have els : ∀ k, k ≠ C → k ≠ D → ((Wm.setRow C (stC s)).setRow D (stC d)).heap[k]? = Wm.heap[k]? := fun k h1 h2 => (setRow_other _ _ k _ h2).trans (setRow_other _ _ k _ h1)
  have hl : Below w.heap.size w ((Wm.setRow C (stC s)).setRow D (stC d)) := Below.row (Below.row on.low (Nat.le_of_lt lc) _) (Nat.le_of_lt ld) _
  have rc2 : Row (Wm.setRow C (stC s)) C 29 (stC s) := by
    unfold Row at rc ⊢
    simp [World.setRow, Array.getElem?_modify, rc]
  have rd2 : Row (Wm.setRow C (stC s)) D 29 (stC y) := (setRow_other _ _ D _ (fun e => ne e.symm)).trans rd
  have rd3 : Row ((Wm.setRow C (stC s)).setRow D (stC d)) D 29 (stC d) := by
    unfold Row at rd2 ⊢
    simp only [World.setRow, Array.getElem?_modify] at rd2 ⊢
    simp [rd2]
  refine ⟨⟨(els _ (by omega) (by omega)).trans on.one, was.below hl, hl⟩, was, (setRow_other _ _ C _ ne).trans rc2, rd3, es, ed, o7.keep (by rw [hsz]; exact b7.size) (fun k h1 h2 => (els k (by omega) (by omega)).trans (b7.block k h2)),
    (o8.keep (by rw [hsz]; exact b8.size) (fun k h1 h2 => (els k (by omega) (by omega)).trans (b8.block k h2))).lower l2, fun x hx a ha => (rowS_at (o7.owns x hx) a ha).2, l0, l1, c1, d1, by rw [hsz]; exact b7.size⟩
theorem below_one {a W : World} {o : Obj} (h : Below a.heap.size a W) : Below a.heap.size a (W.alloc o) := h.alloc h.size o
theorem rowt_drew {W : World} {g : Nat} {T : TypeId} {cs : Array Value} (h : Row W g T cs) : Row W.drew g T cs := h
theorem rowt_more {W : World} {g : Nat} {T : TypeId} {cs : Array Value} {o : Obj} (h : Row W g T cs) : Row (W.alloc o) g T cs := h.more o
theorem rowt_last {V : World} {n : Nat} {T : TypeId} {cs : Array Value} (h : V.heap.size = n) : Row (V.alloc (.cells cs T)) n T cs := by rw [← h]; exact Row.new _ _ _
section
variable {w W : World} {r : StR}
theorem sA0 (h : OnI w r W) : LdX 29 (.pointer (some ⟨w.heap.size, 0, none⟩)) W = .ok (.value (stV r)) W ∧ OnI w r W := ⟨ld_sta h.one, h⟩
theorem sAm (h : LdX 29 (.pointer (some ⟨w.heap.size, 0, none⟩)) W = .ok (.value (stV r)) W ∧ OnI w r W) (o : Obj) : LdX 29 (.pointer (some ⟨w.heap.size, 0, none⟩)) (W.alloc o) = .ok (.value (stV r)) (W.alloc o) ∧ OnI w r (W.alloc o) := sA0 (h.2.more o)
theorem sAd (h : LdX 29 (.pointer (some ⟨w.heap.size, 0, none⟩)) W.drew = .ok (.value (stV r)) W.drew ∧ OnI w r W.drew) (o : Obj) : LdX 29 (.pointer (some ⟨w.heap.size, 0, none⟩)) (W.alloc o).drew = .ok (.value (stV r)) (W.alloc o).drew ∧ OnI w r (W.alloc o).drew := sAm h o
theorem sAr {g : Nat} (h : LdX 29 (.pointer (some ⟨w.heap.size, 0, none⟩)) W = .ok (.value (stV r)) W ∧ OnI w r W) (was : StP w r) (hg : w.heap.size < g) (cs : Array Value) : LdX 29 (.pointer (some ⟨w.heap.size, 0, none⟩)) (W.setRow g cs) = .ok (.value (stV r)) (W.setRow g cs) ∧ OnI w r (W.setRow g cs) := by
  have hl : Below w.heap.size w (W.setRow g cs) := Below.row h.2.low (Nat.le_of_lt hg) _
  exact sA0 ⟨(setRow_other _ _ _ _ (by omega)).trans h.2.one, was.below hl, hl⟩
/-- What Copy leaves, beside the state in its variable. -/
def CopyOn (w : World) (r : StR) (W : World) (e : Ending) (w' : World) : Prop := ∃ s : StR, e = .returned (stV s) ∧ s.st = r.st ∧ OwnRows w' W.heap.size (rowsOf s) ∧ Below W.heap.size W w' ∧ LdX 29 (.pointer (some ⟨w.heap.size, 0, none⟩)) w' = .ok (.value (stV r)) w' ∧ OnI w r w'
theorem copyOn_of (HC : CopyC) (hm : Small r) (W : World) (h : LdX 29 (.pointer (some ⟨w.heap.size, 0, none⟩)) W = .ok (.value (stV r)) W ∧ OnI w r W) : Calls Try.prog 17 #[stV r] W (CopyOn w r W) := by
  refine (HC r W h.2.st hm).mono ?_
  rintro e w' ⟨s, he, hs, _, hO, b⟩
  exact ⟨s, he, hs, hO, b, sA0 (h.2.below b)⟩
end
/-- All of it has been turned. -/
structure AllT (s : StR) (n : Nat) (L : List OdR) (M : List BtR) (E : List Ef) (F : List Int) : Prop where
  o : TG (fun x => x.o.total) okO s.ords s.ords.length L
  b : TG (fun x => x.b.wt) (okB n) s.bats s.bats.length M
  e : TG (fun x => x.key) okE s.effs s.effs.length E
  d : TG (fun x => x) okD s.doors s.doors.length F
theorem AllT.stC {n : Nat} (h : AllT s n L M E F) : stC (stT s L M E F) = stC s := by
  show #[_, _, _, _, _, Value.slice _ F.length _, _, _, _, Value.slice _ L.length _, Value.slice _ M.length _, Value.slice _ E.length _] = _
  rw [h.o.len, h.b.len, h.e.len, h.d.len]
  rfl
theorem AllT.sizes {n : Nat} (h : AllT s n L M E F) (hn : n ≤ 100000) (hz : SizesS s) : SizesS (stT s L M E F) :=
  ⟨by show F.length ≤ _; rw [h.d.len]; exact hz.doors, fun x hx => h.o.each x hx, fun x hx => ⟨fun z hz => Nat.le_trans ((h.b.each x hx).1 z hz) (by unfold maxLen; omega), (h.b.each x hx).2.2⟩, fun x hx => h.e.each x hx⟩
theorem AllT.st {n : Nat} (h : AllT s n L M E F) (hn : n ≤ 100000) (hz : SizesS s) (t : ToT W0 s B L M E F W) : StP W (stT s L M E F) := stP_of_rows (h.sizes hn hz) t.own
/-- Whether it is another state now. -/
theorem AllT.same {n : Nat} (h : AllT s n L M E F) (he : s.st = r.st) : sameS r (stT s L M E F) = !decide (0 < s.ords.length + s.bats.length + s.effs.length + s.doors.length) := by
  by_cases h0 : 0 < s.ords.length + s.bats.length + s.effs.length + s.doors.length
  · rw [decide_eq_true h0]
    cases hq : sameS r (stT s L M E F) with
    | false => rfl
    | true =>
      exfalso
      have e := (sameS_iff _ _).1 hq
      rw [← he] at e
      have e1 : odsOf s.ords = odsOf L := congrArg St.ords e
      have e2 : btsOf s.bats = btsOf M := congrArg St.bats e
      have e3 : s.effs = E := congrArg St.effs e
      have e4 : s.doors = F := congrArg St.doors e
      by_cases k1 : 0 < s.ords.length
      · refine h.o.dif k1 ?_
        have := congrArg (fun l => (l[0]?).map (fun o : Od => o.total)) e1
        simp only [odsOf, List.getElem?_map, Option.map_map] at this
        exact this.symm
      · by_cases k2 : 0 < s.bats.length
        · refine h.b.dif k2 ?_
          have := congrArg (fun l => (l[0]?).map (fun o : Bt => o.wt)) e2
          simp only [btsOf, List.getElem?_map, Option.map_map] at this
          exact this.symm
        · by_cases k3 : 0 < s.effs.length
          · exact h.e.other k3 e3.symm
          · exact h.d.other (by omega) e4.symm
  · rw [decide_eq_false h0, h.o.none (by omega), h.b.none (by omega), h.e.none (by omega), h.d.none (by omega)]
    refine (sameS_iff _ _).2 (he.symm.trans rfl)
end

/-- What a walk needs of the copy as it is written on, step by step. -/
abbrev tgO := TG (fun x : OdR => x.o.total) okO
abbrev tgB (n : Nat) := TG (fun x : BtR => x.b.wt) (okB n)
abbrev tgE := TG (fun x : Ef => x.key) okE
abbrev tgD := TG (fun x : Int => x) okD
def LnK (k n : Nat) (L : List OdR) : Prop := ∃ x, L[k]? = some x ∧ x.o.ls.length = n
def MmK (k n : Nat) (M : List BtR) : Prop := ∃ x, M[k]? = some x ∧ x.b.mem.length = n
section
variable {w W0 W : World} {r s d : StR} {B T C D k : Nat} {L : List OdR} {M : List BtR} {E : List Ef} {F : List Int}
theorem ToT.apartC (h2 : ToT W0 s B L M E F W) (c : Cop w r s d B T C D W0) {x : RowD} (hx : x ∈ rowsOf s) {g : Nat} (hg : x.a = some ⟨g, 0, none⟩) : g ≠ C := by
  have _ := h2.size
  have h1 : g < T := c.hi x hx _ hg
  have h3 : B ≤ g := (rowS_at (c.own.owns x hx) _ hg).1
  have := c.hC
  omega
theorem step_total (c : Cop w r s d B T C D W0) (h1 : tgO s.ords k L) (h2 : ToT W0 s B L M E F W) (hk : k < s.ords.length) :
    ∃ (g n cc : Nat) (v : Int) (a : Option Addr), W.cell? ⟨C, 9, none⟩ = some (.slice (some ⟨g, 0, none⟩) s.ords.length s.oc) ∧ s.ords.length ≤ s.oc ∧ W.cell? ⟨g, k * 10 + 5, none⟩ = some (.int .i64 v) ∧ W.frozen? ⟨g, k * 10 + 5, none⟩ = false ∧ W.cell? ⟨g, k * 10 + 1, none⟩ = some (.slice a n cc) ∧ n ≤ maxLen ∧ g ≠ C ∧
      ∃ L' : List OdR, Hid (LnK k n L' ∧ tgO s.ords (k + 1) L' ∧ ToT W0 s B L' M E F (W.setCell ⟨g, k * 10 + 5, none⟩ (.int .i64 (bits .xor .i64 v 1)))) := by
  have hL : k < L.length := by rw [h1.len]; exact hk
  have c9 := (h2.rowC c).st.2.2.2.2.1
  obtain ⟨g, hg, hcap, hq, hf, hset⟩ := Tch.total h2 hL
  obtain ⟨g2, hg2, _, hl⟩ := Tch.lines h2 hL
  rw [hg] at hg2
  injection hg2 with hg2
  injection hg2 with hg2
  subst hg2
  rw [h1.len] at hcap
  have hne : g ≠ C := h2.apartC c (x := rdS LO s.oa s.oc s.ords) (by simp [rowsOf]) hg
  rw [hg] at c9
  exact ⟨g, _, _, _, _, c9, hcap, hq, hf, hl, (h1.each _ (List.getElem_mem hL)).2.1, hne, L.set k (totO L[k] (bits .xor .i64 L[k].o.total 1)), Lib.hid ⟨⟨_, List.getElem?_set_self hL, rfl⟩, h1.turn hL (okO_tot (h1.each _ (List.getElem_mem hL)) _) rfl, hset _⟩⟩
theorem step_qty {n j : Nat} (c : Cop w r s d B T C D W0) (h1 : tgO s.ords (k + 1) L) (h2 : ToT W0 s B L M E F W) (hk : k < s.ords.length) (hn : LnK k n L) (hj : j < n) :
    ∃ (g g2 cc : Nat) (v : Int), W.cell? ⟨C, 9, none⟩ = some (.slice (some ⟨g, 0, none⟩) s.ords.length s.oc) ∧ s.ords.length ≤ s.oc ∧ W.cell? ⟨g, k * 10 + 1, none⟩ = some (.slice (some ⟨g2, 0, none⟩) n cc) ∧ n ≤ cc ∧
      W.cell? ⟨g2, j * 3 + 1, none⟩ = some (.int .i64 v) ∧ W.frozen? ⟨g2, j * 3 + 1, none⟩ = false ∧ ∃ L' : List OdR, Hid (LnK k n L' ∧ tgO s.ords (k + 1) L' ∧ ToT W0 s B L' M E F (W.setCell ⟨g2, j * 3 + 1, none⟩ (.int .i64 (bits .xor .i64 v 1)))) := by
  have hL : k < L.length := by rw [h1.len]; exact hk
  obtain ⟨x, hx, hxn⟩ := hn
  have hx' : L[k] = x := by rw [List.getElem?_eq_getElem hL] at hx; exact Option.some.inj hx
  subst hx'
  have hj' : j < L[k].o.ls.length := by rw [hxn]; exact hj
  have c9 := (h2.rowC c).st.2.2.2.2.1
  obtain ⟨g, hg, hcap, hl⟩ := Tch.lines h2 hL
  obtain ⟨g2, hg2, hcap2, hq, hf, hset⟩ := Tch.qty h2 hL hj'
  rw [h1.len] at hcap
  rw [hg] at c9
  rw [hg2, hxn] at hl
  rw [hxn] at hcap2
  refine ⟨g, g2, _, _, c9, hcap, hl, hcap2, hq, hf, _, Lib.hid ⟨⟨_, List.getElem?_set_self hL, ?_⟩, h1.same hL (okO_line (h1.each _ (List.getElem_mem hL)) hj' _) rfl, hset _⟩⟩
  show (L[k].o.ls.set j _).length = n
  rw [List.length_set, hxn]
theorem step_weight {m : Nat} (c : Cop w r s d B T C D W0) (h1 : tgB m s.bats k M) (h2 : ToT W0 s B L M E F W) (hk : k < s.bats.length) :
    ∃ (g n cc : Nat) (v : Int) (a : Option Addr), W.cell? ⟨C, 10, none⟩ = some (.slice (some ⟨g, 0, none⟩) s.bats.length s.bc) ∧ s.bats.length ≤ s.bc ∧ W.cell? ⟨g, k * 9 + 1, none⟩ = some (.int .i64 v) ∧ W.frozen? ⟨g, k * 9 + 1, none⟩ = false ∧ W.cell? ⟨g, k * 9 + 8, none⟩ = some (.slice a n cc) ∧ n ≤ 80 ∧ g ≠ C ∧
      ∃ M' : List BtR, Hid (MmK k n M' ∧ tgB m s.bats (k + 1) M' ∧ ToT W0 s B L M' E F (W.setCell ⟨g, k * 9 + 1, none⟩ (.int .i64 (bits .xor .i64 v 1)))) := by
  have hL : k < M.length := by rw [h1.len]; exact hk
  have c9 := (h2.rowC c).st.2.2.2.2.2.1
  obtain ⟨g, hg, hcap, hq, hf, hset⟩ := Tch.weight h2 hL
  obtain ⟨g2, hg2, _, hl⟩ := Tch.members h2 hL
  rw [hg] at hg2
  injection hg2 with hg2
  injection hg2 with hg2
  subst hg2
  rw [h1.len] at hcap
  have hne : g ≠ C := h2.apartC c (x := rdS LB s.ba s.bc s.bats) (by simp [rowsOf]) hg
  rw [hg] at c9
  exact ⟨g, _, _, _, _, c9, hcap, hq, hf, hl, (h1.each _ (List.getElem_mem hL)).2.1, hne, M.set k (wtB M[k] (bits .xor .i64 M[k].b.wt 1)), Lib.hid ⟨⟨_, List.getElem?_set_self hL, rfl⟩, h1.turn hL (okB_wt (h1.each _ (List.getElem_mem hL)) _) rfl, hset _⟩⟩
theorem step_member {m n j : Nat} (c : Cop w r s d B T C D W0) (h1 : tgB m s.bats (k + 1) M) (h2 : ToT W0 s B L M E F W) (hk : k < s.bats.length) (hn : MmK k n M) (hj : j < n) :
    ∃ (g g2 cc : Nat) (t : ByteArray), W.cell? ⟨C, 10, none⟩ = some (.slice (some ⟨g, 0, none⟩) s.bats.length s.bc) ∧ s.bats.length ≤ s.bc ∧ W.cell? ⟨g, k * 9 + 8, none⟩ = some (.slice (some ⟨g2, 0, none⟩) n cc) ∧ n ≤ cc ∧
      W.cell? ⟨g2, j, none⟩ = some (.string t) ∧ W.frozen? ⟨g2, j, none⟩ = false ∧ t.size ≤ 140737488355328 + m ∧ ∀ t' : ByteArray, t'.size = t.size + 1 → ∃ M' : List BtR, Hid (MmK k n M' ∧ tgB (m + 1) s.bats (k + 1) M' ∧ ToT W0 s B L M' E F (W.setCell ⟨g2, j, none⟩ (.string t'))) := by
  have hL : k < M.length := by rw [h1.len]; exact hk
  obtain ⟨x, hx, hxn⟩ := hn
  have hx' : M[k] = x := by rw [List.getElem?_eq_getElem hL] at hx; exact Option.some.inj hx
  subst hx'
  have hj' : j < M[k].b.mem.length := by rw [hxn]; exact hj
  have c9 := (h2.rowC c).st.2.2.2.2.2.1
  obtain ⟨g, hg, hcap, hl⟩ := Tch.members h2 hL
  obtain ⟨g2, hg2, hcap2, hq, hf, hset⟩ := Tch.member h2 hL hj'
  rw [h1.len] at hcap
  rw [hg] at c9
  rw [hg2, hxn] at hl
  rw [hxn] at hcap2
  have ht := (h1.each _ (List.getElem_mem hL)).1 _ (List.getElem_mem hj')
  refine ⟨g, g2, _, _, c9, hcap, hl, hcap2, hq, hf, ht, fun t' ht' => ⟨_, Lib.hid ⟨⟨_, List.getElem?_set_self hL, ?_⟩, (h1.weaken (okB_more (Nat.le_succ m))).same hL (okB_mem (okB_more (Nat.le_succ m) _ (h1.each _ (List.getElem_mem hL))) (by omega)) rfl, hset t'⟩⟩⟩
  show (M[k].b.mem.set j _).length = n
  rw [List.length_set, hxn]
theorem step_key (c : Cop w r s d B T C D W0) (h1 : tgE s.effs k E) (h2 : ToT W0 s B L M E F W) (hk : k < s.effs.length) :
    ∃ (g : Nat) (v : Int), W.cell? ⟨C, 11, none⟩ = some (.slice (some ⟨g, 0, none⟩) s.effs.length s.ec) ∧ s.effs.length ≤ s.ec ∧ W.cell? ⟨g, k * 6, none⟩ = some (.int .i64 v) ∧ W.frozen? ⟨g, k * 6, none⟩ = false ∧
      ∃ E' : List Ef, Hid (tgE s.effs (k + 1) E' ∧ ToT W0 s B L M E' F (W.setCell ⟨g, k * 6, none⟩ (.int .i64 (bits .xor .i64 v 1)))) := by
  have hL : k < E.length := by rw [h1.len]; exact hk
  have c9 := (h2.rowC c).st.2.2.2.2.2.2
  obtain ⟨g, hg, hcap, hq, hf, hset⟩ := Tch.key h2 hL
  rw [h1.len] at hcap
  rw [hg] at c9
  exact ⟨g, _, c9, hcap, hq, hf, _, Lib.hid ⟨h1.turn hL (okE_key (h1.each _ (List.getElem_mem hL)) _) rfl, hset _⟩⟩
theorem step_door (c : Cop w r s d B T C D W0) (h1 : tgD s.doors k F) (h2 : ToT W0 s B L M E F W) (hk : k < s.doors.length) :
    ∃ (g : Nat) (v : Int), W.cell? ⟨C, 5, none⟩ = some (.slice (some ⟨g, 0, none⟩) s.doors.length s.dc) ∧ s.doors.length ≤ s.dc ∧ W.cell? ⟨g, k, none⟩ = some (.int .i64 v) ∧ W.frozen? ⟨g, k, none⟩ = false ∧
      ∃ F' : List Int, Hid (tgD s.doors (k + 1) F' ∧ ToT W0 s B L M E F' (W.setCell ⟨g, k, none⟩ (.int .i64 (bits .xor .i64 v 1)))) := by
  have hL : k < F.length := by rw [h1.len]; exact hk
  have c9 := (h2.rowC c).st.1.2.2.2.2.2
  obtain ⟨g, hg, hcap, hq, hf, hset⟩ := Tch.door h2 hL
  rw [h1.len] at hcap
  rw [hg] at c9
  exact ⟨g, _, c9, hcap, hq, hf, _, Lib.hid ⟨h1.turn hL trivial rfl, hset _⟩⟩
end

end Go.Proofs.Ytaghbfnikcldiaa
