/- Slices of numbers that a call has made for itself: what slices.Insert and slices.BinarySearch answer of them. -/
import Derived.Test.YtaghbfnikcldiaaDyShelf
import Derived.Test.YtaghbfnikcldiaaChecked
import Derived.Test.YtaghbfnikcldiaaDyPlain
import Derived.WalkKit
import Derived.WalkSpells
import Derived.ProofKit
import Derived.Below
import Derived.IntWalk
import Derived.Lib.Hide
namespace Go.Proofs.Ytaghbfnikcldiaa
set_option maxRecDepth 100000
open Go.RowKit

/-- A slice reads as these numbers. -/
structure IntsP (w : World) (a : Option Addr) (cap : Nat) (ls : List Int) : Prop where
  cap : ls.length ≤ cap
  cell : ls ≠ [] → ∃ b o, a = some ⟨b, o, none⟩ ∧ b < w.heap.size ∧ ∀ j x, ls[j]? = some x → w.cell? ⟨b, o + j, none⟩ = some (.int .i64 x)

theorem IntsP.below {w w' : World} {a cap ls} (h : IntsP w a cap ls) (hb : Below w.heap.size w w') : IntsP w' a cap ls := by
  refine ⟨h.cap, fun hne => ?_⟩
  obtain ⟨b, o, e, hlt, hc⟩ := h.cell hne
  exact ⟨b, o, e, Nat.lt_of_lt_of_le hlt hb.size, fun j x hx => (hb.cell (p := ⟨b, o + j, none⟩) hlt).trans (hc j x hx)⟩

theorem IntsP.nil (w : World) (a : Option Addr) (cap : Nat) : IntsP w a cap [] := ⟨by simp, fun h => absurd rfl h⟩

theorem dyBelow_drewN {B : Nat} {a w : World} (h : Below B a w) (q : Nat) : Below B a (w.drewN q) := ⟨h.os, h.tape, h.output, h.size, h.block⟩

/-- slices.BinarySearch of a slice of rising numbers. -/
theorem dySearch_any (a : Option Addr) (cap : Nat) (l : List Int) (x : Int) (w : World) (h : IntsP w a cap l) (hl : l.length ≤ 1000000) (hs : l.Pairwise (· < ·)) :
    Calls Try.prog 56 #[.slice a l.length cap, .int .i64 x] w fun e w' => e = .returned (.tuple #[.int .i64 (l.countP (fun y => decide (y < x)) : Nat), .bool (l.contains x)]) ∧ ∃ q, w' = w.drewN q := by
  by_cases hne : l = []
  · subst hne
    refine (Try.slices_BinarySearch_int_empty a cap x w).mono ?_
    rintro e w' ⟨rfl, rfl⟩
    exact ⟨rfl, 0, rfl⟩
  · obtain ⟨b, o, rfl, hlt, hc⟩ := h.cell hne
    have := Try.slices_BinarySearch_int b o l.length cap l x w (Nat.le_refl _) (by omega) (fun j hj => hc j _ (by rw [List.getElem?_eq_getElem hj, getD_get l hj])) (by rw [List.take_length]; exact asc_le hs)
    rw [List.take_length] at this
    exact this

abbrev iv (x : Int) : Value := .int .i64 x

/-- A slice that is a row of its call's own, from block base on. -/
def OwnI (w : World) (base : Nat) (v : Value) (ls : List Int) : Prop := w.ownsRow base 3 1 v ls.length (ls.map iv)

theorem OwnI.ints {w : World} {base : Nat} {v : Value} {ls : List Int} (h : OwnI w base v ls) : ∃ a cap, v = .slice a ls.length cap ∧ IntsP w a cap ls := by
  rcases h.2 with ⟨rfl, h0⟩ | ⟨g, cap, cur, rfl, h1, h2, h3, h4, h5, h6⟩
  · have := List.eq_nil_of_length_eq_zero h0
    subst this
    exact ⟨none, 0, rfl, IntsP.nil _ _ _⟩
  · refine ⟨_, cap, rfl, h3, fun _ => ⟨g, 0, rfl, ?_, fun j x hx => ?_⟩⟩
    · exact (Array.getElem?_eq_some_iff.1 h2).1
    · have hj : (cur.toList.take (ls.length * 1))[j]? = some (iv x) := by rw [h6, List.getElem?_map, hx]; rfl
      rw [List.getElem?_take] at hj
      split at hj
      · simp only [Array.getElem?_toList] at hj
        simp [World.cell?, h2, hj]
      · cases hj

theorem OwnI.below {w w' : World} {base : Nat} {v : Value} {ls : List Int} (h : OwnI w base v ls) (hb : Below w.heap.size w w') : OwnI w' base v ls := by
  refine ⟨h.1, ?_⟩
  rcases h.2 with h1 | ⟨g, cap, cur, e, h1, h2, h3⟩
  · exact .inl h1
  · exact .inr ⟨g, cap, cur, e, h1, (hb.block g (Array.getElem?_eq_some_iff.1 h2).1).trans h2, h3⟩

theorem OwnI.nil (w : World) (base : Nat) : OwnI w base (.slice none 0 0) [] := ⟨rfl, .inl ⟨rfl, rfl⟩⟩

/-- A row behind setCells. -/
theorem heap_setCells (g : Nat) (e : TypeId) (z : Nat × Nat) : ∀ (vs : List Value) (o : Nat) (w : World) (cur : Array Value), w.heap[g]? = some (.cells cur e z) → o + vs.length ≤ cur.size →
    ∃ cur', (w.setCells g o vs).heap[g]? = some (.cells cur' e z) ∧ cur'.toList = cur.toList.take o ++ vs ++ cur.toList.drop (o + vs.length)
  | [], o, w, cur, h, _ => ⟨cur, h, by simp⟩
  | v :: r, o, w, cur, h, hs => by
    have h1 : (w.setCell ⟨g, o, none⟩ v).heap[g]? = some (.cells (cur.set! o v) e z) := by
      simp [World.setCell, Array.getElem?_modify, h]
    simp only [List.length_cons] at hs
    obtain ⟨cur', e1, e2⟩ := heap_setCells g e z r (o + 1) _ _ h1 (by simp; omega)
    refine ⟨cur', e1, ?_⟩
    rw [e2]
    have ho : o < cur.toList.length := by simp; omega
    simp only [Array.set!_eq_setIfInBounds, Array.toList_setIfInBounds, List.length_cons]
    rw [List.take_add_one, List.take_set_of_le (Nat.le_refl _), List.getElem?_set_self ho, List.drop_set_of_lt (by omega)]
    simp [show o + 1 + r.length = o + (r.length + 1) by omega]

theorem below_setCells {B b : Nat} {a : World} (hb : B ≤ b) : ∀ (vs : List Value) (o : Nat) (w : World), Below B a w → Below B a (w.setCells b o vs)
  | [], _, _, h => h
  | v :: r, o, w, h => below_setCells hb r (o + 1) _ (h.setCell (by exact hb) v)

/-- A number put in at a place. -/
def putAt (l : List Int) (i : Nat) (x : Int) : List Int := l.take i ++ x :: l.drop i
theorem putAt_len {l : List Int} {i : Nat} (x : Int) (h : i ≤ l.length) : (putAt l i x).length = l.length + 1 := by simp [putAt]; omega

theorem oneCell_iv : ∀ (l : List Int) (v : Value), v ∈ l.map iv → v.oneCell' = true := by
  intro l v hv
  obtain ⟨x, _, rfl⟩ := List.mem_map.1 hv
  rfl

theorem take_front {X Y : List Value} {n : Nat} (h : X.length = n) : (X ++ Y).take n = X := by rw [List.take_append_of_le_length (by omega), ← h, List.take_length]
theorem drop_front {X Y : List Value} {n : Nat} (h : X.length = n) : (X ++ Y).drop n = Y := by rw [List.drop_append_of_le_length (by omega), ← h, List.drop_length]; rfl
theorem mid_take {A B C cs : List Value} {i : Nat} {x : Value} (hA : A.take i = cs.take i) (hi : i ≤ cs.length) : ((A.take i ++ [x] ++ B).take (i + 1) ++ cs.drop i ++ C).take (cs.length + 1) = cs.take i ++ x :: cs.drop i := by
  rw [hA, take_front (X := cs.take i ++ [x]) (by simp; omega), take_front (X := cs.take i ++ [x] ++ cs.drop i) (by simp; omega)]
  simp
theorem mid_shift {A C cs : List Value} {i : Nat} {x : Value} (hA : A.take (i + 1) = cs.take (i + 1)) (hi : i < cs.length) :
    ((A.take (i + 1) ++ cs.drop i ++ C).take i ++ [x] ++ (A.take (i + 1) ++ cs.drop i ++ C).drop (i + 1)).take (cs.length + 1) = cs.take i ++ x :: cs.drop i := by
  have e1 : (A.take (i + 1) ++ cs.drop i ++ C).take i = cs.take i := by
    rw [hA, List.append_assoc, List.take_append_of_le_length (by simp; omega), List.take_take]
    congr 1; omega
  have e2 : (A.take (i + 1) ++ cs.drop i ++ C).drop (i + 1) = cs.drop i ++ C := by
    rw [hA, List.append_assoc, drop_front (by simp; omega)]
  rw [e1, e2, ← List.append_assoc, take_front (by simp; omega)]
  simp

theorem putAt_map (l : List Int) (i : Nat) (x : Int) : (putAt l i x).map iv = (l.map iv).take i ++ iv x :: (l.map iv).drop i := by simp [putAt]
theorem putAt_end (l : List Int) (x : Int) : (putAt l l.length x).map iv = l.map iv ++ [iv x] := by simp [putAt]

def InsOwn (base : Nat) (W : World) (l : List Int) (e : Ending) (w' : World) : Prop := ∃ v', e = .returned v' ∧ OwnI w' base v' l ∧ Below base W w'

set_option maxHeartbeats 1000000 in
/-- slices.Insert of one number into a row of the call's own. -/
theorem insert_any (base : Nat) (a : Option Addr) (cap : Nat) (l : List Int) (i : Nat) (x : Int) (w : World) (h : OwnI w base (.slice a l.length cap) l) (hb : base ≤ w.heap.size) (hi : i ≤ l.length) (hl : l.length ≤ 1000000) :
    Calls Try.prog 57 #[.slice a l.length cap, .int .i64 i, .slice (some ⟨w.heap.size, 0, none⟩) 1 1] (w.alloc (.cells #[.int .i64 x] 3)) (InsOwn base (w.alloc (.cells #[.int .i64 x] 3)) (putAt l i x)) := by
  have hv : ∀ j v, [iv x][j]? = some v → (w.alloc (.cells #[.int .i64 x] 3)).cell? ⟨w.heap.size, 0 + j, none⟩ = some v := by
    intro j v hj
    match j, hj with
    | 0, hj => simp at hj; subst hj; simp
    | _ + 1, hj => simp at hj
  have hsz : (w.alloc (.cells #[.int .i64 x] 3)).heap.size = w.heap.size + 1 := by simp
  have hbw : Below w.heap.size w (w.alloc (.cells #[.int .i64 x] 3)) := (Below.refl _ _).alloc (Nat.le_refl _) _
  have h' := h.below hbw
  have hnew : (w.alloc (.cells #[.int .i64 x] 3)).heap[w.heap.size]? = some (.cells #[.int .i64 x] 3 (0, 0)) := heap_alloc_new w _
  generalize hW : w.alloc (.cells #[.int .i64 x] 3) = W at *
  have h1v : ∀ v ∈ [iv x], v.oneCell' = true := fun v hv => by simp at hv; subst hv; rfl
  have hml : l.length + 1 ≤ maxLen := by unfold maxLen; omega
  have hcl : (l.map iv).length = l.length := by simp
  -- what the four roads have in common: the row's cells
  rcases h'.2 with ⟨e0, h0⟩ | ⟨g, cap', cur, e0, h1, h2, h3, h4, h5, h6⟩
  · -- the nil slice
    injection e0 with ea _ ec
    subst ea ec
    have hln := List.eq_nil_of_length_eq_zero h0
    subst hln
    obtain rfl : i = 0 := by simpa using hi
    refine (Any2.slices_Insert_int_end_grow Try.lays21 none 0 0 w.heap.size 0 1 1 [] [iv x] W (by decide) (by decide) (by decide) (by decide) rfl rfl (fun _ => rfl) (fun a e => by cases e) hv h1v).mono ?_
    rintro e w' ⟨rfl, rfl⟩
    refine ⟨_, rfl, ⟨rfl, .inr ⟨_, _, _, rfl, (by show base ≤ W.heap.size; omega), heap_alloc_new _ _, grownCap_ge _ _ _ _, grownCap_le_maxLen _ _ _ _ hml, ?_, ?_⟩⟩, (Below.refl _ _).drew.alloc (by show base ≤ W.heap.size; omega) _⟩
    · have := grownCap_ge W (0 + 1) 0 (Try.lays21_ren.t 3)
      simp only [Nat.zero_add] at this
      simp [Builtin.zeroCells, Value.cells]
      omega
    · simp [putAt]
  · injection e0 with ea en ec
    subst ea ec
    have hg : g < w.heap.size := by
      rcases h.2 with ⟨e, _⟩ | ⟨g', c', cur', e, _, k2, _⟩
      · cases e
      · injection e with e1
        injection e1 with e1
        injection e1 with e1
        subst e1
        exact (Array.getElem?_eq_some_iff.1 k2).1
    have hcur : cur.size = cap := by omega
    have htake : cur.toList.take l.length = l.map iv := by simpa using h6
    have hcs : ∀ j v, (l.map iv)[j]? = some v → W.cell? ⟨g, 0 + j, none⟩ = some v := by
      intro j v hj
      rw [← htake, List.getElem?_take] at hj
      split at hj
      · simp only [Array.getElem?_toList] at hj
        simp [World.cell?, h2, hj]
      · cases hj
    have hsome : ∀ j, j < cap → (W.cell? ⟨g, 0 + j, none⟩).isSome = true := by
      intro j hj
      simp [World.cell?, h2]
      omega
    have hfz : ∀ j, W.frozen? ⟨g, 0 + j, none⟩ = false := by
      intro j
      simp [World.frozen?, h2]
    rcases Nat.lt_or_ge i l.length with hlt | hge
    · rcases Nat.lt_or_ge cap (l.length + 1) with hno | hroom
      · -- in the middle, no room
        refine (Any2.slices_Insert_int_grow Try.lays21 g 0 l.length cap i w.heap.size 0 1 1 (l.map iv) [iv x] W hlt (by decide) h3 hno (by omega) hcl rfl hcs hv (oneCell_iv l) h1v).mono ?_
        rintro e w' ⟨rfl, rfl⟩
        generalize hcap : grownCap W (l.length + 1) cap (Try.lays21_ren.t 3) = C
        have hC1 := grownCap_ge W (l.length + 1) cap (Try.lays21_ren.t 3)
        have hC2 := grownCap_le_maxLen W (l.length + 1) cap (Try.lays21_ren.t 3) hml
        rw [hcap] at hC1 hC2
        have hz : ∀ n, (Builtin.zeroCells (Value.int .i64 0).cells n).toList = List.replicate n (iv 0) := by
          intro n
          apply List.ext_getElem
          · simp [Builtin.zeroCells, Value.cells]
          · intro j k1 k2
            simp [Builtin.zeroCells, Value.cells, Nat.mod_one]
        obtain ⟨c1, k1, k2⟩ := heap_setCells W.heap.size 3 (0, 0) [iv x] i (W.alloc (.cells (((l.map iv).take i).toArray ++ Builtin.zeroCells (Value.int .i64 0).cells (l.length + 1 - i) ++ Builtin.zeroCells (Value.int .i64 0).cells (C - (l.length + 1))) 3)).drew _ (heap_alloc_new W _) (by
          simp [Builtin.zeroCells, Value.cells]; omega)
        have hc1s : c1.size = C := by
          rw [← Array.length_toList, k2]
          simp [hz]
          omega
        obtain ⟨c2, m1, m2⟩ := heap_setCells W.heap.size 3 (0, 0) ((l.map iv).drop i) (i + 1) ((W.alloc (.cells (((l.map iv).take i).toArray ++ Builtin.zeroCells (Value.int .i64 0).cells (l.length + 1 - i) ++ Builtin.zeroCells (Value.int .i64 0).cells (C - (l.length + 1))) 3)).drew.setCells W.heap.size i [iv x]).drew c1 k1 (by
          simp; omega)
        have hc2s : c2.size = C := by
          rw [← Array.length_toList, m2]
          simp
          omega
        refine ⟨_, rfl, ?_, ?_⟩
        · refine ⟨by simp, .inr ⟨W.heap.size, C, c2, by rw [putAt_len x hi], by omega, m1, by rw [putAt_len x hi]; omega, hC2, by omega, ?_⟩⟩
          rw [putAt_len x hi, m2, k2, putAt_map]
          have := mid_take (A := (((l.map iv).take i).toArray ++ Builtin.zeroCells (Value.int .i64 0).cells (l.length + 1 - i) ++ Builtin.zeroCells (Value.int .i64 0).cells (C - (l.length + 1))).toList) (x := iv x) (cs := l.map iv) (i := i) (B := ((((l.map iv).take i).toArray ++ Builtin.zeroCells (Value.int .i64 0).cells (l.length + 1 - i) ++ Builtin.zeroCells (Value.int .i64 0).cells (C - (l.length + 1))).toList).drop (i + 1)) (C := (c1.toList).drop (i + 1 + ((l.map iv).drop i).length)) (by
            simp only [Array.toList_append, List.append_assoc]
            rw [take_front (by simp; omega)]) (by simp; omega)
          rw [k2] at this
          simpa using this
        · exact below_setCells (by omega) _ _ _ (below_setCells (by omega) _ _ _ ((Below.refl _ _).alloc (by omega) _).drew).drew
      · -- in the middle, in place
        have hcm : cap ≤ 9223372036854775807 := by unfold maxLen at h4; omega
        refine (Any2.slices_Insert_int_shift Try.lays21 g 0 l.length cap i w.heap.size 0 1 1 (l.map iv) [iv x] W hlt (by decide) hroom hcm (by omega) hcl rfl hcs (fun j hj => hsome j (by omega)) (fun j _ => hfz j) hv (oneCell_iv l) h1v
          3 3 1 cap (by simp [World.shape?, hnew]) (by simp [World.shape?, h2, hcur]) (by omega) (by simp [World.frozen?, hnew]) (by simp [World.frozen?, hnew])).mono ?_
        rintro e w' ⟨rfl, rfl⟩
        obtain ⟨c1, k1, k2⟩ := heap_setCells g 3 (0, 0) ((l.map iv).drop i) (0 + (i + 1)) W.drew cur h2 (by simp; omega)
        have hc1s : c1.size = cap := by
          rw [← Array.length_toList, k2]
          simp
          omega
        obtain ⟨c2, m1, m2⟩ := heap_setCells g 3 (0, 0) [iv x] (0 + i) (W.drew.setCells g (0 + (i + 1)) ((l.map iv).drop i)) c1 k1 (by simp; omega)
        have hc2s : c2.size = cap := by
          rw [← Array.length_toList, m2]
          simp
          omega
        refine ⟨_, rfl, ?_, ?_⟩
        · refine ⟨by simp, .inr ⟨g, cap, c2, by rw [putAt_len x hi], h1, m1, by rw [putAt_len x hi]; omega, h4, by omega, ?_⟩⟩
          rw [putAt_len x hi, m2, k2, putAt_map]
          have := mid_shift (A := cur.toList) (C := cur.toList.drop (0 + (i + 1) + ((l.map iv).drop i).length)) (x := iv x) (cs := l.map iv) (i := i) (by
            rw [← htake, List.take_take]; congr 1; omega) (by simp; omega)
          simpa using this
        · exact below_setCells h1 _ _ _ (below_setCells h1 _ _ _ (Below.refl _ _).drew)
    · have hil : i = l.length := by omega
      subst hil
      rcases Nat.lt_or_ge cap (l.length + 1) with hno | hroom
      · -- at the end, no room
        refine (Any2.slices_Insert_int_end_grow Try.lays21 (some ⟨g, 0, none⟩) l.length cap w.heap.size 0 1 1 (l.map iv) [iv x] W (by decide) h3 hno (by omega) hcl rfl (fun e => by cases e) (fun a e j v hj => by injection e with e; subst e; rw [← hcs j v hj]; rw [Addr.add_lit]) hv h1v).mono ?_
        rintro e w' ⟨rfl, rfl⟩
        refine ⟨_, rfl, ⟨by simp, .inr ⟨W.heap.size, _, _, by rw [putAt_len x hi], by omega, heap_alloc_new W.drew _, ?_, grownCap_le_maxLen _ _ _ _ hml, ?_, ?_⟩⟩, (Below.refl _ _).drew.alloc (by show base ≤ W.heap.size; omega) _⟩
        · rw [putAt_len x hi]; exact grownCap_ge _ _ _ _
        · have := grownCap_ge W (l.length + 1) cap (Try.lays21_ren.t 3)
          simp [Builtin.zeroCells, Value.cells]
          omega
        · rw [putAt_len x hi, putAt_end, Array.toList_append, take_front (by simp)]
      · -- at the end, in place
        have hcm : cap ≤ 9223372036854775807 := by unfold maxLen at h4; omega
        refine (Any2.slices_Insert_int_end_room Try.lays21 g 0 l.length cap w.heap.size 0 1 1 [iv x] W (by decide) hroom hcm rfl (fun j hj => by have := hsome (l.length + j) (by omega); simpa [Nat.add_assoc] using this) (fun j _ => by have := hfz (l.length + j); simpa [Nat.add_assoc] using this) hv h1v).mono ?_
        rintro e w' ⟨rfl, rfl⟩
        obtain ⟨c1, k1, k2⟩ := heap_setCells g 3 (0, 0) [iv x] (0 + l.length) W cur h2 (by simp; omega)
        have hc1s : c1.size = cap := by
          rw [← Array.length_toList, k2]
          simp
          omega
        refine ⟨_, rfl, ?_, ?_⟩
        · refine ⟨by simp, .inr ⟨g, cap, c1, by rw [putAt_len x hi], h1, k1, by rw [putAt_len x hi]; omega, h4, by omega, ?_⟩⟩
          rw [putAt_len x hi, k2, putAt_end, Nat.zero_add, htake, take_front (by simp)]
        · exact below_setCells h1 _ _ _ (Below.refl _ _)

end Go.Proofs.Ytaghbfnikcldiaa
