/- The document's plate in memory; what its New, power, Limit, Get answer. -/
import Derived.Test.YtipikkniookanaaMine
namespace Go.Proofs.Ytipikkniookanaa
open Go.RowKit

attribute [local go_sem ↓] ld26 ld66 st26 st66 bx26 al26 al66 bd26 bd66 bs61 bs48 mk48 eq26 ap61 ap48 ap49 cp46 cp48
attribute [local go_sem] bx_agg al_cell al_wr bd_zero bd_one bd_two bd_nine

/-- The document's plate. -/
structure Rf where
  sure : List (List Nat)
  seen : List (List Nat)
  ats : List Nat
  what : List (List Nat)
  off : Bool
  counts : Bool
  left : Int

structure Rf.Good (r : Rf) : Prop where
  size : r.seen.length = r.sure.length
  most : r.sure.length ≤ 4096
  cs : Cells r.sure
  cl : Cells r.seen
  cw : Cells r.what
  ai : ∀ i ∈ r.ats, i < r.sure.length
  fewA : r.ats.length ≤ 100000
  fewW : r.what.length ≤ 100000
  cnt : r.counts = true → 0 ≤ r.left ∧ r.left ≤ 9223372036854775807

def rowI (l : List Nat) : List Value := l.map fun x : Nat => Value.int .i64 (x : Int)

/-- They lie in no block together. -/
def Apt (v u : Value) : Prop := ∀ b, v.ownBlock = some b → u.ownBlock = some b → False

/-- The document's plate at block g. -/
structure RfM (w : World) (R : Nat → Prop) (g : Nat) (sv lv av wv : Value) (r : Rf) : Prop where
  good : r.Good
  dom : ∀ k, R k → k < w.heap.size
  head : w.heap[g]? = some (.cells #[sv, lv, av, wv, .bool r.off, .bool r.counts, .int .i64 r.left] 81 (0, 0))
  os : w.ownsRow 0 90 64 sv r.sure.length (rowL r.sure)
  ol : w.ownsRow 0 90 64 lv r.seen.length (rowL r.seen)
  oa : w.ownsRow 0 3 1 av r.ats.length (rowI r.ats)
  ow : w.ownsRow 0 90 64 wv r.what.length (rowL r.what)
  rg : R g
  bs : ∀ b, sv.ownBlock = some b → R b ∧ b ≠ g
  bl : ∀ b, lv.ownBlock = some b → R b ∧ b ≠ g
  ba : ∀ b, av.ownBlock = some b → R b ∧ b ≠ g
  bw : ∀ b, wv.ownBlock = some b → R b ∧ b ≠ g
  sl : Apt sv lv
  sa : Apt sv av
  sw : Apt sv wv
  la : Apt lv av
  lw : Apt lv wv
  aw : Apt av wv

def RefP (w : World) (R : Nat → Prop) (g : Nat) (r : Rf) : Prop := ∃ sv lv av wv, RfM w R g sv lv av wv r

section
variable {w w' : World} {R : Nat → Prop} {g : Nat} {sv lv av wv : Value} {r : Rf}

theorem RfM.same (h : RfM w R g sv lv av wv r) (hs : w.heap.size ≤ w'.heap.size) (hb : ∀ k, R k → w'.heap[k]? = w.heap[k]?) : RfM w' R g sv lv av wv r :=
  ⟨h.good, fun k hk => Nat.lt_of_lt_of_le (h.dom k hk) hs, (hb g h.rg).trans h.head, ownsRow_same h.os (fun k hk => hb k (h.bs k hk).1), ownsRow_same h.ol (fun k hk => hb k (h.bl k hk).1), ownsRow_same h.oa (fun k hk => hb k (h.ba k hk).1), ownsRow_same h.ow (fun k hk => hb k (h.bw k hk).1), h.rg, h.bs, h.bl, h.ba, h.bw, h.sl, h.sa, h.sw, h.la, h.lw, h.aw⟩
theorem RfM.below (h : RfM w R g sv lv av wv r) (hb : Below w.heap.size w w') : RfM w' R g sv lv av wv r := h.same hb.size (fun k hk => hb.block k (h.dom k hk))
theorem RfM.drew (h : RfM w R g sv lv av wv r) : RfM w.drew R g sv lv av wv r := h.same (Nat.le_refl _) (fun _ _ => rfl)
theorem RfM.alloc (h : RfM w R g sv lv av wv r) (o : Obj) : RfM (w.alloc o) R g sv lv av wv r := h.below ((Below.refl _ _).alloc (Nat.le_refl _) o)
theorem RfM.mono {S : Nat → Prop} (h : RfM w R g sv lv av wv r) (hS : ∀ k, S k → k < w.heap.size) (hRS : ∀ k, R k → S k) : RfM w S g sv lv av wv r :=
  ⟨h.good, hS, h.head, h.os, h.ol, h.oa, h.ow, hRS _ h.rg, fun b hb => ⟨hRS _ (h.bs b hb).1, (h.bs b hb).2⟩, fun b hb => ⟨hRS _ (h.bl b hb).1, (h.bl b hb).2⟩, fun b hb => ⟨hRS _ (h.ba b hb).1, (h.ba b hb).2⟩, fun b hb => ⟨hRS _ (h.bw b hb).1, (h.bw b hb).2⟩, h.sl, h.sa, h.sw, h.la, h.lw, h.aw⟩
theorem RfM.ext {w0 : World} (h : RfM w R g sv lv av wv r) : RfM w (ext R w0 w) g sv lv av wv r := h.mono (fun k hk => hk.elim (h.dom k) (fun e => e.2)) (fun _ e => .inl e)

theorem head7 {a b c d e f i : Value} {T : TypeId} (h : w.heap[g]? = some (.cells #[a, b, c, d, e, f, i] T (0, 0))) :
    w.cell? ⟨g, 0, none⟩ = some a ∧ w.cell? ⟨g, 1, none⟩ = some b ∧ w.cell? ⟨g, 2, none⟩ = some c ∧ w.cell? ⟨g, 3, none⟩ = some d ∧ w.cell? ⟨g, 4, none⟩ = some e ∧ w.cell? ⟨g, 5, none⟩ = some f ∧ w.cell? ⟨g, 6, none⟩ = some i ∧ ∀ j, w.frozen? ⟨g, j, none⟩ = false := by
  simp [World.cell?, World.frozen?, h]

/-- A field that is no list is written. -/
theorem RfM.setHead (h : RfM w R g sv lv av wv r) {j : Nat} {v : Value} {off counts : Bool} {left : Int} (hg : counts = true → 0 ≤ left ∧ left ≤ 9223372036854775807)
    (hc : (#[sv, lv, av, wv, .bool r.off, .bool r.counts, .int .i64 r.left] : Array Value).setIfInBounds j v = #[sv, lv, av, wv, .bool off, .bool counts, .int .i64 left]) :
    RfM (w.setCell ⟨g, j, none⟩ v) R g sv lv av wv { r with off := off, counts := counts, left := left } := by
  have hb : ∀ k, k ≠ g → (w.setCell ⟨g, j, none⟩ v).heap[k]? = w.heap[k]? := fun k hk => heap_setCell_other w ⟨g, j, none⟩ k v hk
  exact ⟨⟨h.good.size, h.good.most, h.good.cs, h.good.cl, h.good.cw, h.good.ai, h.good.fewA, h.good.fewW, hg⟩, fun k hk => by simp [World.setCell]; exact h.dom k hk, by rw [heap_setCell_same w g j _ _ _ h.head, hc], ownsRow_same h.os (fun k hk => hb k (h.bs k hk).2), ownsRow_same h.ol (fun k hk => hb k (h.bl k hk).2), ownsRow_same h.oa (fun k hk => hb k (h.ba k hk).2), ownsRow_same h.ow (fun k hk => hb k (h.bw k hk).2), h.rg, h.bs, h.bl, h.ba, h.bw, h.sl, h.sa, h.sw, h.la, h.lw, h.aw⟩

theorem upd_set (w : World) (g j : Nat) (v : Value) : Upd g w (w.setCell ⟨g, j, none⟩ v) := ⟨rfl, rfl, rfl, by simp [World.setCell], fun k hk => heap_setCell_other w ⟨g, j, none⟩ k _ hk⟩
theorem upd_refl (g : Nat) (w : World) : Upd g w w := ⟨rfl, rfl, rfl, rfl, fun _ _ => rfl⟩
theorem Upd.trans {g : Nat} {a b c : World} (h : Upd g a b) (k : Upd g b c) : Upd g a c := ⟨k.os.trans h.os, k.tape.trans h.tape, k.output.trans h.output, k.size.trans h.size, fun i hi => (k.block i hi).trans (h.block i hi)⟩

/-- Is there power for one write? -/
def Rf.power (r : Rf) : Bool × Rf := if r.off || (r.counts && r.left == 0) then (false, { r with off := true }) else (true, { r with left := if r.counts then r.left - 1 else r.left })

set_option maxHeartbeats 2000000 in
theorem power_any (h : RfM w R g sv lv av wv r) : Calls Try.prog 68 #[ptr g] w (fun e w' => e = .returned (.bool r.power.1) ∧ RfM w' R g sv lv av wv r.power.2 ∧ Upd g w w') := by
  obtain ⟨c0, c1, c2, c3, c4, c5, c6, hf⟩ := head7 h.head
  have H := Lib.hid h
  have hcn := h.good.cnt
  have UR := Lib.hid (upd_refl g w)
  have US := Lib.hid (fun j v => upd_set w g j v)
  clear h
  obtain ⟨sure, seen, ats, what, off, counts, left⟩ := r
  simp only at c4 c5 c6 hcn
  cases counts with
  | true =>
    have hr := hcn rfl
    clear hcn
    cases t0 : (left == 0) with
    | true =>
      have E := Lib.hid (show Rf.power ⟨sure, seen, ats, what, off, true, left⟩ = (false, ⟨sure, seen, ats, what, true, true, left⟩) by simp [Rf.power, t0])
      go_enter Try.func68, Try.ntmps68
      go_wp2_with fail
      go_ret
      exact ⟨by rw [E.out]; rfl, by rw [E.out]; exact H.out.setHead (fun _ => hr) rfl, US.out _ _⟩
    | false =>
      cases off with
      | true =>
        have E := Lib.hid (show Rf.power ⟨sure, seen, ats, what, true, true, left⟩ = (false, ⟨sure, seen, ats, what, true, true, left⟩) by simp [Rf.power])
        go_enter Try.func68, Try.ntmps68
        go_wp2_with fail
        go_ret
        exact ⟨by rw [E.out]; rfl, by rw [E.out]; exact H.out, UR.out⟩
      | false =>
        have E := Lib.hid (show Rf.power ⟨sure, seen, ats, what, false, true, left⟩ = (true, ⟨sure, seen, ats, what, false, true, left - 1⟩) by simp [Rf.power, t0])
        have hw : IntKind.i64.wrap (left - 1) = left - 1 := IntWalk.i64_in _ (by simp at t0; omega)
        have hr2 := Lib.hid (show 0 ≤ left - 1 ∧ left - 1 ≤ 9223372036854775807 by simp at t0; omega)
        go_enter Try.func68, Try.ntmps68
        go_wp2_with fail
        go_ret
        exact ⟨by rw [E.out]; rfl, by rw [E.out]; exact H.out.setHead (fun _ => hr2.out) rfl, US.out _ _⟩
  | false =>
    clear hcn
    cases off with
    | true =>
      have E := Lib.hid (show Rf.power ⟨sure, seen, ats, what, true, false, left⟩ = (false, ⟨sure, seen, ats, what, true, false, left⟩) by simp [Rf.power])
      go_enter Try.func68, Try.ntmps68
      go_wp2_with fail
      go_ret
      exact ⟨by rw [E.out]; rfl, by rw [E.out]; exact H.out, UR.out⟩
    | false =>
      have E := Lib.hid (show Rf.power ⟨sure, seen, ats, what, false, false, left⟩ = (true, ⟨sure, seen, ats, what, false, false, left⟩) by simp [Rf.power])
      go_enter Try.func68, Try.ntmps68
      go_wp2_with fail
      go_ret
      exact ⟨by rw [E.out]; rfl, by rw [E.out]; exact H.out, UR.out⟩

def Rf.limit (r : Rf) (n : Int) : Rf := { r with counts := decide (0 ≤ n), left := n }

set_option maxHeartbeats 2000000 in
theorem refLimit_any (h : RfM w R g sv lv av wv r) (n : Int) (hn : n ≤ 9223372036854775807) : Calls Try.prog 22 #[ptr g, .int .i64 n] w (fun e w' => e = .returned (.tuple #[]) ∧ RfM w' R g sv lv av wv (r.limit n) ∧ Upd g w w') := by
  obtain ⟨c0, c1, c2, c3, c4, c5, c6, hf⟩ := head7 h.head
  have H := Lib.hid h
  clear h
  go_enter Try.func22, Try.ntmps22
  go_wp2_with fail
  go_end0
  have hg1 : r.counts = true → 0 ≤ r.left ∧ r.left ≤ 9223372036854775807 := H.out.good.cnt
  have e1 : (w.setCell ⟨g, 5, none⟩ (.bool (decide (0 ≤ n)))).heap[g]? = some (.cells #[sv, lv, av, wv, .bool r.off, .bool (decide (0 ≤ n)), .int .i64 r.left] 81 (0, 0)) := by rw [heap_setCell_same w g 5 _ _ _ H.out.head]; rfl
  have e2 : ((w.setCell ⟨g, 5, none⟩ (.bool (decide (0 ≤ n)))).setCell ⟨g, 6, none⟩ (.int .i64 n)).heap[g]? = some (.cells #[sv, lv, av, wv, .bool r.off, .bool (decide (0 ≤ n)), .int .i64 n] 81 (0, 0)) := by rw [heap_setCell_same _ g 6 _ _ _ e1]; rfl
  have u := (upd_set w g 5 (.bool (decide (0 ≤ n)))).trans (upd_set _ g 6 (.int .i64 n))
  have hb := u.block
  have h := H.out
  refine ⟨rfl, ⟨⟨h.good.size, h.good.most, h.good.cs, h.good.cl, h.good.cw, h.good.ai, h.good.fewA, h.good.fewW, fun hc => ?_⟩, fun k hk => by rw [u.size]; exact h.dom k hk, e2, ownsRow_same h.os (fun k hk => hb k (h.bs k hk).2), ownsRow_same h.ol (fun k hk => hb k (h.bl k hk).2), ownsRow_same h.oa (fun k hk => hb k (h.ba k hk).2), ownsRow_same h.ow (fun k hk => hb k (h.bw k hk).2), h.rg, h.bs, h.bl, h.ba, h.bw, h.sl, h.sa, h.sw, h.la, h.lw, h.aw⟩, u⟩
  have : 0 ≤ n := by simpa [Rf.limit] using hc
  exact ⟨this, hn⟩

def Rf.has (r : Rf) (i : Int) : Bool := decide (0 ≤ i) && decide (i < (r.seen.length : Int))
def Rf.get (r : Rf) (i : Int) : List Nat := if r.has i then r.seen.getD i.toNat [] else zeroC
def Rf.getE (r : Rf) (i : Int) : Int := if r.has i then 0 else 71

theorem Rf.get_none {i : Int} (h : r.has i = false) : r.get i = zeroC ∧ r.getE i = 71 := by simp [Rf.get, Rf.getE, h]
theorem Rf.get_some {k : Nat} (h : r.has (k : Int) = true) : r.get (k : Int) = r.seen.getD k [] ∧ r.getE (k : Int) = 0 := by simp [Rf.get, Rf.getE, h]

/-- A row that holds something lies in a block. -/
theorem own_some {e : TypeId} {size : Nat} {v : Value} {n : Nat} {xs : List Value} (h : w.ownsRow 0 e size v n xs) (hn : 0 < n) : ∃ b cap, v = .slice (some ⟨b, 0, none⟩) n cap ∧ n ≤ cap ∧ RowAt w b e xs := by
  rcases h.2 with ⟨_, h0⟩ | ⟨b, cap, cur, rfl, _, _, h3, _⟩
  · omega
  · exact ⟨b, cap, rfl, h3, rowAt_own h rfl⟩

end

def Rf.new (n : Nat) : Rf := ⟨List.replicate n zeroC, List.replicate n zeroC, [], [], false, false, 0⟩

/-- A new one of the document's. -/
def RefNew (n : Nat) (w : World) (e : Ending) (w' : World) : Prop := ∃ g, e = .returned (ptr g) ∧ RefP w' (fun k => w.heap.size ≤ k ∧ k < w'.heap.size) g (Rf.new n) ∧ Below w.heap.size w w'

theorem own_zero {n : Nat} {w : World} {b : Nat} (hn : n ≤ 4096) (h : w.heap[b]? = some (.cells (rowZ n) 90 (0, 0))) : w.ownsRow 0 90 64 (.slice (some ⟨b, 0, none⟩) n n) n (rowL (List.replicate n zeroC)) := by
  have hl := rowL_len (Cells.zero n)
  rw [List.length_replicate] at hl
  exact ⟨hl, .inr ⟨b, n, _, rfl, Nat.zero_le _, h, Nat.le_refl _, by unfold maxLen; omega, by rw [rowZ, List.size_toArray, hl], by rw [rowZ, List.toList_toArray, List.take_of_length_le (by omega)]⟩⟩

theorem refNew_mem (n : Nat) (hn : n ≤ 4096) (w : World) (b c : Nat) (hbc : (b = w.heap.size ∧ c = w.heap.size + 1) ∨ (c = w.heap.size ∧ b = w.heap.size + 1)) :
    RefNew n w (.returned (ptr (w.heap.size + 2))) (((w.alloc (.cells (rowZ n) 90)).alloc (.cells (rowZ n) 90)).alloc (.cells #[.slice (some ⟨b, 0, none⟩) n n, .slice (some ⟨c, 0, none⟩) n n, .slice none 0 0, .slice none 0 0, .bool false, .bool false, .int .i64 0] 81)).drew := by
  obtain ⟨X, hX⟩ : ∃ X : Obj, X = .cells #[.slice (some ⟨b, 0, none⟩) n n, .slice (some ⟨c, 0, none⟩) n n, .slice none 0 0, .slice none 0 0, .bool false, .bool false, .int .i64 0] 81 := ⟨_, rfl⟩
  rw [← hX]
  have b0 := (Below.refl w.heap.size w).alloc (Nat.le_refl _) (.cells (rowZ n) 90)
  have b1 := b0.alloc b0.size (.cells (rowZ n) 90)
  have b2 := b1.alloc b1.size X
  have e0 : ∀ k, k = w.heap.size ∨ k = w.heap.size + 1 → (((w.alloc (.cells (rowZ n) 90)).alloc (.cells (rowZ n) 90)).alloc X).drew.heap[k]? = some (.cells (rowZ n) 90 (0, 0)) := by
    intro k hk
    show (((w.alloc (.cells (rowZ n) 90)).alloc (.cells (rowZ n) 90)).alloc _).heap[k]? = _
    rw [Below.heap_alloc _ _ k (by simp; omega)]
    rcases hk with rfl | rfl
    · exact heap_alloc2_old w _ _
    · exact heap_alloc2_new w _ _
  have e2 : (((w.alloc (.cells (rowZ n) 90)).alloc (.cells (rowZ n) 90)).alloc X).drew.heap[w.heap.size + 2]? = some X := by
    have := heap_alloc_new ((w.alloc (.cells (rowZ n) 90)).alloc (.cells (rowZ n) 90)) X
    rw [show ((w.alloc (.cells (rowZ n) 90)).alloc (.cells (rowZ n) 90)).heap.size = w.heap.size + 2 by simp] at this
    exact this
  have hsz : (((w.alloc (.cells (rowZ n) 90)).alloc (.cells (rowZ n) 90)).alloc X).drew.heap.size = w.heap.size + 3 := by
    show (((w.alloc _).alloc _).alloc _).heap.size = _
    simp
  have ob : ∀ k m, (Value.slice (some ⟨k, 0, none⟩) m m).ownBlock = some k := fun _ _ => rfl
  have hl : (List.replicate n zeroC).length = n := List.length_replicate
  refine ⟨_, rfl, ⟨.slice (some ⟨b, 0, none⟩) n n, .slice (some ⟨c, 0, none⟩) n n, .slice none 0 0, .slice none 0 0, ⟨rfl, by simp [Rf.new, hn], Cells.zero n, Cells.zero n, fun x hx => by simp [Rf.new] at hx, fun x hx => by simp [Rf.new] at hx, by simp [Rf.new], by simp [Rf.new], fun h => by simp [Rf.new] at h⟩, fun k hk => hk.2, by rw [e2, hX]; rfl, ?_, ?_, World.ownsRow_nil _ _ _ _, World.ownsRow_nil _ _ _ _, ⟨by omega, by omega⟩, ?_, ?_, (fun k hk => by cases hk), (fun k hk => by cases hk), ?_, (fun k _ hk => by cases hk), (fun k _ hk => by cases hk), (fun k _ hk => by cases hk), (fun k _ hk => by cases hk), (fun k hk => by cases hk)⟩, b2.drew⟩
  · have := own_zero hn (e0 b (by omega)); simpa only [Rf.new, hl] using this
  · have := own_zero hn (e0 c (by omega)); simpa only [Rf.new, hl] using this
  · intro k hk
    rw [ob] at hk
    injection hk with hk
    exact ⟨⟨by omega, by omega⟩, by omega⟩
  · intro k hk
    rw [ob] at hk
    injection hk with hk
    exact ⟨⟨by omega, by omega⟩, by omega⟩
  · intro k hk hk2
    rw [ob] at hk hk2
    injection hk with hk
    injection hk2 with hk2
    omega

set_option maxHeartbeats 2000000 in
theorem refNew_any (n : Int) (w : World) : Calls Try.prog 16 #[.int .i64 n] w (RefNew (clampN n 4096) w) := by
  have hm := clampN_le n 4096
  have F := Lib.hid (refNew_mem (clampN n 4096) hm w)
  cases t0 : decide (n < 0) with
  | true =>
    have e : clampN n 4096 = 0 := by unfold clampN; simp at t0; omega
    rw [e] at F ⊢
    have M : ∀ W, MkR 67 (.int .i64 0) (.int .i64 0) W = .ok (.value (.slice (some ⟨W.heap.size, 0, none⟩) 0 0)) (W.alloc (.cells (rowZ 0) 90)) := mk_cells 0 (by omega)
    clear e hm
    go_enter Try.func16, Try.ntmps16
    go_wp2_with fail
    go_region
    all_goals
      go_wp2_with fail
      go_ret
      first
        | exact F.out _ _ (.inl ⟨rfl, rfl⟩)
        | exact F.out _ _ (.inr ⟨rfl, rfl⟩)
  | false =>
    cases t1 : decide (4096 < n) with
    | true =>
      have e : clampN n 4096 = 4096 := by unfold clampN; simp at t1; omega
      rw [e] at F ⊢
      have M : ∀ W, MkR 67 (.int .i64 4096) (.int .i64 4096) W = .ok (.value (.slice (some ⟨W.heap.size, 0, none⟩) 4096 4096)) (W.alloc (.cells (rowZ 4096) 90)) := mk_cells 4096 (by omega)
      generalize rowZ 4096 = rz at *
      clear e hm
      go_enter Try.func16, Try.ntmps16
      go_wp2_with fail
      go_region
      all_goals
        go_wp2_with fail
        go_ret
        first
          | exact F.out _ _ (.inl ⟨rfl, rfl⟩)
          | exact F.out _ _ (.inr ⟨rfl, rfl⟩)
    | false =>
      obtain ⟨m, rfl⟩ := Int.eq_ofNat_of_zero_le (show 0 ≤ n by simp at t0; omega)
      have e : clampN (m : Int) 4096 = m := by unfold clampN; simp at t1; omega
      rw [e] at F hm ⊢
      have M := mk_cells m hm
      clear e hm
      go_enter Try.func16, Try.ntmps16
      go_wp2_with fail
      go_region
      all_goals
        go_wp2_with fail
        go_ret
        first
          | exact F.out _ _ (.inl ⟨rfl, rfl⟩)
          | exact F.out _ _ (.inr ⟨rfl, rfl⟩)

end Go.Proofs.Ytipikkniookanaa
