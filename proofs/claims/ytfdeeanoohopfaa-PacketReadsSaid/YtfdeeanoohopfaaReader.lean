/- A Reader in memory; what New, Number, Text, Done, Bad and spoil of package packet's Reader answer. -/
import Derived.Test.YtfdeeanoohopfaaRead
import Derived.Test.YtfdeeanoohopfaaSeal
namespace Go.Proofs.Ytfdeeanoohopfaa
open Go.ChangeShapes Go.WideShapes Go.ChangeAt Go.RowKit

/-- A Reader at block g: its bytes, how far they were read, whether it is BAD. -/
structure RdP (w : World) (g : Nat) (l : List Nat) (pos : Nat) (bad : Bool) : Prop where
  le : pos ≤ l.length
  len : l.length ≤ 1000000
  mem : ∃ a cap, w.heap[g]? = some (.cells #[.slice a l.length cap, .int .i64 (pos : Int), .bool bad] 61 (0, 0)) ∧ BytesP w a cap l ∧ ∀ b o, a = some ⟨b, o, none⟩ → b < g

theorem BytesP.keep {w w' : World} {a : Option Addr} {cap : Nat} {l : List Nat} {g : Nat} (h : BytesP w a cap l) (hg : ∀ b o, a = some ⟨b, o, none⟩ → b < g) (hb : Below g w w') : BytesP w' a cap l := by
  refine ⟨h.cap, h.len, h.byte, fun hne => ?_⟩
  obtain ⟨b, o, e, hlt, hc⟩ := h.cell hne
  exact ⟨b, o, e, Nat.lt_of_lt_of_le hlt hb.size, fun j x hx => (hb.cell (p := ⟨b, o + j, none⟩) (hg b o e)).trans (hc j x hx)⟩

theorem cells3 {w : World} {g : Nat} {p q r : Value} {T : TypeId} (h : w.heap[g]? = some (.cells #[p, q, r] T (0, 0))) :
    w.cell? ⟨g, 0, none⟩ = some p ∧ w.cell? ⟨g, 1, none⟩ = some q ∧ w.cell? ⟨g, 2, none⟩ = some r ∧ w.frozen? ⟨g, 1, none⟩ = false := by
  simp [World.cell?, World.frozen?, h]
theorem set3 {w : World} {g : Nat} {p q r : Value} {T : TypeId} (h : w.heap[g]? = some (.cells #[p, q, r] T (0, 0))) (x : Value) : (w.setCell ⟨g, 1, none⟩ x).heap[g]? = some (.cells #[p, x, r] T (0, 0)) := by
  simp [World.setCell, Array.getElem?_modify, h]

theorem size61 (a b c : Value) : (Try.prog.info? 61).map (·.size) = some #[a, b, c].size := by
  show _ = some 3
  kernel_rfl
theorem one61 (a : Option Addr) (n c : Nat) (p : Int) (b : Bool) : (#[Value.slice a n c, Value.int .i64 p, Value.bool b]).all (·.oneCell') = true := by simp [Value.oneCell']

theorem size_setRow3 (w : World) (g : Nat) (cs : Array Value) : (w.setRow g cs).heap.size = w.heap.size := by simp [World.setRow]
theorem below_setRow3 {B : Nat} {a w : World} (h : Below B a w) {g : Nat} (hg : B ≤ g) (cs : Array Value) : Below B a (w.setRow g cs) :=
  h.trans ⟨rfl, rfl, rfl, by rw [size_setRow3]; exact Nat.le_refl _, fun k hk => setRow_other w g k cs (by omega)⟩

/-- A Reader that is BAD. -/
theorem rd_bad {w : World} {g : Nat} (h : w.heap[g]? = some (.cells #[.slice none 0 0, .int .i64 0, .bool true] 61 (0, 0))) : RdP w g [] 0 true :=
  ⟨Nat.le_refl _, by simp, none, 0, h, BytesP.nil _ _ _, fun _ _ e => by cases e⟩

theorem RdP.lt {w : World} {g : Nat} {l : List Nat} {pos : Nat} {bad : Bool} (h : RdP w g l pos bad) : g < w.heap.size := by
  obtain ⟨a, c, h1, _⟩ := h.mem
  exact (Array.getElem?_eq_some_iff.1 h1).1

theorem RdP.below {w w' : World} {g : Nat} {l : List Nat} {pos : Nat} {bad : Bool} (h : RdP w g l pos bad) (hb : Below w.heap.size w w') : RdP w' g l pos bad := by
  obtain ⟨a, c, h1, h2, h3⟩ := h.mem
  exact ⟨h.le, h.len, a, c, (hb.block g h.lt).trans h1, h2.below hb, h3⟩

/-- The Reader has got BAD; nothing else has turned. -/
def Spoilt (g : Nat) (w : World) (v : Value) (e : Ending) (w' : World) : Prop := e = .returned v ∧ RdP w' g [] 0 true ∧ Below g w w'

set_option maxHeartbeats 2000000 in
theorem spoil_any (w : World) (g : Nat) (p q r : Value) (h : w.heap[g]? = some (.cells #[p, q, r] 61 (0, 0))) : Calls Try.prog 29 #[.pointer (some ⟨g, 0, none⟩)] w (Spoilt g w (.tuple #[])) := by
  have H := Lib.hid h
  clear h
  go_enter Try.func29, Try.ntmps29
  go_wp2_with (refine wpList_store_row rfl 61 _ _ rfl g #[.slice none 0 0, .int .i64 0, .bool true] rfl rfl 61 #[p, q, r] H.out (size61 _ _ _) rfl (one61 _ _ _ _ _) ?_)
  go_end0
  exact ⟨rfl, rd_bad (setRow_heap _ _ _ _ _ _ H.out), below_setRow3 (Below.refl _ _) (Nat.le_refl _) _⟩

set_option maxHeartbeats 2000000 in
theorem bad_any (w : World) (g : Nat) (l : List Nat) (pos : Nat) (bad : Bool) (h : RdP w g l pos bad) : Calls Try.prog 21 #[.pointer (some ⟨g, 0, none⟩)] w (BoolSame bad w) := by
  obtain ⟨a, cap, h1, _, _⟩ := h.mem
  obtain ⟨c0, c1, c2, f1⟩ := cells3 h1
  clear h h1
  go_enter Try.func21, Try.ntmps21
  go_wp2_with fail
  go_ret
  exact ⟨rfl, rfl⟩

set_option maxHeartbeats 2000000 in
theorem done_any (w : World) (g : Nat) (l : List Nat) (pos : Nat) (bad : Bool) (h : RdP w g l pos bad) : Calls Try.prog 15 #[.pointer (some ⟨g, 0, none⟩)] w (BoolB (!bad && decide (pos = l.length)) w) := by
  have hll := h.len
  have hpl := h.le
  obtain ⟨a, cap, h1, _, _⟩ := h.mem
  obtain ⟨c0, c1, c2, f1⟩ := cells3 h1
  clear h h1
  cases bad with
  | true =>
    go_enter Try.func15, Try.ntmps15
    go_wp2_with fail
    go_quiet (fail)
    go_wp2_with fail
    go_ret
    exact ⟨rfl, drewN_below _ _⟩
  | false =>
    cases hp : ((pos : Int) == (l.length : Int)) with
    | true =>
      have e : decide (pos = l.length) = true := by simp at hp; simp; omega
      have E := Lib.hid e
      clear e
      go_enter Try.func15, Try.ntmps15
      go_wp2_with fail
      go_quiet (fail)
      go_wp2_with fail
      go_ret
      exact ⟨by rw [E.out]; rfl, drewN_below _ _⟩
    | false =>
      have e : decide (pos = l.length) = false := by simp at hp; simp; omega
      have E := Lib.hid e
      clear e
      go_enter Try.func15, Try.ntmps15
      go_wp2_with fail
      go_quiet (fail)
      go_wp2_with fail
      go_ret
      exact ⟨by rw [E.out]; rfl, drewN_below _ _⟩

/-- A Reader is answered, at the beginning of these bytes. -/
def NewPost (l : List Nat) (w : World) (e : Ending) (w' : World) : Prop := ∃ g, e = .returned (.pointer (some ⟨g, 0, none⟩)) ∧ RdP w' g l 0 false ∧ Below w.heap.size w w' ∧ w.heap.size ≤ g

set_option maxHeartbeats 2000000 in
theorem new_any (a : Option Addr) (cap : Nat) (l : List Nat) (w : World) (h : BytesP w a cap l) (hl : l.length ≤ 1000000) : Calls Try.prog 11 #[.slice a l.length cap] w (NewPost l w) := by
  have C := Lib.hid (clone_any a cap l w h hl)
  have HB := Lib.hid h.byte
  clear h
  go_enter Try.func11, Try.ntmps11
  go_wp2_with fail
  refine C.out.mono ?_
  rintro e w1 ⟨v, rfl, o1, b1⟩
  obtain ⟨a1, c1, rfl, hB1⟩ := o1.bytes HB.out
  have HB1 := Lib.hid hB1
  have O1 := Lib.hid o1
  clear hB1 o1
  go_wp2_with fail
  go_ret
  refine ⟨_, rfl, ⟨Nat.zero_le _, hl, a1, c1, heap_alloc_new w1 _, HB1.out.below ((Below.refl _ _).alloc (Nat.le_refl _) _), fun b o e => ?_⟩, b1.alloc b1.size _, b1.size⟩
  subst e
  exact (World.ownsRow.lt O1.out b rfl).2

theorem quiet_num {f : FuncId} {args : Array Value} {w : World} {n : Nat} {r : Nat × Nat × Nat} (h : Calls Try.prog f args (w.drewN n) (NumPost r (w.drewN n))) :
    Calls Try.prog f args (w.drewN n) fun e w'' => e = .returned (.tuple #[.int .u64 (r.1 : Int), .int .i64 (r.2.1 : Int), .int .i64 (r.2.2 : Int)]) ∧ ∃ m, w'' = w.drewN m :=
  h.mono fun _ _ ⟨he, hm⟩ => ⟨he, n, hm.symm⟩

theorem RdP.drewN {w : World} {g : Nat} {l : List Nat} {pos : Nat} {bad : Bool} (h : RdP w g l pos bad) (n : Nat) : RdP (w.drewN n) g l pos bad := by
  obtain ⟨a, cap, h1, h2, h3⟩ := h.mem
  exact ⟨h.le, h.len, a, cap, h1, h2.below (drewN_below w n), h3⟩

/-- Further on. -/
theorem RdP.on {w : World} {g : Nat} {l : List Nat} {pos : Nat} (h : RdP w g l pos false) (q : Nat) (hq : q ≤ l.length) : RdP (w.setCell ⟨g, 1, none⟩ (.int .i64 (q : Int))) g l q false := by
  obtain ⟨a, cap, h1, h2, h3⟩ := h.mem
  exact ⟨hq, h.len, a, cap, set3 h1 _, h2.keep h3 ((Below.refl g w).setCell (p := ⟨g, 1, none⟩) (Nat.le_refl _) _), h3⟩

/-- A number is answered, and the Reader stands behind it. -/
def Gone (g : Nat) (l : List Nat) (pos : Nat) (w : World) (v : Value) (e : Ending) (w' : World) : Prop := e = .returned v ∧ RdP w' g l pos false ∧ Below g w w'

set_option maxHeartbeats 2000000 in
/-- Of a BAD one nothing is read. -/
theorem rdNumber_bad (w : World) (g : Nat) (l : List Nat) (pos : Nat) (most : Int) (h : RdP w g l pos true) : Calls Try.prog 13 #[.pointer (some ⟨g, 0, none⟩), .int .u64 most] w (fun e w' => e = .returned (.int .u64 0) ∧ w = w') := by
  obtain ⟨a, cap, h1, _, _⟩ := h.mem
  obtain ⟨c0, c1, c2, f1⟩ := cells3 h1
  clear h h1
  go_enter Try.func13, Try.ntmps13
  go_wp2_with fail
  go_ret
  exact ⟨rfl, rfl⟩

set_option maxHeartbeats 4000000 in
theorem rdNumber_err (w : World) (g : Nat) (l : List Nat) (pos most : Nat) (h : RdP w g l pos false) (hm : most < 18446744073709551616) (he : (numAt most 0 0 (l.drop pos)).2.2 ≠ 0) :
    Calls Try.prog 13 #[.pointer (some ⟨g, 0, none⟩), .int .u64 (most : Int)] w (Spoilt g w (.int .u64 0)) := by
  have hll := h.len
  have hpl := h.le
  obtain ⟨a, cap, h1, h2, h3⟩ := h.mem
  obtain ⟨c0, c1, c2, f1⟩ := cells3 h1
  obtain ⟨a2, cap2, s2, k2⟩ := slice_from (a := a) h2.cap pos (pos : Int) rfl hpl
  have C := Lib.hid (fun n => numberAt_any a2 cap2 (l.drop pos) most (w.drewN n) ((k2 w h2).below (drewN_below w n)) hm)
  have SP := Lib.hid (fun n => spoil_any (w.drewN n) g _ _ _ h1)
  have H2 := h2.cap
  clear h h1 h2 h3 k2
  generalize l.drop pos = d at *
  rcases numAt_errs most d 0 0 with hN | hN | ⟨v, s, hN, _, _⟩
  · rw [hN] at C
    clear hN he
    go_enter Try.func13, Try.ntmps13
    go_wp2_with fail
    go_quiet ((go_at_call 26; exact quiet_num (C.out _)))
    go_wp2_with fail
    refine (SP.out _).mono ?_
    rintro e w1 ⟨rfl, r1, b1⟩
    go_wp2_with fail
    go_ret
    exact ⟨rfl, r1, b1.os, b1.tape, b1.output, b1.size, b1.block⟩
  · rw [hN] at C
    clear hN he
    go_enter Try.func13, Try.ntmps13
    go_wp2_with fail
    go_quiet ((go_at_call 26; exact quiet_num (C.out _)))
    go_wp2_with fail
    refine (SP.out _).mono ?_
    rintro e w1 ⟨rfl, r1, b1⟩
    go_wp2_with fail
    go_ret
    exact ⟨rfl, r1, b1.os, b1.tape, b1.output, b1.size, b1.block⟩
  · rw [hN] at he
    exact absurd rfl he

set_option maxHeartbeats 4000000 in
theorem rdNumber_ok (w : World) (g : Nat) (l : List Nat) (pos most v s : Nat) (h : RdP w g l pos false) (hm : most < 18446744073709551616) (he : numAt most 0 0 (l.drop pos) = (v, s, 0)) (hs : pos + s ≤ l.length) :
    Calls Try.prog 13 #[.pointer (some ⟨g, 0, none⟩), .int .u64 (most : Int)] w (Gone g l (pos + s) w (.int .u64 (v : Int))) := by
  have hll := h.len
  have hpl := h.le
  have H := Lib.hid h
  obtain ⟨a, cap, h1, h2, h3⟩ := h.mem
  obtain ⟨c0, c1, c2, f1⟩ := cells3 h1
  obtain ⟨a2, cap2, s2, k2⟩ := slice_from (a := a) h2.cap pos (pos : Int) rfl hpl
  have C := Lib.hid (fun n => numberAt_any a2 cap2 (l.drop pos) most (w.drewN n) ((k2 w h2).below (drewN_below w n)) hm)
  have H2 := h2.cap
  rw [he] at C
  clear h h1 h2 h3 k2 he
  generalize l.drop pos = d at *
  obtain ⟨q, hq, HQ⟩ : ∃ q : Nat, (pos : Int) + (s : Int) = (q : Int) ∧ Hid (pos + s = q) := ⟨pos + s, by omega, rfl⟩
  go_enter Try.func13, Try.ntmps13
  go_wp2_with fail
  go_quiet ((go_at_call 26; exact quiet_num (C.out _)))
  go_wp2_with fail
  go_ret
  refine ⟨rfl, ?_, ?_⟩
  · rw [HQ.out]
    exact (H.out.drewN nq).on q (by have := HQ.out; omega)
  · exact (below_drewN (Below.refl g w) nq).setCell (p := ⟨g, 1, none⟩) (Nat.le_refl _) _

end Go.Proofs.Ytfdeeanoohopfaa
