/- A Reader in memory; what New, Number, Text, Done, Bad and spoil of package packet's Reader answer. -/
import Derived.Test.YtciijkognhdddaaBkRead
import Derived.Deep.QuietTactic
import Derived.BigQuiet
namespace Go.Proofs.Ytciijkognhdddaa
set_option maxRecDepth 100000
open Go.ChangeShapes Go.WideShapes Go.ChangeAt Go.RowKit

/-- All but one block is as it was. -/
structure But (g : Nat) (w w' : World) : Prop where
  os : w'.os = w.os
  tape : w'.tape = w.tape
  output : w'.output = w.output
  size : w.heap.size ≤ w'.heap.size
  block : ∀ k, k < w.heap.size → k ≠ g → w'.heap[k]? = w.heap[k]?

theorem But.refl (g : Nat) (w : World) : But g w w := ⟨rfl, rfl, rfl, Nat.le_refl _, fun _ _ _ => rfl⟩
theorem But.trans {g : Nat} {a b c : World} (h : But g a b) (k : But g b c) : But g a c :=
  ⟨k.os.trans h.os, k.tape.trans h.tape, k.output.trans h.output, Nat.le_trans h.size k.size, fun i hi hg => (k.block i (Nat.lt_of_lt_of_le hi h.size) hg).trans (h.block i hi hg)⟩
theorem But.of {g : Nat} {w w' : World} (h : Below w.heap.size w w') : But g w w' := ⟨h.os, h.tape, h.output, h.size, fun k hk _ => h.block k hk⟩
theorem But.below {g B : Nat} {w w' : World} (h : But g w w') (hg : B ≤ g) (hB : B ≤ w.heap.size) : Below B w w' := ⟨h.os, h.tape, h.output, h.size, fun k hk => h.block k (by omega) (by omega)⟩
theorem But.drewN {g : Nat} {w w' : World} (h : But g w w') (n : Nat) : But g w (w'.drewN n) := ⟨h.os, h.tape, h.output, h.size, h.block⟩
theorem But.set {g : Nat} {w w' : World} (h : But g w w') (o : Nat) (v : Value) : But g w (w'.setCell ⟨g, o, none⟩ v) :=
  ⟨h.os, h.tape, h.output, by simp [World.setCell]; exact h.size, fun k hk hg => by rw [← h.block k hk hg]; simp [World.setCell, Array.getElem?_modify, Ne.symm hg]⟩
theorem But.setRow {g : Nat} {w w' : World} (h : But g w w') (cs : Array Value) : But g w (w'.setRow g cs) :=
  ⟨h.os, h.tape, h.output, by simp [World.setRow]; exact h.size, fun k hk hg => by rw [← h.block k hk hg]; exact setRow_other w' g k cs hg⟩

/-- A Reader at block g: its bytes, how far they were read, whether it is BAD. -/
structure RdP (w : World) (g : Nat) (l : List Nat) (pos : Nat) (bad : Bool) : Prop where
  le : pos ≤ l.length
  len : l.length ≤ 1000000
  mem : ∃ a cap, w.heap[g]? = some (.cells #[.slice a l.length cap, .int .i64 (pos : Int), .bool bad] 74 (0, 0)) ∧ BytesP w a cap l ∧ ∀ b o, a = some ⟨b, o, none⟩ → b < g

theorem BytesP.but {w w' : World} {a : Option Addr} {cap : Nat} {l : List Nat} {g : Nat} (h : BytesP w a cap l) (hg : ∀ b o, a = some ⟨b, o, none⟩ → b < g) (hb : But g w w') : BytesP w' a cap l := by
  refine ⟨h.cap, h.len, h.byte, fun hne => ?_⟩
  obtain ⟨b, o, e, hlt, hc⟩ := h.cell hne
  exact ⟨b, o, e, Nat.lt_of_lt_of_le hlt hb.size, fun j x hx => (World.cell?_of_block (a := ⟨b, o + j, none⟩) (hb.block b hlt (Nat.ne_of_lt (hg b o e)))).trans (hc j x hx)⟩

theorem cells3 {w : World} {g : Nat} {p q r : Value} {T : TypeId} (h : w.heap[g]? = some (.cells #[p, q, r] T (0, 0))) :
    w.cell? ⟨g, 0, none⟩ = some p ∧ w.cell? ⟨g, 1, none⟩ = some q ∧ w.cell? ⟨g, 2, none⟩ = some r ∧ w.frozen? ⟨g, 1, none⟩ = false := by
  simp [World.cell?, World.frozen?, h]
theorem set3 {w : World} {g : Nat} {p q r : Value} {T : TypeId} (h : w.heap[g]? = some (.cells #[p, q, r] T (0, 0))) (x : Value) : (w.setCell ⟨g, 1, none⟩ x).heap[g]? = some (.cells #[p, x, r] T (0, 0)) := by
  simp [World.setCell, Array.getElem?_modify, h]

theorem size61 (a b c : Value) : (Try.prog.info? 74).map (·.size) = some #[a, b, c].size := by
  show _ = some 3
  kernel_rfl
theorem one61 (a : Option Addr) (n c : Nat) (p : Int) (b : Bool) : (#[Value.slice a n c, Value.int .i64 p, Value.bool b]).all (·.oneCell') = true := by simp [Value.oneCell']

/-- A Reader that is BAD. -/
theorem rd_bad {w : World} {g : Nat} (h : w.heap[g]? = some (.cells #[.slice none 0 0, .int .i64 0, .bool true] 74 (0, 0))) : RdP w g [] 0 true :=
  ⟨Nat.le_refl _, by simp, none, 0, h, BytesP.nil _ _ _, fun _ _ e => by cases e⟩

theorem RdP.lt {w : World} {g : Nat} {l : List Nat} {pos : Nat} {bad : Bool} (h : RdP w g l pos bad) : g < w.heap.size := by
  obtain ⟨a, c, h1, _⟩ := h.mem
  exact (Array.getElem?_eq_some_iff.1 h1).1

theorem RdP.below {w w' : World} {g : Nat} {l : List Nat} {pos : Nat} {bad : Bool} (h : RdP w g l pos bad) (hb : Below w.heap.size w w') : RdP w' g l pos bad := by
  obtain ⟨a, c, h1, h2, h3⟩ := h.mem
  exact ⟨h.le, h.len, a, c, (hb.block g h.lt).trans h1, h2.below hb, h3⟩

/-- The Reader has got BAD; nothing else has turned. -/
def Spoilt (g : Nat) (w : World) (v : Value) (e : Ending) (w' : World) : Prop := e = .returned v ∧ RdP w' g [] 0 true ∧ But g w w'

set_option maxHeartbeats 2000000 in
theorem spoil_any (w : World) (g : Nat) (p q r : Value) (h : w.heap[g]? = some (.cells #[p, q, r] 74 (0, 0))) : Calls Try.prog 54 #[.pointer (some ⟨g, 0, none⟩)] w (Spoilt g w (.tuple #[])) := by
  have H := Lib.hid h
  clear h
  go_enter Try.func54, Try.ntmps54
  go_wp2_with (refine wpList_store_row rfl 74 _ _ rfl g #[.slice none 0 0, .int .i64 0, .bool true] rfl rfl 74 #[p, q, r] H.out (size61 _ _ _) rfl (one61 _ _ _ _ _) ?_)
  go_end0
  exact ⟨rfl, rd_bad (setRow_heap _ _ _ _ _ _ H.out), (But.refl _ _).setRow _⟩

set_option maxHeartbeats 2000000 in
theorem bad_any (w : World) (g : Nat) (l : List Nat) (pos : Nat) (bad : Bool) (h : RdP w g l pos bad) : Calls Try.prog 39 #[.pointer (some ⟨g, 0, none⟩)] w (BoolSame bad w) := by
  obtain ⟨a, cap, h1, _, _⟩ := h.mem
  obtain ⟨c0, c1, c2, f1⟩ := cells3 h1
  clear h h1
  go_enter Try.func39, Try.ntmps39
  go_wp2_with fail
  go_ret
  exact ⟨rfl, rfl⟩

set_option maxHeartbeats 2000000 in
theorem done_any (w : World) (g : Nat) (l : List Nat) (pos : Nat) (bad : Bool) (h : RdP w g l pos bad) : Calls Try.prog 30 #[.pointer (some ⟨g, 0, none⟩)] w (BoolB (!bad && decide (pos = l.length)) w) := by
  have hll := h.len
  have hpl := h.le
  obtain ⟨a, cap, h1, _, _⟩ := h.mem
  obtain ⟨c0, c1, c2, f1⟩ := cells3 h1
  clear h h1
  cases bad with
  | true =>
    go_enter Try.func30, Try.ntmps30
    go_wp2_with fail
    go_quiet (fail)
    go_wp2_with fail
    go_ret
    exact ⟨rfl, drewN_below _ _⟩
  | false =>
    cases hp : ((pos : Int) == (l.length : Int)) with
    | true =>
      have e : decide (pos = l.length) = true := by simp at hp; simp; omega
      have E := Lib.hid e
      clear e
      go_enter Try.func30, Try.ntmps30
      go_wp2_with fail
      go_quiet (fail)
      go_wp2_with fail
      go_ret
      exact ⟨by rw [E.out]; rfl, drewN_below _ _⟩
    | false =>
      have e : decide (pos = l.length) = false := by simp at hp; simp; omega
      have E := Lib.hid e
      clear e
      go_enter Try.func30, Try.ntmps30
      go_wp2_with fail
      go_quiet (fail)
      go_wp2_with fail
      go_ret
      exact ⟨by rw [E.out]; rfl, drewN_below _ _⟩

/-- A Reader is answered, at the beginning of these bytes. -/
def NewPost (l : List Nat) (w : World) (e : Ending) (w' : World) : Prop := ∃ g, e = .returned (.pointer (some ⟨g, 0, none⟩)) ∧ RdP w' g l 0 false ∧ Below w.heap.size w w' ∧ w.heap.size ≤ g

set_option maxHeartbeats 2000000 in
theorem new_any (a : Option Addr) (cap : Nat) (l : List Nat) (w : World) (h : BytesP w a cap l) (hl : l.length ≤ 1000000) : Calls Try.prog 25 #[.slice a l.length cap] w (NewPost l w) := by
  have C := Lib.hid (clone_any a cap l w h hl)
  have HB := Lib.hid h.byte
  clear h
  go_enter Try.func25, Try.ntmps25
  go_wp2_with fail
  refine C.out.mono ?_
  rintro e w1 ⟨v, rfl, o1, b1⟩
  obtain ⟨a1, c1, rfl, hB1⟩ := o1.bytes HB.out
  have HB1 := Lib.hid hB1
  have O1 := Lib.hid o1
  clear hB1 o1
  go_wp2_with fail
  go_ret
  refine ⟨_, rfl, ⟨Nat.zero_le _, hl, a1, c1, heap_alloc_new w1 _, HB1.out.below ((Below.refl _ _).alloc (Nat.le_refl _) _), fun b o e => ?_⟩, b1.alloc b1.size _, b1.size⟩
  subst e
  exact (World.ownsRow.lt O1.out b rfl).2

theorem quiet_num {f : FuncId} {args : Array Value} {w : World} {n : Nat} {r : Nat × Nat × Nat} (h : Calls Try.prog f args (w.drewN n) (NumPost r (w.drewN n))) :
    Calls Try.prog f args (w.drewN n) fun e w'' => e = .returned (.tuple #[.int .u64 (r.1 : Int), .int .i64 (r.2.1 : Int), .int .i64 (r.2.2 : Int)]) ∧ ∃ m, w'' = w.drewN m :=
  h.mono fun _ _ ⟨he, hm⟩ => ⟨he, n, hm.symm⟩

theorem RdP.drewN {w : World} {g : Nat} {l : List Nat} {pos : Nat} {bad : Bool} (h : RdP w g l pos bad) (n : Nat) : RdP (w.drewN n) g l pos bad := by
  obtain ⟨a, cap, h1, h2, h3⟩ := h.mem
  exact ⟨h.le, h.len, a, cap, h1, h2.below (drewN_below w n), h3⟩

/-- Further on. -/
theorem RdP.on {w : World} {g : Nat} {l : List Nat} {pos : Nat} (h : RdP w g l pos false) (q : Nat) (hq : q ≤ l.length) : RdP (w.setCell ⟨g, 1, none⟩ (.int .i64 (q : Int))) g l q false := by
  obtain ⟨a, cap, h1, h2, h3⟩ := h.mem
  exact ⟨hq, h.len, a, cap, set3 h1 _, h2.but h3 ((But.refl g w).set 1 _), h3⟩

/-- A number is answered, and the Reader stands behind it. -/
def Gone (g : Nat) (l : List Nat) (pos : Nat) (w : World) (v : Value) (e : Ending) (w' : World) : Prop := e = .returned v ∧ RdP w' g l pos false ∧ But g w w'

set_option maxHeartbeats 2000000 in
/-- Of a BAD one nothing is read. -/
theorem rdNumber_bad (w : World) (g : Nat) (l : List Nat) (pos : Nat) (most : Int) (h : RdP w g l pos true) : Calls Try.prog 37 #[.pointer (some ⟨g, 0, none⟩), .int .u64 most] w (fun e w' => e = .returned (.int .u64 0) ∧ w = w') := by
  obtain ⟨a, cap, h1, _, _⟩ := h.mem
  obtain ⟨c0, c1, c2, f1⟩ := cells3 h1
  clear h h1
  go_enter Try.func37, Try.ntmps37
  go_wp2_with fail
  go_ret
  exact ⟨rfl, rfl⟩

set_option maxHeartbeats 4000000 in
theorem rdNumber_err (w : World) (g : Nat) (l : List Nat) (pos most : Nat) (h : RdP w g l pos false) (hm : most < 18446744073709551616) (he : (numAt most 0 0 (l.drop pos)).2.2 ≠ 0) :
    Calls Try.prog 37 #[.pointer (some ⟨g, 0, none⟩), .int .u64 (most : Int)] w (Spoilt g w (.int .u64 0)) := by
  have hll := h.len
  have hpl := h.le
  obtain ⟨a, cap, h1, h2, h3⟩ := h.mem
  obtain ⟨c0, c1, c2, f1⟩ := cells3 h1
  obtain ⟨a2, cap2, s2, k2⟩ := slice_from (a := a) h2.cap pos (pos : Int) rfl hpl
  have C := Lib.hid (fun n => numberAt_any a2 cap2 (l.drop pos) most (w.drewN n) ((k2 w h2).below (drewN_below w n)) hm)
  have SP := Lib.hid (fun n => spoil_any (w.drewN n) g _ _ _ h1)
  have H2 := h2.cap
  clear h h1 h2 h3 k2
  generalize l.drop pos = d at *
  rcases numAt_errs most d 0 0 with hN | hN | ⟨v, s, hN, _, _⟩
  · rw [hN] at C
    clear hN he
    go_enter Try.func37, Try.ntmps37
    go_wp2_with fail
    go_quiet ((go_at_call 53; exact quiet_num (C.out _)))
    go_wp2_with fail
    refine (SP.out _).mono ?_
    rintro e w1 ⟨rfl, r1, b1⟩
    go_wp2_with fail
    go_ret
    exact ⟨rfl, r1, b1.os, b1.tape, b1.output, b1.size, b1.block⟩
  · rw [hN] at C
    clear hN he
    go_enter Try.func37, Try.ntmps37
    go_wp2_with fail
    go_quiet ((go_at_call 53; exact quiet_num (C.out _)))
    go_wp2_with fail
    refine (SP.out _).mono ?_
    rintro e w1 ⟨rfl, r1, b1⟩
    go_wp2_with fail
    go_ret
    exact ⟨rfl, r1, b1.os, b1.tape, b1.output, b1.size, b1.block⟩
  · rw [hN] at he
    exact absurd rfl he

set_option maxHeartbeats 4000000 in
theorem rdNumber_ok (w : World) (g : Nat) (l : List Nat) (pos most v s : Nat) (h : RdP w g l pos false) (hm : most < 18446744073709551616) (he : numAt most 0 0 (l.drop pos) = (v, s, 0)) (hs : pos + s ≤ l.length) :
    Calls Try.prog 37 #[.pointer (some ⟨g, 0, none⟩), .int .u64 (most : Int)] w (Gone g l (pos + s) w (.int .u64 (v : Int))) := by
  have hll := h.len
  have hpl := h.le
  have H := Lib.hid h
  obtain ⟨a, cap, h1, h2, h3⟩ := h.mem
  obtain ⟨c0, c1, c2, f1⟩ := cells3 h1
  obtain ⟨a2, cap2, s2, k2⟩ := slice_from (a := a) h2.cap pos (pos : Int) rfl hpl
  have C := Lib.hid (fun n => numberAt_any a2 cap2 (l.drop pos) most (w.drewN n) ((k2 w h2).below (drewN_below w n)) hm)
  have H2 := h2.cap
  rw [he] at C
  clear h h1 h2 h3 k2 he
  generalize l.drop pos = d at *
  obtain ⟨q, hq, HQ⟩ : ∃ q : Nat, (pos : Int) + (s : Int) = (q : Int) ∧ Hid (pos + s = q) := ⟨pos + s, by omega, rfl⟩
  go_enter Try.func37, Try.ntmps37
  go_wp2_with fail
  go_quiet ((go_at_call 53; exact quiet_num (C.out _)))
  go_wp2_with fail
  go_ret
  refine ⟨rfl, ?_, ?_⟩
  · rw [HQ.out]
    exact (H.out.drewN nq).on q (by have := HQ.out; omega)
  · exact ((But.refl g w).drewN nq).set 1 _


theorem spoil_drewN (w : World) (g : Nat) (l : List Nat) (pos : Nat) (bad : Bool) (h : RdP w g l pos bad) (n : Nat) : Calls Try.prog 54 #[.pointer (some ⟨g, 0, none⟩)] (w.drewN n) (Spoilt g w (.tuple #[])) := by
  obtain ⟨a, cap, h1, _, _⟩ := h.mem
  exact (spoil_any (w.drewN n) g _ _ _ h1).mono fun _ _ ⟨he, hr, hb⟩ => ⟨he, hr, hb.os, hb.tape, hb.output, hb.size, hb.block⟩

set_option maxHeartbeats 4000000 in
/-- Below 0 nothing is read. -/
theorem rdText_neg (w : World) (g : Nat) (l : List Nat) (pos : Nat) (bad : Bool) (most : Int) (h : RdP w g l pos bad) (hm : most < 0) : Calls Try.prog 55 #[.pointer (some ⟨g, 0, none⟩), .int .i64 most] w (Spoilt g w (.string ⟨#[]⟩)) := by
  have S1 := Lib.hid (spoil_drewN w g l pos bad h 0)
  have S1 : Hid (Calls Try.prog 54 #[.pointer (some ⟨g, 0, none⟩)] w (Spoilt g w (.tuple #[]))) := S1
  have N2 := Lib.hid (fun W (h : RdP W g [] 0 true) => rdNumber_bad W g [] 0 (IntKind.u64.wrap most) h)
  have S2 := Lib.hid (fun W (h : RdP W g [] 0 true) n => spoil_drewN W g [] 0 true h n)
  have tm : decide (most < 0) = true := by simp; omega
  clear h hm
  go_enter Try.func55, Try.ntmps55
  go_wp2_with fail
  refine S1.out.mono ?_
  rintro e w1 ⟨rfl, r1, b1⟩
  have R1 := Lib.hid r1
  have B1 := Lib.hid b1
  clear r1 b1
  go_wp2_with fail
  refine (N2.out _ R1.out).mono ?_
  rintro e w' ⟨rfl, rfl⟩
  obtain ⟨a1, cap1, h1, _, _⟩ := R1.out.mem
  obtain ⟨c0, c1, c2, f1⟩ := cells3 h1
  clear h1
  go_wp2_with fail
  go_quiet (fail)
  go_wp2_with fail
  refine (S2.out _ R1.out _).mono ?_
  rintro e w2 ⟨rfl, r2, b2⟩
  go_wp2_with fail
  go_ret
  exact ⟨rfl, r2, B1.out.trans b2⟩

set_option maxHeartbeats 4000000 in
/-- Of a BAD one nothing is read. -/
theorem rdText_bad (w : World) (g : Nat) (most : Int) (h : RdP w g [] 0 true) (hm : 0 ≤ most) : Calls Try.prog 55 #[.pointer (some ⟨g, 0, none⟩), .int .i64 most] w (Spoilt g w (.string ⟨#[]⟩)) := by
  have N2 := Lib.hid (rdNumber_bad w g [] 0 (IntKind.u64.wrap most) h)
  have S2 := Lib.hid (fun W (h : RdP W g [] 0 true) n => spoil_drewN W g [] 0 true h n)
  have tm : decide (most < 0) = false := by simp; omega
  have R1 := Lib.hid h
  have B1 := Lib.hid (But.refl g w)
  clear h hm
  go_enter Try.func55, Try.ntmps55
  go_wp2_with fail
  refine N2.out.mono ?_
  rintro e w' ⟨rfl, rfl⟩
  obtain ⟨a1, cap1, h1, _, _⟩ := R1.out.mem
  obtain ⟨c0, c1, c2, f1⟩ := cells3 h1
  clear h1
  go_wp2_with fail
  go_quiet (fail)
  go_wp2_with fail
  refine (S2.out _ R1.out _).mono ?_
  rintro e w2 ⟨rfl, r2, b2⟩
  go_wp2_with fail
  go_ret
  exact ⟨rfl, r2, B1.out.trans b2⟩

set_option maxHeartbeats 4000000 in
/-- No number ahead of it. -/
theorem rdText_err (w : World) (g : Nat) (l : List Nat) (pos most : Nat) (h : RdP w g l pos false) (hm : most ≤ 9223372036854775807) (he : (numAt most 0 0 (l.drop pos)).2.2 ≠ 0) :
    Calls Try.prog 55 #[.pointer (some ⟨g, 0, none⟩), .int .i64 (most : Int)] w (Spoilt g w (.string ⟨#[]⟩)) := by
  have N2 := Lib.hid (rdNumber_err w g l pos most h (by omega) he)
  have S2 := Lib.hid (fun W (h : RdP W g [] 0 true) n => spoil_drewN W g [] 0 true h n)
  have tm : decide ((most : Int) < 0) = false := by simp
  have hwm : IntKind.u64.wrap (most : Int) = (most : Int) := by rw [IntKind.wrap_u64]; omega
  clear h he
  go_enter Try.func55, Try.ntmps55
  go_wp2_with fail
  refine N2.out.mono ?_
  rintro e w1 ⟨rfl, r1, b1⟩
  have R1 := Lib.hid r1
  have B1 := Lib.hid b1
  clear r1 b1
  obtain ⟨a1, cap1, h1, _, _⟩ := R1.out.mem
  obtain ⟨c0, c1, c2, f1⟩ := cells3 h1
  clear h1
  go_wp2_with fail
  go_quiet (fail)
  go_wp2_with fail
  refine (S2.out _ R1.out _).mono ?_
  rintro e w2 ⟨rfl, r2, b2⟩
  go_wp2_with fail
  go_ret
  exact ⟨rfl, r2, B1.out.trans b2⟩

set_option maxHeartbeats 4000000 in
/-- Fewer bytes than it says. -/
theorem rdText_few (w : World) (g : Nat) (l : List Nat) (pos most v s : Nat) (h : RdP w g l pos false) (hm : most ≤ 9223372036854775807) (he : numAt most 0 0 (l.drop pos) = (v, s, 0)) (hs : pos + s ≤ l.length) (hf : l.length - (pos + s) < v) :
    Calls Try.prog 55 #[.pointer (some ⟨g, 0, none⟩), .int .i64 (most : Int)] w (Spoilt g w (.string ⟨#[]⟩)) := by
  have N2 := Lib.hid (rdNumber_ok w g l pos most v s h (by omega) he hs)
  have S2 := Lib.hid (fun W q (h : RdP W g l q false) n => spoil_drewN W g l q false h n)
  have tm : decide ((most : Int) < 0) = false := by simp
  have hwm : IntKind.u64.wrap (most : Int) = (most : Int) := by rw [IntKind.wrap_u64]; omega
  have hll := h.len
  clear h he
  generalize pos + s = q at *
  obtain ⟨r, hr, hrl, HR⟩ : ∃ r : Nat, (l.length : Int) - (q : Int) = (r : Int) ∧ r ≤ 1000000 ∧ Hid (r = l.length - q) := ⟨l.length - q, by omega, by omega, rfl⟩
  rw [← HR.out] at hf
  have hwr : IntKind.u64.wrap (r : Int) = (r : Int) := by rw [IntKind.wrap_u64]; omega
  go_enter Try.func55, Try.ntmps55
  go_wp2_with fail
  refine N2.out.mono ?_
  rintro e w1 ⟨rfl, r1, b1⟩
  have R1 := Lib.hid r1
  have B1 := Lib.hid b1
  clear r1 b1
  obtain ⟨a1, cap1, h1, _, _⟩ := R1.out.mem
  obtain ⟨c0, c1, c2, f1⟩ := cells3 h1
  clear h1
  go_wp2_with fail
  go_quiet (fail)
  go_wp2_with fail
  refine (S2.out _ _ R1.out _).mono ?_
  rintro e w2 ⟨rfl, r2, b2⟩
  go_wp2_with fail
  go_ret
  exact ⟨rfl, r2, B1.out.trans b2⟩

set_option maxHeartbeats 4000000 in
/-- A text. -/
theorem rdText_ok (w : World) (g : Nat) (l : List Nat) (pos most v s : Nat) (h : RdP w g l pos false) (hm : most ≤ 9223372036854775807) (he : numAt most 0 0 (l.drop pos) = (v, s, 0)) (hs : pos + s ≤ l.length) (hf : ¬ l.length - (pos + s) < v) :
    Calls Try.prog 55 #[.pointer (some ⟨g, 0, none⟩), .int .i64 (most : Int)] w (Gone g l (pos + s + v) w (.string (strB ((l.drop (pos + s)).take v)))) := by
  have N2 := Lib.hid (rdNumber_ok w g l pos most v s h (by omega) he hs)
  have tm : decide ((most : Int) < 0) = false := by simp
  have hwm : IntKind.u64.wrap (most : Int) = (most : Int) := by rw [IntKind.wrap_u64]; omega
  have hll := h.len
  clear h he
  generalize pos + s = q at *
  obtain ⟨r, hr, hrl, HR⟩ : ∃ r : Nat, (l.length : Int) - (q : Int) = (r : Int) ∧ r ≤ 1000000 ∧ Hid (r = l.length - q) := ⟨l.length - q, by omega, by omega, rfl⟩
  have hqv : q + v ≤ l.length := by omega
  rw [← HR.out] at hf
  have hwr : IntKind.u64.wrap (r : Int) = (r : Int) := by rw [IntKind.wrap_u64]; omega
  have hwv : IntKind.i64.wrap (v : Int) = (v : Int) := by rw [IntKind.wrap_i64]; omega
  obtain ⟨z, hz, HZ⟩ : ∃ z : Nat, (q : Int) + (v : Int) = (z : Int) ∧ Hid (q + v = z) := ⟨q + v, by omega, rfl⟩
  have hzl : z ≤ l.length := by have := HZ.out; omega
  have hqz : q ≤ z := by have := HZ.out; omega
  have HV := Lib.hid (show v = z - q by have := HZ.out; omega)
  go_enter Try.func55, Try.ntmps55
  go_wp2_with fail
  refine N2.out.mono ?_
  rintro e w1 ⟨rfl, r1, b1⟩
  have R1 := Lib.hid r1
  have B1 := Lib.hid b1
  clear r1 b1
  obtain ⟨a1, cap1, h1, h2, h3⟩ := R1.out.mem
  obtain ⟨c0, c1, c2, f1⟩ := cells3 h1
  clear h1 h2 h3
  go_wp2_with fail
  go_quiet (fail)
  go_wp2_with fail
  have r4 := (R1.out.drewN nq).on z hzl
  have b4 := (B1.out.drewN nq).set 1 (.int .i64 (z : Int))
  clear c0 c1 c2 f1
  generalize (w1.drewN nq).setCell ⟨g, 1, none⟩ (.int .i64 (z : Int)) = W at *
  obtain ⟨a2, cap2, h1, h2, h3⟩ := r4.mem
  obtain ⟨c0, c1, c2, f1⟩ := cells3 h1
  obtain ⟨a9, c9, s9, k9⟩ := slice_part (a := a2) h2.cap q z (q : Int) (z : Int) rfl rfl hqz hzl
  have hcv := fun n => run_text ((k9 W h2).below (drewN_below W n))
  have H2 := h2.cap
  have R4 := Lib.hid r4
  have B4 := Lib.hid b4
  rw [HV.out] at *
  clear h1 h2 h3 k9 r4 b4
  generalize (l.drop q).take (z - q) = body at *
  go_quiet (fail)
  go_wp2_with fail
  go_ret
  refine ⟨rfl, ?_, B4.out.drewN _⟩
  exact R4.out.drewN _

end Go.Proofs.Ytciijkognhdddaa
