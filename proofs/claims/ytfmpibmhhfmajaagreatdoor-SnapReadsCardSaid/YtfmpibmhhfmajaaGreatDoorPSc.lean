/- BkRead, BkReader, ScRead, ScPut: together. -/
import Derived.Test.YtfmpibmhhfmajaaGreatDoorMgBase
import Derived.Deep.QuietTactic
import Derived.BigQuiet
import Derived.Test.YtfmpibmhhfmajaaGreatDoorPSl
import Derived.Test.YtfmpibmhhfmajaaGreatDoorMgLines
namespace Go.Proofs.YtfmpibmhhfmajaaGreatDoor

/- BkRead: What number of package packet, and the document's Take, answer. -/
section
set_option maxRecDepth 100000
open Go.ChangeShapes Go.WideShapes Go.ChangeAt Go.RowKit

/-- A number, how many bytes it has and the error's number are answered; nothing has turned. -/
def NumPost (r : Nat × Nat × Nat) (w : World) (e : Ending) (w' : World) : Prop := e = .returned (.tuple #[.int .u64 (r.1 : Int), .int .i64 (r.2.1 : Int), .int .i64 (r.2.2 : Int)]) ∧ w = w'

theorem or_shl {n sh low : Nat} (h : n < 2 ^ sh) : n ||| low * 2 ^ sh = n + low * 2 ^ sh := by
  rw [Nat.or_comm, Nat.mul_comm, ← Nat.two_pow_add_eq_or_of_lt h, Nat.add_comm]

set_option maxRecDepth 100000 in
set_option maxHeartbeats 4000000 in
theorem numberAt_any (a : Option Addr) (cap : Nat) (l : List Nat) (most : Nat) (w : World) (h : BytesP w a cap l) (hm : most < 18446744073709551616) :
    Calls Tryz.prog 130 #[.slice a l.length cap, .int .u64 (most : Int)] w (NumPost (numAt most 0 0 l) w) := by
  have H := Lib.hid h
  have hl := h.len
  clear h
  go_enter Tryz.func130, Tryz.ntmps130
  go_wp2_with fail
  go_loop [7, 14] (fun s i => ∃ (k n : Nat), k ≤ l.length ∧ k ≤ 9 ∧ i = .int .i64 k ∧ s = .int .u64 n ∧ n ≤ most ∧ Hid (n < 2 ^ (7 * k)) ∧ Hid (numAt most 0 0 l = numAt most k n (l.drop k))) (fun _ i => l.length - (intOf i).toNat)
  case atStart => exact ⟨0, 0, Nat.zero_le _, by decide, rfl, rfl, Nat.zero_le _, Lib.hid (by simp), Lib.hid rfl⟩
  case round =>
    obtain ⟨k, n, hk, hk9, rfl, rfl, hn, HN, HS⟩ := hrel
    by_cases hlt : k < l.length
    · obtain ⟨b1, o1, rfl, q1, r1⟩ := H.out.cell (by intro e; subst e; simp at hlt)
      have g1 := r1 k _ (List.getElem?_eq_getElem hlt)
      have p1 := H.out.cap
      have hx : l[k] < 256 := H.out.byte _ (List.getElem_mem hlt)
      have HD := Lib.hid (show numAt most 0 0 l = numAt most k n (l[k] :: l.drop (k + 1)) by rw [HS.out, List.drop_eq_getElem_cons hlt])
      generalize l[k] = x at *
      obtain ⟨low, hlow, hlo, HLOW⟩ : ∃ low : Nat, (x : Int) % 128 = (low : Int) ∧ low < 128 ∧ Hid (low = x % 128) := ⟨x % 128, by omega, by omega, rfl⟩
      obtain ⟨sh, hsh, hsh63, HSH⟩ : ∃ sh : Nat, 7 * (k : Int) = (sh : Int) ∧ sh ≤ 63 ∧ Hid (sh = 7 * k) := ⟨7 * k, by omega, by omega, rfl⟩
      obtain ⟨d, hd, hdl, HDD⟩ : ∃ d : Nat, (most : Int) - (n : Int) = (d : Int) ∧ d < 18446744073709551616 ∧ Hid (d = most - n) := ⟨most - n, by omega, by omega, rfl⟩
      have hmin : min sh 64 = sh := by omega
      obtain ⟨q, hq, HQ⟩ : ∃ q : Nat, (d : Int) / 2 ^ sh = (q : Int) ∧ Hid (q = (most - n) / 2 ^ (7 * k)) := ⟨d / 2 ^ sh, by simp, by rw [HDD.out, HSH.out]; rfl⟩
      have hwl : IntKind.u64.wrap (low : Int) = (low : Int) := by rw [IntKind.wrap_u64]; omega
      clear r1
      by_cases t1 : q < low
      · have HE := Lib.hid (show numAt most 0 0 l = (0, 0, 62) by rw [HD.out, numAt_cons, ← HQ.out, ← HLOW.out, if_pos t1])
        go_wp2_with fail
        go_ret3
        exact ⟨by rw [HE.out]; rfl, rfl⟩
      · have HT1 := Lib.hid t1
        have HP := Lib.hid (pow7_pos k)
        have HB := Lib.hid (show low * 2 ^ (7 * k) ≤ most - n by
          have := HT1.out
          rw [HQ.out, Nat.not_lt, Nat.le_div_iff_mul_le HP.out] at this
          exact this)
        obtain ⟨t, ht, htl, HT⟩ : ∃ t : Nat, IntKind.u64.wrap ((low : Int) * 2 ^ sh) = (t : Int) ∧ t < 18446744073709551616 ∧ Hid (t = low * 2 ^ (7 * k)) := by
          have hb := HB.out
          refine ⟨low * 2 ^ (7 * k), ?_, by omega, rfl⟩
          rw [HSH.out, show (low : Int) * 2 ^ (7 * k) = ((low * 2 ^ (7 * k) : Nat) : Int) by simp, IntKind.wrap_u64]
          omega
        obtain ⟨n2, hor, hn2, HN2⟩ : ∃ n2 : Nat, bits .or .u64 (n : Int) (t : Int) = (n2 : Int) ∧ n2 ≤ most ∧ Hid (n2 = n + x % 128 * 2 ^ (7 * k)) := by
          have hb := HB.out
          refine ⟨n + low * 2 ^ (7 * k), ?_, by omega, by rw [HLOW.out]; rfl⟩
          rw [u64_or_nat n t (by omega) htl, HT.out, or_shl HN.out]
        have HD2 := Lib.hid (show numAt most 0 0 l = if x < 128 then (if x = 0 ∧ 0 < k then (0, 0, 62) else (n2, k + 1, 0)) else if (most - n2) / 2 ^ (7 * k + 7) = 0 then (0, 0, 62) else numAt most (k + 1) n2 (l.drop (k + 1)) by
          rw [HD.out, numAt_cons, ← HQ.out, ← HLOW.out, if_neg HT1.out, HLOW.out, ← HN2.out])
        clear HD
        cases t2 : decide ((x : Int) < 128) with
        | true =>
          have hx2 : x < 128 := by simp at t2; omega
          by_cases t3 : x = 0 ∧ 0 < k
          · have HE := Lib.hid (show numAt most 0 0 l = (0, 0, 62) by rw [HD2.out, if_pos hx2, if_pos t3])
            obtain ⟨t3, t4⟩ := t3
            have t3' : ((x : Int) == 0) = true := by simp; omega
            have t4' : decide (0 < (k : Int)) = true := by simp; omega
            clear t3
            go_wp2_with fail
            go_ret3
            exact ⟨by rw [HE.out]; rfl, rfl⟩
          · have HE := Lib.hid (show numAt most 0 0 l = (n2, k + 1, 0) by rw [HD2.out, if_pos hx2, if_neg t3])
            by_cases t4 : x = 0
            · have t5 : ¬ 0 < k := by omega
              have t4' : ((x : Int) == 0) = true := by simp; omega
              clear t3 t4
              go_wp2_with fail
              go_ret3
              exact ⟨by rw [HE.out]; rfl, rfl⟩
            · have t4' : ((x : Int) == 0) = false := by simp; omega
              clear t3
              go_wp2_with fail
              go_ret3
              exact ⟨by rw [HE.out]; rfl, rfl⟩
        | false =>
          have hx2 : ¬ x < 128 := by simp at t2; omega
          obtain ⟨d2, hd2, hdl2, HDD2⟩ : ∃ d2 : Nat, (most : Int) - (n2 : Int) = (d2 : Int) ∧ d2 < 18446744073709551616 ∧ Hid (d2 = most - n2) := ⟨most - n2, by omega, by omega, rfl⟩
          obtain ⟨s7, hs7, hs70, HS7⟩ : ∃ s7 : Nat, (sh : Int) + 7 = (s7 : Int) ∧ s7 ≤ 70 ∧ Hid (s7 = 7 * k + 7) := ⟨sh + 7, by omega, by omega, by rw [HSH.out]; rfl⟩
          obtain ⟨m7, hm7, HM7⟩ : ∃ m7 : Nat, min s7 64 = m7 ∧ Hid (m7 = min s7 64) := ⟨min s7 64, rfl, rfl⟩
          obtain ⟨q2, hq2, hq3, HQ2⟩ : ∃ q2 : Nat, (d2 : Int) / 2 ^ s7 = (q2 : Int) ∧ (d2 : Int) / 2 ^ m7 = (q2 : Int) ∧ Hid (q2 = (most - n2) / 2 ^ (7 * k + 7)) := by
            refine ⟨d2 / 2 ^ s7, by simp, ?_, by rw [HDD2.out, HS7.out]; rfl⟩
            rcases Nat.le_total s7 64 with h | h
            · rw [HM7.out, Nat.min_eq_left h]; simp
            · rw [HM7.out, Nat.min_eq_right h]
              have e1 : d2 / 2 ^ s7 = 0 := Nat.div_eq_of_lt (Nat.lt_of_lt_of_le hdl2 (Nat.pow_le_pow_right (n := 2) (by decide) h))
              rw [e1]
              omega
          have HZ := Lib.hid (show (most - n2) / 2 ^ (7 * k + 7) = 0 ↔ q2 = 0 by rw [HQ2.out])
          cases t6 : ((q2 : Int) == 0) with
          | true =>
            have HE := Lib.hid (show numAt most 0 0 l = (0, 0, 62) by rw [HD2.out, if_neg hx2, if_pos (HZ.out.2 (by simp at t6; omega))])
            go_wp2_with fail
            go_ret3
            exact ⟨by rw [HE.out]; rfl, rfl⟩
          | false =>
            have hq0 : ¬ (most - n2) / 2 ^ (7 * k + 7) = 0 := fun h => by have := HZ.out.1 h; simp at t6; omega
            have HE := Lib.hid (show numAt most 0 0 l = numAt most (k + 1) n2 (l.drop (k + 1)) by rw [HD2.out, if_neg hx2, if_neg hq0])
            have hk8 : k + 1 ≤ 9 := by
              by_cases h8 : k ≤ 8
              · omega
              · have hk : k = 9 := by omega
                subst hk
                exfalso
                apply hq0
                simp
                omega
            have HL := Lib.hid (show n2 < 2 ^ (7 * (k + 1)) by
              rw [HN2.out, pow7s]
              have h1 := HN.out
              have h2 : x % 128 * 2 ^ (7 * k) ≤ 127 * 2 ^ (7 * k) := Nat.mul_le_mul_right _ (by omega)
              omega)
            clear hq0
            go_wp2_with fail
            go_round
            case rel => exact ⟨k + 1, n2, by omega, hk8, by go_num, rfl, hn2, HL, HE⟩
            case measure => simp [intOf]; omega
    · have HE := Lib.hid (show numAt most 0 0 l = (0, 0, 61) by rw [HS.out, List.drop_eq_nil_of_le (by omega)]; rfl)
      go_wp2_with fail
      go_ret3
      exact ⟨by rw [HE.out]; rfl, rfl⟩
end

/- BkReader: A Reader in memory; what New, Number, Text, Done, Bad and spoil of package packet's Reader answer. -/
section
set_option maxRecDepth 100000
open Go.ChangeShapes Go.WideShapes Go.ChangeAt Go.RowKit

/-- All but one block is as it was. -/
structure But (g : Nat) (w w' : World) : Prop where
  os : w'.os = w.os
  tape : w'.tape = w.tape
  output : w'.output = w.output
  size : w.heap.size ≤ w'.heap.size
  block : ∀ k, k < w.heap.size → k ≠ g → w'.heap[k]? = w.heap[k]?

theorem But.refl (g : Nat) (w : World) : But g w w := ⟨rfl, rfl, rfl, Nat.le_refl _, fun _ _ _ => rfl⟩
theorem But.trans {g : Nat} {a b c : World} (h : But g a b) (k : But g b c) : But g a c :=
  ⟨k.os.trans h.os, k.tape.trans h.tape, k.output.trans h.output, Nat.le_trans h.size k.size, fun i hi hg => (k.block i (Nat.lt_of_lt_of_le hi h.size) hg).trans (h.block i hi hg)⟩
theorem But.of {g : Nat} {w w' : World} (h : Below w.heap.size w w') : But g w w' := ⟨h.os, h.tape, h.output, h.size, fun k hk _ => h.block k hk⟩
theorem But.below {g B : Nat} {w w' : World} (h : But g w w') (hg : B ≤ g) (hB : B ≤ w.heap.size) : Below B w w' := ⟨h.os, h.tape, h.output, h.size, fun k hk => h.block k (by omega) (by omega)⟩
theorem But.drewN {g : Nat} {w w' : World} (h : But g w w') (n : Nat) : But g w (w'.drewN n) := ⟨h.os, h.tape, h.output, h.size, h.block⟩
theorem But.set {g : Nat} {w w' : World} (h : But g w w') (o : Nat) (v : Value) : But g w (w'.setCell ⟨g, o, none⟩ v) :=
  ⟨h.os, h.tape, h.output, by simp [World.setCell]; exact h.size, fun k hk hg => by rw [← h.block k hk hg]; simp [World.setCell, Array.getElem?_modify, Ne.symm hg]⟩
theorem But.setRow {g : Nat} {w w' : World} (h : But g w w') (cs : Array Value) : But g w (w'.setRow g cs) :=
  ⟨h.os, h.tape, h.output, by simp [World.setRow]; exact h.size, fun k hk hg => by rw [← h.block k hk hg]; exact setRow_other w' g k cs hg⟩

/-- A Reader at block g: its bytes, how far they were read, whether it is BAD. -/
structure RdP (w : World) (g : Nat) (l : List Nat) (pos : Nat) (bad : Bool) : Prop where
  le : pos ≤ l.length
  len : l.length ≤ 1000000
  mem : ∃ a cap, w.heap[g]? = some (.cells #[.slice a l.length cap, .int .i64 (pos : Int), .bool bad] 123 (0, 0)) ∧ BytesP w a cap l ∧ ∀ b o, a = some ⟨b, o, none⟩ → b < g

theorem BytesP.but {w w' : World} {a : Option Addr} {cap : Nat} {l : List Nat} {g : Nat} (h : BytesP w a cap l) (hg : ∀ b o, a = some ⟨b, o, none⟩ → b < g) (hb : But g w w') : BytesP w' a cap l := by
  refine ⟨h.cap, h.len, h.byte, fun hne => ?_⟩
  obtain ⟨b, o, e, hlt, hc⟩ := h.cell hne
  exact ⟨b, o, e, Nat.lt_of_lt_of_le hlt hb.size, fun j x hx => (World.cell?_of_block (a := ⟨b, o + j, none⟩) (hb.block b hlt (Nat.ne_of_lt (hg b o e)))).trans (hc j x hx)⟩

theorem cells3 {w : World} {g : Nat} {p q r : Value} {T : TypeId} (h : w.heap[g]? = some (.cells #[p, q, r] T (0, 0))) :
    w.cell? ⟨g, 0, none⟩ = some p ∧ w.cell? ⟨g, 1, none⟩ = some q ∧ w.cell? ⟨g, 2, none⟩ = some r ∧ w.frozen? ⟨g, 1, none⟩ = false := by
  simp [World.cell?, World.frozen?, h]
theorem set3 {w : World} {g : Nat} {p q r : Value} {T : TypeId} (h : w.heap[g]? = some (.cells #[p, q, r] T (0, 0))) (x : Value) : (w.setCell ⟨g, 1, none⟩ x).heap[g]? = some (.cells #[p, x, r] T (0, 0)) := by
  simp [World.setCell, Array.getElem?_modify, h]

theorem size61 (a b c : Value) : (Tryz.prog.info? 123).map (·.size) = some #[a, b, c].size := by
  show _ = some 3
  kernel_rfl
theorem one61 (a : Option Addr) (n c : Nat) (p : Int) (b : Bool) : (#[Value.slice a n c, Value.int .i64 p, Value.bool b]).all (·.oneCell') = true := by simp [Value.oneCell']

/-- A Reader that is BAD. -/
theorem rd_bad {w : World} {g : Nat} (h : w.heap[g]? = some (.cells #[.slice none 0 0, .int .i64 0, .bool true] 123 (0, 0))) : RdP w g [] 0 true :=
  ⟨Nat.le_refl _, by simp, none, 0, h, BytesP.nil _ _ _, fun _ _ e => by cases e⟩

theorem RdP.lt {w : World} {g : Nat} {l : List Nat} {pos : Nat} {bad : Bool} (h : RdP w g l pos bad) : g < w.heap.size := by
  obtain ⟨a, c, h1, _⟩ := h.mem
  exact (Array.getElem?_eq_some_iff.1 h1).1

theorem RdP.below {w w' : World} {g : Nat} {l : List Nat} {pos : Nat} {bad : Bool} (h : RdP w g l pos bad) (hb : Below w.heap.size w w') : RdP w' g l pos bad := by
  obtain ⟨a, c, h1, h2, h3⟩ := h.mem
  exact ⟨h.le, h.len, a, c, (hb.block g h.lt).trans h1, h2.below hb, h3⟩

/-- The Reader has got BAD; nothing else has turned. -/
def Spoilt (g : Nat) (w : World) (v : Value) (e : Ending) (w' : World) : Prop := e = .returned v ∧ RdP w' g [] 0 true ∧ But g w w'

set_option maxHeartbeats 2000000 in
theorem spoil_any (w : World) (g : Nat) (p q r : Value) (h : w.heap[g]? = some (.cells #[p, q, r] 123 (0, 0))) : Calls Tryz.prog 131 #[.pointer (some ⟨g, 0, none⟩)] w (Spoilt g w (.tuple #[])) := by
  have H := Lib.hid h
  clear h
  go_enter Tryz.func131, Tryz.ntmps131
  go_wp2_with (refine wpList_store_row rfl 123 _ _ rfl g #[.slice none 0 0, .int .i64 0, .bool true] rfl rfl 123 #[p, q, r] H.out (size61 _ _ _) rfl (one61 _ _ _ _ _) ?_)
  go_end0
  exact ⟨rfl, rd_bad (setRow_heap _ _ _ _ _ _ H.out), (But.refl _ _).setRow _⟩

set_option maxHeartbeats 2000000 in
theorem bad_any (w : World) (g : Nat) (l : List Nat) (pos : Nat) (bad : Bool) (h : RdP w g l pos bad) : Calls Tryz.prog 134 #[.pointer (some ⟨g, 0, none⟩)] w (BoolSame bad w) := by
  obtain ⟨a, cap, h1, _, _⟩ := h.mem
  obtain ⟨c0, c1, c2, f1⟩ := cells3 h1
  clear h h1
  go_enter Tryz.func134, Tryz.ntmps134
  go_wp2_with fail
  go_ret
  exact ⟨rfl, rfl⟩

set_option maxHeartbeats 2000000 in
theorem done_any (w : World) (g : Nat) (l : List Nat) (pos : Nat) (bad : Bool) (h : RdP w g l pos bad) : Calls Tryz.prog 28 #[.pointer (some ⟨g, 0, none⟩)] w (BoolB (!bad && decide (pos = l.length)) w) := by
  have hll := h.len
  have hpl := h.le
  obtain ⟨a, cap, h1, _, _⟩ := h.mem
  obtain ⟨c0, c1, c2, f1⟩ := cells3 h1
  clear h h1
  cases bad with
  | true =>
    go_enter Tryz.func28, Tryz.ntmps28
    go_wp2_with fail
    go_quiet (fail)
    go_wp2_with fail
    go_ret
    exact ⟨rfl, drewN_below _ _⟩
  | false =>
    cases hp : ((pos : Int) == (l.length : Int)) with
    | true =>
      have e : decide (pos = l.length) = true := by simp at hp; simp; omega
      have E := Lib.hid e
      clear e
      go_enter Tryz.func28, Tryz.ntmps28
      go_wp2_with fail
      go_quiet (fail)
      go_wp2_with fail
      go_ret
      exact ⟨by rw [E.out]; rfl, drewN_below _ _⟩
    | false =>
      have e : decide (pos = l.length) = false := by simp at hp; simp; omega
      have E := Lib.hid e
      clear e
      go_enter Tryz.func28, Tryz.ntmps28
      go_wp2_with fail
      go_quiet (fail)
      go_wp2_with fail
      go_ret
      exact ⟨by rw [E.out]; rfl, drewN_below _ _⟩

/-- A Reader is answered, at the beginning of these bytes. -/
def NewPost (l : List Nat) (w : World) (e : Ending) (w' : World) : Prop := ∃ g, e = .returned (.pointer (some ⟨g, 0, none⟩)) ∧ RdP w' g l 0 false ∧ Below w.heap.size w w' ∧ w.heap.size ≤ g

set_option maxHeartbeats 2000000 in
theorem new_any (a : Option Addr) (cap : Nat) (l : List Nat) (w : World) (h : BytesP w a cap l) (hl : l.length ≤ 1000000) : Calls Tryz.prog 26 #[.slice a l.length cap] w (NewPost l w) := by
  have C := Lib.hid (clone_any a cap l w h hl)
  have HB := Lib.hid h.byte
  clear h
  go_enter Tryz.func26, Tryz.ntmps26
  go_wp2_with fail
  refine C.out.mono ?_
  rintro e w1 ⟨v, rfl, o1, b1⟩
  obtain ⟨a1, c1, rfl, hB1⟩ := o1.bytes HB.out
  have HB1 := Lib.hid hB1
  have O1 := Lib.hid o1
  clear hB1 o1
  go_wp2_with fail
  go_ret
  refine ⟨_, rfl, ⟨Nat.zero_le _, hl, a1, c1, heap_alloc_new w1 _, HB1.out.below ((Below.refl _ _).alloc (Nat.le_refl _) _), fun b o e => ?_⟩, b1.alloc b1.size _, b1.size⟩
  subst e
  exact (World.ownsRow.lt O1.out b rfl).2

theorem quiet_num {f : FuncId} {args : Array Value} {w : World} {n : Nat} {r : Nat × Nat × Nat} (h : Calls Tryz.prog f args (w.drewN n) (NumPost r (w.drewN n))) :
    Calls Tryz.prog f args (w.drewN n) fun e w'' => e = .returned (.tuple #[.int .u64 (r.1 : Int), .int .i64 (r.2.1 : Int), .int .i64 (r.2.2 : Int)]) ∧ ∃ m, w'' = w.drewN m :=
  h.mono fun _ _ ⟨he, hm⟩ => ⟨he, n, hm.symm⟩

theorem RdP.drewN {w : World} {g : Nat} {l : List Nat} {pos : Nat} {bad : Bool} (h : RdP w g l pos bad) (n : Nat) : RdP (w.drewN n) g l pos bad := by
  obtain ⟨a, cap, h1, h2, h3⟩ := h.mem
  exact ⟨h.le, h.len, a, cap, h1, h2.below (drewN_below w n), h3⟩

/-- Further on. -/
theorem RdP.on {w : World} {g : Nat} {l : List Nat} {pos : Nat} (h : RdP w g l pos false) (q : Nat) (hq : q ≤ l.length) : RdP (w.setCell ⟨g, 1, none⟩ (.int .i64 (q : Int))) g l q false := by
  obtain ⟨a, cap, h1, h2, h3⟩ := h.mem
  exact ⟨hq, h.len, a, cap, set3 h1 _, h2.but h3 ((But.refl g w).set 1 _), h3⟩

/-- A number is answered, and the Reader stands behind it. -/
def Gone (g : Nat) (l : List Nat) (pos : Nat) (w : World) (v : Value) (e : Ending) (w' : World) : Prop := e = .returned v ∧ RdP w' g l pos false ∧ But g w w'

set_option maxHeartbeats 2000000 in
/-- Of a BAD one nothing is read. -/
theorem rdNumber_bad (w : World) (g : Nat) (l : List Nat) (pos : Nat) (most : Int) (h : RdP w g l pos true) : Calls Tryz.prog 89 #[.pointer (some ⟨g, 0, none⟩), .int .u64 most] w (fun e w' => e = .returned (.int .u64 0) ∧ w = w') := by
  obtain ⟨a, cap, h1, _, _⟩ := h.mem
  obtain ⟨c0, c1, c2, f1⟩ := cells3 h1
  clear h h1
  go_enter Tryz.func89, Tryz.ntmps89
  go_wp2_with fail
  go_ret
  exact ⟨rfl, rfl⟩

set_option maxHeartbeats 4000000 in
theorem rdNumber_err (w : World) (g : Nat) (l : List Nat) (pos most : Nat) (h : RdP w g l pos false) (hm : most < 18446744073709551616) (he : (numAt most 0 0 (l.drop pos)).2.2 ≠ 0) :
    Calls Tryz.prog 89 #[.pointer (some ⟨g, 0, none⟩), .int .u64 (most : Int)] w (Spoilt g w (.int .u64 0)) := by
  have hll := h.len
  have hpl := h.le
  obtain ⟨a, cap, h1, h2, h3⟩ := h.mem
  obtain ⟨c0, c1, c2, f1⟩ := cells3 h1
  obtain ⟨a2, cap2, s2, k2⟩ := slice_from (a := a) h2.cap pos (pos : Int) rfl hpl
  have C := Lib.hid (fun n => numberAt_any a2 cap2 (l.drop pos) most (w.drewN n) ((k2 w h2).below (drewN_below w n)) hm)
  have SP := Lib.hid (fun n => spoil_any (w.drewN n) g _ _ _ h1)
  have H2 := h2.cap
  clear h h1 h2 h3 k2
  generalize l.drop pos = d at *
  rcases numAt_errs most d 0 0 with hN | hN | ⟨v, s, hN, _, _⟩
  · rw [hN] at C
    clear hN he
    go_enter Tryz.func89, Tryz.ntmps89
    go_wp2_with fail
    go_quiet ((go_at_call 130; exact quiet_num (C.out _)))
    go_wp2_with fail
    refine (SP.out _).mono ?_
    rintro e w1 ⟨rfl, r1, b1⟩
    go_wp2_with fail
    go_ret
    exact ⟨rfl, r1, b1.os, b1.tape, b1.output, b1.size, b1.block⟩
  · rw [hN] at C
    clear hN he
    go_enter Tryz.func89, Tryz.ntmps89
    go_wp2_with fail
    go_quiet ((go_at_call 130; exact quiet_num (C.out _)))
    go_wp2_with fail
    refine (SP.out _).mono ?_
    rintro e w1 ⟨rfl, r1, b1⟩
    go_wp2_with fail
    go_ret
    exact ⟨rfl, r1, b1.os, b1.tape, b1.output, b1.size, b1.block⟩
  · rw [hN] at he
    exact absurd rfl he

set_option maxHeartbeats 4000000 in
theorem rdNumber_ok (w : World) (g : Nat) (l : List Nat) (pos most v s : Nat) (h : RdP w g l pos false) (hm : most < 18446744073709551616) (he : numAt most 0 0 (l.drop pos) = (v, s, 0)) (hs : pos + s ≤ l.length) :
    Calls Tryz.prog 89 #[.pointer (some ⟨g, 0, none⟩), .int .u64 (most : Int)] w (Gone g l (pos + s) w (.int .u64 (v : Int))) := by
  have hll := h.len
  have hpl := h.le
  have H := Lib.hid h
  obtain ⟨a, cap, h1, h2, h3⟩ := h.mem
  obtain ⟨c0, c1, c2, f1⟩ := cells3 h1
  obtain ⟨a2, cap2, s2, k2⟩ := slice_from (a := a) h2.cap pos (pos : Int) rfl hpl
  have C := Lib.hid (fun n => numberAt_any a2 cap2 (l.drop pos) most (w.drewN n) ((k2 w h2).below (drewN_below w n)) hm)
  have H2 := h2.cap
  rw [he] at C
  clear h h1 h2 h3 k2 he
  generalize l.drop pos = d at *
  obtain ⟨q, hq, HQ⟩ : ∃ q : Nat, (pos : Int) + (s : Int) = (q : Int) ∧ Hid (pos + s = q) := ⟨pos + s, by omega, rfl⟩
  go_enter Tryz.func89, Tryz.ntmps89
  go_wp2_with fail
  go_quiet ((go_at_call 130; exact quiet_num (C.out _)))
  go_wp2_with fail
  go_ret
  refine ⟨rfl, ?_, ?_⟩
  · rw [HQ.out]
    exact (H.out.drewN nq).on q (by have := HQ.out; omega)
  · exact ((But.refl g w).drewN nq).set 1 _


theorem spoil_drewN (w : World) (g : Nat) (l : List Nat) (pos : Nat) (bad : Bool) (h : RdP w g l pos bad) (n : Nat) : Calls Tryz.prog 131 #[.pointer (some ⟨g, 0, none⟩)] (w.drewN n) (Spoilt g w (.tuple #[])) := by
  obtain ⟨a, cap, h1, _, _⟩ := h.mem
  exact (spoil_any (w.drewN n) g _ _ _ h1).mono fun _ _ ⟨he, hr, hb⟩ => ⟨he, hr, hb.os, hb.tape, hb.output, hb.size, hb.block⟩

set_option maxHeartbeats 4000000 in
/-- Of a BAD one nothing is read. -/
theorem rdText_bad (w : World) (g : Nat) (most : Int) (h : RdP w g [] 0 true) (hm : 0 ≤ most) : Calls Tryz.prog 90 #[.pointer (some ⟨g, 0, none⟩), .int .i64 most] w (Spoilt g w (.string ⟨#[]⟩)) := by
  have N2 := Lib.hid (rdNumber_bad w g [] 0 (IntKind.u64.wrap most) h)
  have S2 := Lib.hid (fun W (h : RdP W g [] 0 true) n => spoil_drewN W g [] 0 true h n)
  have tm : decide (most < 0) = false := by simp; omega
  have R1 := Lib.hid h
  have B1 := Lib.hid (But.refl g w)
  clear h hm
  go_enter Tryz.func90, Tryz.ntmps90
  go_wp2_with fail
  refine N2.out.mono ?_
  rintro e w' ⟨rfl, rfl⟩
  obtain ⟨a1, cap1, h1, _, _⟩ := R1.out.mem
  obtain ⟨c0, c1, c2, f1⟩ := cells3 h1
  clear h1
  go_wp2_with fail
  go_quiet (fail)
  go_wp2_with fail
  refine (S2.out _ R1.out _).mono ?_
  rintro e w2 ⟨rfl, r2, b2⟩
  go_wp2_with fail
  go_ret
  exact ⟨rfl, r2, B1.out.trans b2⟩

set_option maxHeartbeats 4000000 in
/-- No number ahead of it. -/
theorem rdText_err (w : World) (g : Nat) (l : List Nat) (pos most : Nat) (h : RdP w g l pos false) (hm : most ≤ 9223372036854775807) (he : (numAt most 0 0 (l.drop pos)).2.2 ≠ 0) :
    Calls Tryz.prog 90 #[.pointer (some ⟨g, 0, none⟩), .int .i64 (most : Int)] w (Spoilt g w (.string ⟨#[]⟩)) := by
  have N2 := Lib.hid (rdNumber_err w g l pos most h (by omega) he)
  have S2 := Lib.hid (fun W (h : RdP W g [] 0 true) n => spoil_drewN W g [] 0 true h n)
  have tm : decide ((most : Int) < 0) = false := by simp
  have hwm : IntKind.u64.wrap (most : Int) = (most : Int) := by rw [IntKind.wrap_u64]; omega
  clear h he
  go_enter Tryz.func90, Tryz.ntmps90
  go_wp2_with fail
  refine N2.out.mono ?_
  rintro e w1 ⟨rfl, r1, b1⟩
  have R1 := Lib.hid r1
  have B1 := Lib.hid b1
  clear r1 b1
  obtain ⟨a1, cap1, h1, _, _⟩ := R1.out.mem
  obtain ⟨c0, c1, c2, f1⟩ := cells3 h1
  clear h1
  go_wp2_with fail
  go_quiet (fail)
  go_wp2_with fail
  refine (S2.out _ R1.out _).mono ?_
  rintro e w2 ⟨rfl, r2, b2⟩
  go_wp2_with fail
  go_ret
  exact ⟨rfl, r2, B1.out.trans b2⟩

set_option maxHeartbeats 4000000 in
/-- Fewer bytes than it says. -/
theorem rdText_few (w : World) (g : Nat) (l : List Nat) (pos most v s : Nat) (h : RdP w g l pos false) (hm : most ≤ 9223372036854775807) (he : numAt most 0 0 (l.drop pos) = (v, s, 0)) (hs : pos + s ≤ l.length) (hf : l.length - (pos + s) < v) :
    Calls Tryz.prog 90 #[.pointer (some ⟨g, 0, none⟩), .int .i64 (most : Int)] w (Spoilt g w (.string ⟨#[]⟩)) := by
  have N2 := Lib.hid (rdNumber_ok w g l pos most v s h (by omega) he hs)
  have S2 := Lib.hid (fun W q (h : RdP W g l q false) n => spoil_drewN W g l q false h n)
  have tm : decide ((most : Int) < 0) = false := by simp
  have hwm : IntKind.u64.wrap (most : Int) = (most : Int) := by rw [IntKind.wrap_u64]; omega
  have hll := h.len
  clear h he
  generalize pos + s = q at *
  obtain ⟨r, hr, hrl, HR⟩ : ∃ r : Nat, (l.length : Int) - (q : Int) = (r : Int) ∧ r ≤ 1000000 ∧ Hid (r = l.length - q) := ⟨l.length - q, by omega, by omega, rfl⟩
  rw [← HR.out] at hf
  have hwr : IntKind.u64.wrap (r : Int) = (r : Int) := by rw [IntKind.wrap_u64]; omega
  go_enter Tryz.func90, Tryz.ntmps90
  go_wp2_with fail
  refine N2.out.mono ?_
  rintro e w1 ⟨rfl, r1, b1⟩
  have R1 := Lib.hid r1
  have B1 := Lib.hid b1
  clear r1 b1
  obtain ⟨a1, cap1, h1, _, _⟩ := R1.out.mem
  obtain ⟨c0, c1, c2, f1⟩ := cells3 h1
  clear h1
  go_wp2_with fail
  go_quiet (fail)
  go_wp2_with fail
  refine (S2.out _ _ R1.out _).mono ?_
  rintro e w2 ⟨rfl, r2, b2⟩
  go_wp2_with fail
  go_ret
  exact ⟨rfl, r2, B1.out.trans b2⟩

set_option maxHeartbeats 4000000 in
/-- A text. -/
theorem rdText_ok (w : World) (g : Nat) (l : List Nat) (pos most v s : Nat) (h : RdP w g l pos false) (hm : most ≤ 9223372036854775807) (he : numAt most 0 0 (l.drop pos) = (v, s, 0)) (hs : pos + s ≤ l.length) (hf : ¬ l.length - (pos + s) < v) :
    Calls Tryz.prog 90 #[.pointer (some ⟨g, 0, none⟩), .int .i64 (most : Int)] w (Gone g l (pos + s + v) w (.string (strB ((l.drop (pos + s)).take v)))) := by
  have N2 := Lib.hid (rdNumber_ok w g l pos most v s h (by omega) he hs)
  have tm : decide ((most : Int) < 0) = false := by simp
  have hwm : IntKind.u64.wrap (most : Int) = (most : Int) := by rw [IntKind.wrap_u64]; omega
  have hll := h.len
  clear h he
  generalize pos + s = q at *
  obtain ⟨r, hr, hrl, HR⟩ : ∃ r : Nat, (l.length : Int) - (q : Int) = (r : Int) ∧ r ≤ 1000000 ∧ Hid (r = l.length - q) := ⟨l.length - q, by omega, by omega, rfl⟩
  have hqv : q + v ≤ l.length := by omega
  rw [← HR.out] at hf
  have hwr : IntKind.u64.wrap (r : Int) = (r : Int) := by rw [IntKind.wrap_u64]; omega
  have hwv : IntKind.i64.wrap (v : Int) = (v : Int) := by rw [IntKind.wrap_i64]; omega
  obtain ⟨z, hz, HZ⟩ : ∃ z : Nat, (q : Int) + (v : Int) = (z : Int) ∧ Hid (q + v = z) := ⟨q + v, by omega, rfl⟩
  have hzl : z ≤ l.length := by have := HZ.out; omega
  have hqz : q ≤ z := by have := HZ.out; omega
  have HV := Lib.hid (show v = z - q by have := HZ.out; omega)
  go_enter Tryz.func90, Tryz.ntmps90
  go_wp2_with fail
  refine N2.out.mono ?_
  rintro e w1 ⟨rfl, r1, b1⟩
  have R1 := Lib.hid r1
  have B1 := Lib.hid b1
  clear r1 b1
  obtain ⟨a1, cap1, h1, h2, h3⟩ := R1.out.mem
  obtain ⟨c0, c1, c2, f1⟩ := cells3 h1
  clear h1 h2 h3
  go_wp2_with fail
  go_quiet (fail)
  go_wp2_with fail
  have r4 := (R1.out.drewN nq).on z hzl
  have b4 := (B1.out.drewN nq).set 1 (.int .i64 (z : Int))
  clear c0 c1 c2 f1
  generalize (w1.drewN nq).setCell ⟨g, 1, none⟩ (.int .i64 (z : Int)) = W at *
  obtain ⟨a2, cap2, h1, h2, h3⟩ := r4.mem
  obtain ⟨c0, c1, c2, f1⟩ := cells3 h1
  obtain ⟨a9, c9, s9, k9⟩ := slice_part (a := a2) h2.cap q z (q : Int) (z : Int) rfl rfl hqz hzl
  have hcv := fun n => run_text ((k9 W h2).below (drewN_below W n))
  have H2 := h2.cap
  have R4 := Lib.hid r4
  have B4 := Lib.hid b4
  rw [HV.out] at *
  clear h1 h2 h3 k9 r4 b4
  generalize (l.drop q).take (z - q) = body at *
  go_quiet (fail)
  go_wp2_with fail
  go_ret
  refine ⟨rfl, ?_, B4.out.drewN _⟩
  exact R4.out.drewN _
end

/- ScRead: What Number and Text of a Reader of package packet answer, as one state that is read on. -/
section
set_option maxRecDepth 100000
open Go.RowKit Go.ChangeShapes Go.WideShapes Go.ChangeAt

/-- A Reader at block g of which this is left. -/
def RdS (w : World) (g : Nat) (s : Sc) : Prop := (s = none ∧ RdP w g [] 0 true) ∨ ∃ l pos, s = some (l.drop pos) ∧ RdP w g l pos false
/-- This is answered, and the Reader is further on. -/
def ReadS (g : Nat) (v : Value) (s : Sc) (w : World) (e : Ending) (w' : World) : Prop := e = .returned v ∧ RdS w' g s ∧ But g w w'
theorem RdS.lt {w : World} {g : Nat} {s : Sc} (h : RdS w g s) : g < w.heap.size := by
  rcases h with ⟨_, h⟩ | ⟨_, _, _, h⟩ <;> exact h.lt
theorem RdS.below {w w' : World} {g : Nat} {s : Sc} (h : RdS w g s) (hb : Below w.heap.size w w') : RdS w' g s := by
  rcases h with ⟨e, h⟩ | ⟨l, p, e, h⟩
  · exact .inl ⟨e, h.below hb⟩
  · exact .inr ⟨l, p, e, h.below hb⟩
theorem RdP.bytes {w : World} {g : Nat} {l : List Nat} {pos : Nat} {bad : Bool} (h : RdP w g l pos bad) : Bytes l := by
  obtain ⟨_, _, _, h, _⟩ := h.mem
  exact h.byte
theorem RdS.bytes {w : World} {g : Nat} {s : Sc} (h : RdS w g s) : BytesS s := by
  rcases h with ⟨e, h⟩ | ⟨l, p, e, h⟩
  · subst e; intro b e; cases e
  · subst e; intro b e; cases e
    exact fun x hx => h.bytes x (List.mem_of_mem_drop hx)
/-- What turns in other blocks that came later, is nothing to it. -/
theorem RdP.other {w w' : World} {g k : Nat} {l : List Nat} {pos : Nat} {bad : Bool} (h : RdP w g l pos bad) (hk : g < k) (hb : But k w w') : RdP w' g l pos bad := by
  obtain ⟨a, c, h1, h2, h3⟩ := h.mem
  exact ⟨h.le, h.len, a, c, (hb.block g h.lt (Nat.ne_of_lt hk)).trans h1, h2.but (fun b o e => Nat.lt_trans (h3 b o e) hk) hb, h3⟩
theorem RdS.other {w w' : World} {g k : Nat} {s : Sc} (h : RdS w g s) (hk : g < k) (hb : But k w w') : RdS w' g s := by
  rcases h with ⟨e, h⟩ | ⟨l, p, e, h⟩
  · exact .inl ⟨e, h.other hk hb⟩
  · exact .inr ⟨l, p, e, h.other hk hb⟩
theorem But.new {g k : Nat} {w w' w'' : World} (h : But g w w') (hk : w.heap.size ≤ k) (hb : But k w' w'') : But g w w'' :=
  ⟨hb.os.trans h.os, hb.tape.trans h.tape, hb.output.trans h.output, Nat.le_trans h.size hb.size, fun i hi hg => (hb.block i (Nat.lt_of_lt_of_le hi h.size) (by omega)).trans (h.block i hi hg)⟩
theorem numAt_in {m : Nat} {l : List Nat} {pos v k : Nat} (hp : pos ≤ l.length) (h : numAt m 0 0 (l.drop pos) = (v, k, 0)) : pos + k ≤ l.length := by
  rcases numAt_errs m (l.drop pos) 0 0 with h1 | h1 | ⟨v', k', h1, _, h3⟩
  · rw [h] at h1; simp at h1
  · rw [h] at h1; simp at h1
  · rw [h] at h1
    simp only [Prod.mk.injEq, and_true] at h1
    rw [List.length_drop] at h3
    omega
theorem rd_num (w : World) (g : Nat) (s : Sc) (most : Nat) (h : RdS w g s) (hm : most < 18446744073709551616) :
    Calls Tryz.prog 89 #[.pointer (some ⟨g, 0, none⟩), .int .u64 (most : Int)] w (ReadS g (.int .u64 ((numS most s).1 : Int)) (numS most s).2 w) := by
  rcases h with ⟨rfl, h⟩ | ⟨l, pos, rfl, h⟩
  · exact (rdNumber_bad w g [] 0 _ h).mono fun e w' ⟨he, hw⟩ => ⟨he, .inl ⟨rfl, hw ▸ h⟩, hw ▸ But.refl _ _⟩
  · rcases hn : numAt most 0 0 (l.drop pos) with ⟨v, k, e⟩
    by_cases he : e = 0
    · subst he
      have hs := numAt_in h.le hn
      have hq : numS most (some (l.drop pos)) = (v, some (l.drop (pos + k))) := by simp [numS, hn]
      rw [hq]
      exact (rdNumber_ok w g l pos most v k h hm hn hs).mono fun e w' ⟨he, hr, hb⟩ => ⟨he, .inr ⟨l, pos + k, rfl, hr⟩, hb⟩
    · have hq : numS most (some (l.drop pos)) = (0, none) := by simp [numS, hn, he]
      rw [hq]
      exact (rdNumber_err w g l pos most h hm (by rw [hn]; exact he)).mono fun e w' ⟨he, hr, hb⟩ => ⟨he, .inl ⟨rfl, hr⟩, hb⟩
theorem rd_text (w : World) (g : Nat) (s : Sc) (most : Nat) (h : RdS w g s) (hm : most ≤ 9223372036854775807) :
    Calls Tryz.prog 90 #[.pointer (some ⟨g, 0, none⟩), .int .i64 (most : Int)] w (ReadS g (.string (strB (textS most s).1)) (textS most s).2 w) := by
  rcases h with ⟨rfl, h⟩ | ⟨l, pos, rfl, h⟩
  · exact (rdText_bad w g _ h (by omega)).mono fun e w' ⟨he, hr, hb⟩ => ⟨he, .inl ⟨rfl, hr⟩, hb⟩
  · rcases hn : numAt most 0 0 (l.drop pos) with ⟨v, k, e⟩
    by_cases he : e = 0
    · subst he
      have hs := numAt_in h.le hn
      have hq : numS most (some (l.drop pos)) = (v, some (l.drop (pos + k))) := by simp [numS, hn]
      have hl : (l.drop (pos + k)).length = l.length - (pos + k) := List.length_drop
      by_cases hf : l.length - (pos + k) < v
      · have ht : textS most (some (l.drop pos)) = ([], none) := by rw [textS_eq, hq]; simp only; rw [if_pos (by omega)]
        rw [ht]
        exact (rdText_few w g l pos most v k h hm hn hs hf).mono fun e w' ⟨he, hr, hb⟩ => ⟨he, .inl ⟨rfl, hr⟩, hb⟩
      · have ht : textS most (some (l.drop pos)) = ((l.drop (pos + k)).take v, some (l.drop (pos + k + v))) := by rw [textS_eq, hq]; simp only; rw [if_neg (by omega), List.drop_drop]
        rw [ht]
        exact (rdText_ok w g l pos most v k h hm hn hs hf).mono fun e w' ⟨he, hr, hb⟩ => ⟨he, .inr ⟨l, pos + k + v, rfl, hr⟩, hb⟩
    · have hq : numS most (some (l.drop pos)) = (0, none) := by simp [numS, hn, he]
      have ht : textS most (some (l.drop pos)) = ([], none) := by rw [textS_eq, hq]
      rw [ht]
      exact (rdText_err w g l pos most h hm (by rw [hn]; exact he)).mono fun e w' ⟨he, hr, hb⟩ => ⟨he, .inl ⟨rfl, hr⟩, hb⟩
theorem rd_bad_any (w : World) (g : Nat) (s : Sc) (h : RdS w g s) : Calls Tryz.prog 134 #[.pointer (some ⟨g, 0, none⟩)] w (BoolSame s.isNone w) := by
  rcases h with ⟨rfl, h⟩ | ⟨l, pos, rfl, h⟩ <;> exact bad_any w g _ _ _ h
theorem rd_done_any (w : World) (g : Nat) (s : Sc) (h : RdS w g s) : Calls Tryz.prog 28 #[.pointer (some ⟨g, 0, none⟩)] w (BoolB (s == some []) w) := by
  rcases h with ⟨rfl, h⟩ | ⟨l, pos, rfl, h⟩
  · exact done_any w g _ _ _ h
  · have e : (some (l.drop pos) == some []) = (!false && decide (pos = l.length)) := by
      rw [Bool.eq_iff_iff]
      have := h.le
      simp
      omega
    rw [e]
    exact done_any w g _ _ _ h
theorem Row.but {w w' : World} {g k : Nat} {T : TypeId} {cs : Array Value} (h : Row w k T cs) (hb : But g w w') (hk : k ≠ g) : Row w' k T cs := (hb.block k h.lt hk).trans h
/-- A call that reads into a variable of its own: its result's block, then the variable's. -/
structure Rin (w : World) (g : Nat) (T : TypeId) (z cs : Array Value) (s : Sc) (w' : World) : Prop where
  rd : RdS w' g s
  but : But g w w'
  res : Row w' w.heap.size T z
  var : Row w' (w.heap.size + 1) T cs
theorem Rin.begin {w : World} {g : Nat} {s : Sc} (h : RdS w g s) (T : TypeId) (z : Array Value) : Rin w g T z z s ((w.alloc (.cells z T)).alloc (.cells z T)) := by
  have b : Below w.heap.size w ((w.alloc (.cells z T)).alloc (.cells z T)) := ((Below.refl _ _).alloc (Nat.le_refl _) _).alloc (by simp) _
  refine ⟨h.below b, .of b, ?_, heap_alloc2_new _ _ _⟩
  show _ = _
  rw [heap_alloc_old _ _ (by simp)]
  exact heap_alloc_new _ _
theorem Rin.call {w w1 w2 : World} {g : Nat} {T : TypeId} {z cs : Array Value} {s t : Sc} (h : Rin w g T z cs s w1) (hg : g < w.heap.size) (r : RdS w2 g t) (b : But g w1 w2) : Rin w g T z cs t w2 :=
  ⟨r, h.but.trans b, h.res.but b (by omega), h.var.but b (by omega)⟩
theorem Rin.set {w w1 : World} {g : Nat} {T : TypeId} {z cs : Array Value} {s : Sc} (h : Rin w g T z cs s w1) (hg : g < w.heap.size) (o : Nat) (v : Value) : Rin w g T z (cs.setIfInBounds o v) s (w1.setCell ⟨w.heap.size + 1, o, none⟩ v) :=
  ⟨h.rd.other (k := w.heap.size + 1) (by omega) ((But.refl _ _).set o v), h.but.new (k := w.heap.size + 1) (by omega) ((But.refl _ _).set o v), h.res.but (g := w.heap.size + 1) ((But.refl _ _).set o v) (by omega), h.var.set o v⟩
theorem Rin.fin {w w1 : World} {g : Nat} {T : TypeId} {z cs : Array Value} {s : Sc} (h : Rin w g T z cs s w1) (hg : g < w.heap.size) (ds : Array Value) : RdS (w1.setRow w.heap.size ds) g s ∧ But g w (w1.setRow w.heap.size ds) :=
  ⟨h.rd.other (k := w.heap.size) hg ((But.refl _ _).setRow ds), h.but.new (Nat.le_refl _) ((But.refl _ _).setRow ds)⟩
/-- What turns in a later block is nothing to it. -/
theorem Rin.far {w w1 w2 : World} {g k : Nat} {T : TypeId} {z cs : Array Value} {s : Sc} (h : Rin w g T z cs s w1) (hg : g < w.heap.size) (hk : w.heap.size + 2 ≤ k) (b : But k w1 w2) : Rin w g T z cs s w2 :=
  ⟨h.rd.other (by omega) b, h.but.new (by omega) b, h.res.but b (by omega), h.var.but b (by omega)⟩
theorem But.drew (k : Nat) (w : World) : But k w w.drew := ⟨rfl, rfl, rfl, Nat.le_refl _, fun _ _ _ => rfl⟩
theorem But.alloc (k : Nat) (w : World) (o : Obj) : But k w (w.alloc o) := .of ((Below.refl _ _).alloc (Nat.le_refl _) _)
theorem But.grown {w w' : World} {row : Option Nat} (h : w.grownBy w' row) {B : Nat} (hr : ∀ k, row = some k → B ≤ k) : ∃ k, B ≤ k ∧ But k w w' := by
  cases row with
  | none => exact ⟨B, Nat.le_refl _, h.os, h.tape, h.output, h.size, fun i hi _ => h.block i hi (by simp)⟩
  | some k => exact ⟨k, hr k rfl, h.os, h.tape, h.output, h.size, fun i hi hk => h.block i hi (by simpa using hk)⟩
theorem cellsR3 {w : World} {g : Nat} {T : TypeId} {p q r : Value} (h : Row w g T #[p, q, r]) : (w.cell? ⟨g, 0, none⟩ = some p ∧ w.cell? ⟨g, 1, none⟩ = some q ∧ w.cell? ⟨g, 2, none⟩ = some r) ∧ w.frozen? ⟨g, 0, none⟩ = false ∧ w.frozen? ⟨g, 1, none⟩ = false ∧ w.frozen? ⟨g, 2, none⟩ = false :=
  ⟨⟨h.cell 0, h.cell 1, h.cell 2⟩, h.free 0, h.free 1, h.free 2⟩
theorem sizeG (x0 x1 x2 : Value) : (Tryz.prog.info? 24).map (·.size) = some #[x0, x1, x2].size := by
  show _ = some 3
  kernel_rfl
def groupV (t : List Nat × List Nat × List Nat) : Value := .agg #[.string (strB t.1), .string (strB t.2.1), .string (strB t.2.2)]
end

/- ScPut: Lists of numbers and texts that a call writes: their rows, and how long their bytes are. -/
section
set_option maxRecDepth 100000
open Go.RowKit

theorem nums_five (a b c d e : Nat) (ha : a < 18446744073709551616) (hb : b < 18446744073709551616) (hc : c < 18446744073709551616) (hd : d < 18446744073709551616) (he : e < 18446744073709551616) (W : World) :
    NumsP (W.alloc (.cells #[.int .u64 (a : Int), .int .u64 (b : Int), .int .u64 (c : Int), .int .u64 (d : Int), .int .u64 (e : Int)] 74)) (some ⟨W.heap.size, 0, none⟩) 5 [a, b, c, d, e] := by
  refine ⟨by simp, by simp, fun n hn => ?_, fun _ => ⟨_, _, rfl, by simp, fun j x hj => ?_⟩⟩
  · simp at hn
    rcases hn with rfl | rfl | rfl | rfl | rfl <;> assumption
  · match j, hj with
    | 0, hj => simp at hj; subst hj; simp
    | 1, hj => simp at hj; subst hj; simp
    | 2, hj => simp at hj; subst hj; simp
    | 3, hj => simp at hj; subst hj; simp
    | 4, hj => simp at hj; subst hj; simp
    | _ + 5, hj => simp at hj
theorem nums_two (a b : Nat) (ha : a < 18446744073709551616) (hb : b < 18446744073709551616) (W : World) :
    NumsP (W.alloc (.cells #[.int .u64 (a : Int), .int .u64 (b : Int)] 74)) (some ⟨W.heap.size, 0, none⟩) 2 [a, b] := by
  refine ⟨by simp, by simp, fun n hn => ?_, fun _ => ⟨_, _, rfl, by simp, fun j x hj => ?_⟩⟩
  · simp at hn
    rcases hn with rfl | rfl <;> assumption
  · match j, hj with
    | 0, hj => simp at hj; subst hj; simp
    | 1, hj => simp at hj; subst hj; simp
    | _ + 2, hj => simp at hj
theorem strs_one (a : ByteArray) (W : World) : StrsP (W.alloc (.cells #[.string a] 9)) (some ⟨W.heap.size, 0, none⟩) 1 [a] := by
  refine ⟨by simp, by simp, fun _ => ⟨_, _, rfl, by simp, fun j x hj => ?_⟩⟩
  match j, hj with
  | 0, hj => simp at hj; subst hj; simp
  | _ + 1, hj => simp at hj
theorem strs_three (a b c : ByteArray) (W : World) : StrsP (W.alloc (.cells #[.string a, .string b, .string c] 9)) (some ⟨W.heap.size, 0, none⟩) 3 [a, b, c] := by
  refine ⟨by simp, by simp, fun _ => ⟨_, _, rfl, by simp, fun j x hj => ?_⟩⟩
  match j, hj with
  | 0, hj => simp at hj; subst hj; simp
  | 1, hj => simp at hj; subst hj; simp
  | 2, hj => simp at hj; subst hj; simp
  | _ + 3, hj => simp at hj
theorem wrap_64 (n : Int) (h0 : 0 ≤ n) (h1 : n ≤ 1000000000000) : ∃ m : Nat, IntKind.u64.wrap n = (m : Int) ∧ n.toNat = m ∧ m < 18446744073709551616 :=
  ⟨n.toNat, by rw [IntKind.wrap_u64]; omega, rfl, by omega⟩

theorem textN (a2 : Option Addr) (c2 : Nat) (ns : List ByteArray) (W : World) (h : StrsP W a2 c2 ns) (hn : ns.length ≤ 1000) (hs : ∀ x ∈ ns, x.size ≤ 800) (y : List Nat) (hy : textsL ns = y) :
    Calls Tryz.prog 47 #[.slice none 0 0, .slice a2 ns.length c2] W (OwnPost y W) := by
  have := text_any none a2 0 c2 [] ns W (BytesP.nil _ _ _) h (by simp) hn hs
  rw [List.nil_append, hy] at this
  exact this
theorem numN (a2 : Option Addr) (c2 : Nat) (ns : List Nat) (W : World) (h : NumsP W a2 c2 ns) (hn : ns.length ≤ 1000) (y : List Nat) (hy : numsL ns = y) :
    Calls Tryz.prog 46 #[.slice none 0 0, .slice a2 ns.length c2] W (OwnPost y W) := by
  have := number_any none a2 0 c2 [] ns W (BytesP.nil _ _ _) h (by simp) hn
  rw [List.nil_append, hy] at this
  exact this
theorem textL_32 {s : ByteArray} (h : s.size ≤ 32) : (textL s).length ≤ 42 := by
  have := numL_ten (show s.size < 18446744073709551616 by omega)
  unfold textL
  rw [List.length_append, strL_len]
  omega
theorem numsL_len : ∀ (l : List Nat), (∀ n ∈ l, n < 18446744073709551616) → (numsL l).length ≤ 10 * l.length
  | [], _ => by simp [numsL]
  | n :: l, h => by
    have h1 := numL_ten (h n (by simp))
    have h2 := numsL_len l (fun m hm => h m (by simp [hm]))
    unfold numsL at h2 ⊢
    rw [List.map_cons, List.flatten_cons, List.length_append, List.length_cons]
    omega

/-- What is put behind own bytes is nothing to a block of other cells. -/
theorem Row.own {W W' : World} {base X : Nat} {T : TypeId} {cs : Array Value} {v : Value} {acc : List Nat} (h : Row W X T cs) (o : OwnB W base v acc) (hT : T ≠ 5) (g : W.grownBy W' v.ownBlock) : Row W' X T cs := by
  refine (g.block X h.lt (fun e => ?_)).trans h
  rcases o.2 with ⟨rfl, _⟩ | ⟨k, cap, cur, rfl, _, h2, _⟩
  · cases e
  · injection e with e
    subst e
    unfold Row at h
    rw [h2] at h
    injection h with h
    injection h with _ h
    exact hT h.symm
end

end Go.Proofs.YtfmpibmhhfmajaaGreatDoor
