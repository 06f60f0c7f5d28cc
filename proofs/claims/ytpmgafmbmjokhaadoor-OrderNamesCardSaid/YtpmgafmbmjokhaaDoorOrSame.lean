/- What Same of package order, and the document's, answer, at any two orders. -/
import Derived.Test.YtpmgafmbmjokhaaDoorOrRight
namespace Go.Proofs.YtpmgafmbmjokhaaDoor
open Go.RowKit

theorem neq_ln (x y : Ln) (w : World) : (binOp .neq 49 (.agg #[.string x.sku, .int .i64 x.qty, .int .i64 x.wt]) (.agg #[.string y.sku, .int .i64 y.qty, .int .i64 y.wt])).run Tryd.prog w = .ok (.bool (!((x.sku.toList == y.sku.toList) && ((x.qty == y.qty) && (x.wt == y.wt))))) w := by
  have u2 := Tryd.underlying2
  have u9 := Tryd.underlying9
  have a2 := Tryd.isAgg2
  have a9 := Tryd.isAgg9
  have z2 := Tryd.sizeOf2
  have z9 := Tryd.sizeOf9
  have hS : Tryd.prog.underlying 49 = some (.struct (Tryd.prog.fieldsOf 49)) := by kernel_rfl
  have hp : Tryd.prog.stoodInHeld 49 = false := by kernel_rfl
  rw [run_neq_struct, show (10000 : Nat) = 9999 + 1 from rfl, run_equalIn_agg w 9999 49 _ _ hS hp]
  simp only [Program.fieldsOf, Tryd.underlying49]
  cases h1 : (x.sku.toList == y.sku.toList) <;> cases h2 : (x.qty == y.qty) <;> cases h3 : (x.wt == y.wt) <;> go_simp

/-- Are two lines the same? -/
def lnEq (x y : Ln) : Bool := (x.sku.toList == y.sku.toList) && ((x.qty == y.qty) && (x.wt == y.wt))
theorem str_iff (a b : ByteArray) : (a.toList == b.toList) = true ↔ a = b := by
  by_cases h : a = b
  · simp [h]
  · rw [str_ne h]; simp [h]
theorem lnEq_iff (x y : Ln) : lnEq x y = true ↔ x = y := by
  unfold lnEq
  rw [Bool.and_eq_true, Bool.and_eq_true, str_iff, beq_iff_eq, beq_iff_eq]
  cases x; cases y
  simp
def sameL : List Ln → List Ln → Bool
  | [], [] => true
  | x :: a, y :: b => lnEq x y && sameL a b
  | _, _ => false
theorem sameL_iff : ∀ (a b : List Ln), sameL a b = true ↔ a = b
  | [], [] => by simp [sameL]
  | x :: a, y :: b => by simp [sameL, sameL_iff a b, lnEq_iff]
  | [], _ :: _ => by simp [sameL]
  | _ :: _, [] => by simp [sameL]
theorem sameL_len {a b : List Ln} (h : a.length ≠ b.length) : sameL a b = false := by
  rw [Bool.eq_false_iff]
  intro e
  exact h (by rw [(sameL_iff a b).1 e])
theorem sameL_step (l m : List Ln) (k : Nat) (h1 : k < l.length) (h2 : k < m.length) : sameL (l.drop k) (m.drop k) = (lnEq l[k] m[k] && sameL (l.drop (k + 1)) (m.drop (k + 1))) := by
  rw [List.drop_eq_getElem_cons h1, List.drop_eq_getElem_cons h2, sameL]

set_option maxHeartbeats 2000000 in
theorem equalL_any (a1 a2 : Option Addr) (c1 c2 : Nat) (l m : List Ln) (w : World) (h1 : LnsP w a1 c1 l) (h2 : LnsP w a2 c2 m) (hl : l.length ≤ maxLen) (_hm : m.length ≤ maxLen) :
    Calls Tryd.prog 22 #[.slice a1 l.length c1, .slice a2 m.length c2] w (Tell (sameL l m) w) := by
  have H1 := Lib.hid h1
  have H2 := Lib.hid h2
  clear h1 h2
  unfold maxLen at hl
  by_cases hq : l.length = m.length
  rotate_left
  · have HE := Lib.hid (show sameL l m = false from sameL_len hq)
    go_enter Tryd.func22, Tryd.ntmps22
    go_wp2_with fail
    go_ret
    exact ⟨by rw [HE.out]; rfl, Below.refl _ _⟩
  · have HQ := Lib.hid hq
    rw [← hq]
    clear hq
    go_enter Tryd.func22, Tryd.ntmps22
    go_wp2_with fail
    go_loopw [13] (fun i wr => ∃ k : Nat, k ≤ l.length ∧ i = .int .i64 k ∧ Hid (sameL l m = sameL (l.drop k) (m.drop k)) ∧ Below w.heap.size w wr) (fun i _ => l.length - (intOf i).toNat)
    case atStart => exact ⟨0, Nat.zero_le _, rfl, rfl, Below.refl _ _⟩
    case round =>
      obtain ⟨k, hk, rfl, HK, hbw⟩ := hrel
      by_cases hlt : k < l.length
      · have hltm : k < m.length := by rw [← HQ.out]; exact hlt
        obtain ⟨b1, o1, rfl, q1, r1, r2, r3, _⟩ := (H1.out.below hbw).at k hlt
        obtain ⟨b2, o2, rfl, q2, s1, s2, s3, _⟩ := (H2.out.below hbw).at k hltm
        have p1 := H1.out.cap
        have p2 := H2.out.cap
        rw [← HQ.out] at p2
        have hn := neq_ln l[k] m[k]
        have HS := Lib.hid (sameL_step l m k hlt hltm)
        unfold lnEq at HS
        generalize l[k] = x at *
        generalize m[k] = y at *
        cases hb : ((x.sku.toList == y.sku.toList) && ((x.qty == y.qty) && (x.wt == y.wt))) with
        | true =>
          rw [hb] at HS hn
          have HE := Lib.hid (show sameL l m = sameL (l.drop (k + 1)) (m.drop (k + 1)) by rw [HK.out, HS.out]; rfl)
          clear hb
          go_wp2_with fail
          go_quiet (fail)
          go_wp2_with fail
          go_roundw
          case rel => exact ⟨k + 1, by omega, by go_num, HE, below_drewN hbw _⟩
          case measure => simp [intOf]; omega
        | false =>
          rw [hb] at HS hn
          have HE := Lib.hid (show sameL l m = false by rw [HK.out, HS.out]; rfl)
          clear hb
          go_wp2_with fail
          go_quiet (fail)
          go_wp2_with fail
          go_ret
          exact ⟨by rw [HE.out]; rfl, below_drewN hbw _⟩
      · have HE := Lib.hid (show sameL l m = true by rw [HK.out, List.drop_eq_nil_of_le (by omega), List.drop_eq_nil_of_le (by rw [← HQ.out]; omega)]; rfl)
        go_wp2_with fail
        go_ret
        exact ⟨by rw [HE.out]; rfl, hbw⟩

def grEq (a b c x y z : ByteArray) : Bool := (a.toList == x.toList) && ((b.toList == y.toList) && (c.toList == z.toList))
theorem eq_gr (a b c x y z : ByteArray) (w : World) : (binOp .eql 32 (.agg #[.string a, .string b, .string c]) (.agg #[.string x, .string y, .string z])).run Tryd.prog w = .ok (.bool (grEq a b c x y z)) w := by
  have u9 := Tryd.underlying9
  have a9 := Tryd.isAgg9
  have z9 := Tryd.sizeOf9
  have hS : Tryd.prog.underlying 32 = some (.struct (Tryd.prog.fieldsOf 32)) := by kernel_rfl
  have hp : Tryd.prog.stoodInHeld 32 = false := by kernel_rfl
  unfold grEq
  rw [run_eql_struct, show (10000 : Nat) = 9999 + 1 from rfl, run_equalIn_agg w 9999 32 _ _ hS hp]
  simp only [Program.fieldsOf, Tryd.underlying32]
  cases h1 : (a.toList == x.toList) <;> cases h2 : (b.toList == y.toList) <;> cases h3 : (c.toList == z.toList) <;> go_simp

def sgEq (p r q s : Int) (g h : Bool) : Bool := (p == q) && ((g == h) && (r == s))
theorem eq_sg (p r q s : Int) (g h : Bool) (w : World) : (binOp .eql 34 (.agg #[.int .i64 p, .bool g, .int .i64 r]) (.agg #[.int .i64 q, .bool h, .int .i64 s])).run Tryd.prog w = .ok (.bool (sgEq p r q s g h)) w := by
  have u3 := Tryd.underlying3
  have a3 := Tryd.isAgg3
  have z3 := Tryd.sizeOf3
  have u4 := Tryd.underlying4
  have a4 := Tryd.isAgg4
  have z4 := Tryd.sizeOf4
  have hS : Tryd.prog.underlying 34 = some (.struct (Tryd.prog.fieldsOf 34)) := by kernel_rfl
  have hp : Tryd.prog.stoodInHeld 34 = false := by kernel_rfl
  unfold sgEq
  rw [run_eql_struct, show (10000 : Nat) = 9999 + 1 from rfl, run_equalIn_agg w 9999 34 _ _ hS hp]
  simp only [Program.fieldsOf, Tryd.underlying34]
  cases h1 : (p == q) <;> cases h3 : (r == s) <;> cases g <;> cases h <;> go_simp

/-- Are two orders the same? -/
def sameO (x y : Od) : Bool := (x.id.toList == y.id.toList) && sameL x.ls y.ls && grEq x.car x.zone x.serv y.car y.zone y.serv && (x.total == y.total) && sgEq x.phase x.ref y.phase y.ref x.given y.given && (x.batch == y.batch)
theorem tl_iff (a b : ByteArray) : a.toList = b.toList ↔ a = b := by rw [← str_iff, beq_iff_eq]
theorem sameO_iff (x y : Od) : sameO x y = true ↔ x = y := by
  unfold sameO grEq sgEq
  simp only [Bool.and_eq_true, sameL_iff, beq_iff_eq, tl_iff]
  cases x; cases y
  simp
  constructor
  · rintro ⟨⟨⟨⟨⟨h1, h2⟩, h3, h4, h5⟩, h6⟩, h7, h8, h9⟩, h10⟩
    exact ⟨h1, h2, h3, h4, h5, h6, h7, h8, h9, h10⟩
  · rintro ⟨h1, h2, h3, h4, h5, h6, h7, h8, h9, h10⟩
    exact ⟨⟨⟨⟨⟨h1, h2⟩, h3, h4, h5⟩, h6⟩, h7, h8, h9⟩, h10⟩

set_option maxRecDepth 100000 in
set_option maxHeartbeats 4000000 in
theorem oSame_any (a1 a2 : Option Addr) (c1 c2 : Nat) (x y : Od) (w : World) (h1 : OdP w a1 c1 x) (h2 : OdP w a2 c2 y) : Calls Tryd.prog 14 #[odV a1 c1 x, odV a2 c2 y] w (Tell (sameO x y) w) := by
  have D0 := Lib.hid (OdB.new w a1 c1 x)
  have D2 := Lib.hid (OdB.new (w.alloc (.cells (odC a1 c1 x) 36)) a2 c2 y)
  have hz : (w.alloc (.cells (odC a1 c1 x) 36)).heap.size = w.heap.size + 1 := by simp
  have D1 := Lib.hid (D0.out.below ((Below.refl _ _).alloc (Nat.le_refl _) (.cells (odC a2 c2 y) 36)))
  have B := Lib.hid (((Below.refl w.heap.size w).alloc (Nat.le_refl _) (Obj.cells (odC a1 c1 x) 36)).alloc (by simp) (Obj.cells (odC a2 c2 y) 36))
  have L1 := Lib.hid (h1.lns.below B.out)
  have L2 := Lib.hid (h2.lns.below B.out)
  rw [hz] at D2
  have C := Lib.hid (fun W k1 k2 => equalL_any a1 a2 c1 c2 x.ls y.ls W k1 k2 h1.len h2.len)
  have HG := Lib.hid (eq_gr x.car x.zone x.serv y.car y.zone y.serv)
  have HQ := Lib.hid (eq_sg x.phase x.ref y.phase y.ref x.given y.given)
  have HE := Lib.hid (show sameO x y = ((x.id.toList == y.id.toList) && sameL x.ls y.ls && grEq x.car x.zone x.serv y.car y.zone y.serv && (x.total == y.total) && sgEq x.phase x.ref y.phase y.ref x.given y.given && (x.batch == y.batch)) from rfl)
  clear h1 h2 hz D0
  unfold odV
  unfold odC at *
  have hg := HG.out
  have hs := HQ.out
  cases h1 : (x.id.toList == y.id.toList) with
  | false =>
    go_enter Tryd.func14, Tryd.ntmps14
    go_wp2_with fail
    go_ret
    exact ⟨by rw [HE.out, h1]; simp, B.out⟩
  | true =>
    go_enter Tryd.func14, Tryd.ntmps14
    go_wp2_with fail
    generalize (w.alloc (Obj.cells #[Value.string x.id, Value.slice a1 x.ls.length c1, Value.string x.car, Value.string x.zone, Value.string x.serv, Value.int IntKind.i64 x.total, Value.int IntKind.i64 x.phase, Value.bool x.given, Value.int IntKind.i64 x.ref, Value.int IntKind.i64 x.batch] 36)).alloc (Obj.cells #[Value.string y.id, Value.slice a2 y.ls.length c2, Value.string y.car, Value.string y.zone, Value.string y.serv, Value.int IntKind.i64 y.total, Value.int IntKind.i64 y.phase, Value.bool y.given, Value.int IntKind.i64 y.ref, Value.int IntKind.i64 y.batch] 36) = W at *
    refine (C.out _ L1.out L2.out).mono ?_
    rintro e w1 ⟨rfl, b1⟩
    have E1 := Lib.hid (D1.out.below b1)
    have E2 := Lib.hid (D2.out.below b1)
    have B1 := Lib.hid (B.out.trans (b1.mono B.out.size))
    clear b1
    obtain ⟨⟨c0, c1, c2, c3, c4⟩, c5, c6, c7, c8, c9⟩ := OdB.cells (o := x) E1.out
    obtain ⟨⟨d0, d1, d2, d3, d4⟩, d5, d6, d7, d8, d9⟩ := OdB.cells (o := y) E2.out
    cases h2 : sameL x.ls y.ls with
    | false =>
      go_wp2_with fail
      go_ret
      exact ⟨by rw [HE.out, h1, h2]; simp, B1.out⟩
    | true =>
      cases h3 : grEq x.car x.zone x.serv y.car y.zone y.serv with
      | false =>
        rw [h3] at hg
        go_wp2_with fail
        go_ret
        exact ⟨by rw [HE.out, h1, h2, h3]; simp, B1.out⟩
      | true =>
        rw [h3] at hg
        cases h4 : (x.total == y.total) with
        | false =>
          go_wp2_with fail
          go_ret
          exact ⟨by rw [HE.out, h1, h2, h3, h4]; simp, B1.out⟩
        | true =>
          cases h5 : sgEq x.phase x.ref y.phase y.ref x.given y.given with
          | false =>
            rw [h5] at hs
            go_wp2_with fail
            go_ret
            exact ⟨by rw [HE.out, h1, h2, h3, h4, h5]; simp, B1.out⟩
          | true =>
            rw [h5] at hs
            cases h6 : (x.batch == y.batch) with
            | false =>
              go_wp2_with fail
              go_ret
              exact ⟨by rw [HE.out, h1, h2, h3, h4, h5, h6]; simp, B1.out⟩
            | true =>
              go_wp2_with fail
              go_ret
              exact ⟨by rw [HE.out, h1, h2, h3, h4, h5, h6]; simp, B1.out⟩

end Go.Proofs.YtpmgafmbmjokhaaDoor
