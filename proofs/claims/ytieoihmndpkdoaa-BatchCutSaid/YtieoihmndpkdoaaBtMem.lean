/- A batch in memory; what isGroup, areMembers and Right of package batch answer. -/
import Derived.Test.YtieoihmndpkdoaaBtLeaf
namespace Go.Proofs.Ytieoihmndpkdoaa
set_option maxRecDepth 100000
open Go.RowKit

/-- A batch as a value, its members in a slice. -/
def btV (a : Option Addr) (cap : Nat) (b : Bt) : Value := .agg #[.int .i64 b.id, .int .i64 b.wt, .int .i64 b.born, .int .i64 b.kind, .int .i64 b.phase, .string b.car, .string b.zone, .string b.serv, .slice a b.mem.length cap]
/-- A batch's cells. -/
def btC (a : Option Addr) (cap : Nat) (b : Bt) : Array Value := #[.int .i64 b.id, .int .i64 b.wt, .int .i64 b.born, .int .i64 b.kind, .int .i64 b.phase, .string b.car, .string b.zone, .string b.serv, .slice a b.mem.length cap]

/-- Its members lie there; its texts fit. -/
structure BtP (w : World) (a : Option Addr) (cap : Nat) (b : Bt) : Prop where
  mem : StrsP w a cap b.mem
  fit : ∀ x ∈ b.mem, x.size ≤ maxLen
  car : b.car.size ≤ maxLen
  zone : b.zone.size ≤ maxLen
  serv : b.serv.size ≤ maxLen

theorem BtP.below {w w' : World} {a : Option Addr} {cap : Nat} {b : Bt} (h : BtP w a cap b) (hb : Below w.heap.size w w') : BtP w' a cap b := ⟨h.mem.below hb, h.fit, h.car, h.zone, h.serv⟩

/-- A batch in a block. -/
def BtB (w : World) (g : Nat) (a : Option Addr) (cap : Nat) (b : Bt) : Prop := w.heap[g]? = some (.cells (btC a cap b) 28 (0, 0))
theorem BtB.cells {w : World} {g : Nat} {a : Option Addr} {cap : Nat} {b : Bt} (h : BtB w g a cap b) :
    (w.cell? ⟨g, 0, none⟩ = some (.int .i64 b.id) ∧ w.cell? ⟨g, 1, none⟩ = some (.int .i64 b.wt) ∧ w.cell? ⟨g, 2, none⟩ = some (.int .i64 b.born) ∧ w.cell? ⟨g, 3, none⟩ = some (.int .i64 b.kind) ∧ w.cell? ⟨g, 4, none⟩ = some (.int .i64 b.phase)) ∧
    w.cell? ⟨g, 5, none⟩ = some (.string b.car) ∧ w.cell? ⟨g, 6, none⟩ = some (.string b.zone) ∧ w.cell? ⟨g, 7, none⟩ = some (.string b.serv) ∧ w.cell? ⟨g, 8, none⟩ = some (.slice a b.mem.length cap) := by
  unfold BtB btC at h
  simp [World.cell?, h]
theorem BtB.lt {w : World} {g : Nat} {a : Option Addr} {cap : Nat} {b : Bt} (h : BtB w g a cap b) : g < w.heap.size := (Array.getElem?_eq_some_iff.1 h).1
theorem BtB.below {w w' : World} {g : Nat} {a : Option Addr} {cap : Nat} {b : Bt} (h : BtB w g a cap b) (hb : Below w.heap.size w w') : BtB w' g a cap b := (hb.block g h.lt).trans h
theorem BtB.new (w : World) (a : Option Addr) (cap : Nat) (b : Bt) : BtB (w.alloc (.cells (btC a cap b) 28)) w.heap.size a cap b := heap_alloc_new w _

set_option maxHeartbeats 2000000 in
theorem btGroup_any (a b c : ByteArray) (w : World) (ha : a.size ≤ maxLen) (hb : b.size ≤ maxLen) (hc : c.size ≤ maxLen) : Calls Try.prog 42 #[.agg #[.string a, .string b, .string c]] w (Tell (groupB a b c) w) := by
  have C1 : Hid (∀ w, Calls Try.prog 32 #[.string a] w (Tell (rightT a) w)) := Lib.hid (fun w => right_any a w ha)
  have C2 : Hid (∀ w, Calls Try.prog 32 #[.string b] w (Tell (rightT b) w)) := Lib.hid (fun w => right_any b w hb)
  have C3 : Hid (∀ w, Calls Try.prog 32 #[.string c] w (Tell (rightT c) w)) := Lib.hid (fun w => right_any c w hc)
  have D := Lib.hid (GrB.new w a b c)
  have B := Lib.hid ((Below.refl w.heap.size w).alloc (Nat.le_refl _) (Obj.cells #[Value.string a, Value.string b, Value.string c] 25))
  have HE := Lib.hid (show groupB a b c = (rightT a && (rightT b && rightT c)) from rfl)
  clear ha hb hc
  go_enter Try.func42, Try.ntmps42
  go_wp2_with fail
  refine (C1.out _).mono ?_
  rintro e w1 ⟨rfl, b1⟩
  generalize w.alloc (Obj.cells #[Value.string a, Value.string b, Value.string c] 25) = W at *
  have D1 := Lib.hid (D.out.below b1)
  have B1 := Lib.hid (B.out.trans (b1.mono B.out.size))
  obtain ⟨c0, c1, c2⟩ := D1.out.cells
  clear b1
  cases h1 : rightT a with
  | false =>
    go_wp2_with fail
    go_ret
    exact ⟨by rw [HE.out, h1]; rfl, B1.out⟩
  | true =>
    go_wp2_with fail
    refine (C2.out _).mono ?_
    rintro e w2 ⟨rfl, b2⟩
    have D2 := Lib.hid (D1.out.below b2)
    have B2 := Lib.hid (B1.out.trans (b2.mono B1.out.size))
    clear c0 c1 c2 b2
    obtain ⟨c0, c1, c2⟩ := D2.out.cells
    cases h2 : rightT b with
    | false =>
      go_wp2_with fail
      go_ret
      exact ⟨by rw [HE.out, h1, h2]; rfl, B2.out⟩
    | true =>
      go_wp2_with fail
      refine (C3.out _).mono ?_
      rintro e w3 ⟨rfl, b3⟩
      have B3 := Lib.hid (B2.out.trans (b3.mono B2.out.size))
      clear c0 c1 c2 b3
      go_wp2_with fail
      go_ret
      exact ⟨by rw [HE.out, h1, h2]; rfl, B3.out⟩

set_option maxHeartbeats 2000000 in
theorem members_any (a : Option Addr) (cap : Nat) (l : List ByteArray) (w : World) (h : StrsP w a cap l) (hf : ∀ x ∈ l, x.size ≤ maxLen) :
    Calls Try.prog 43 #[.slice a l.length cap] w (Tell (membersB l) w) := by
  have H := Lib.hid h
  have hl := h.len
  have HF := Lib.hid hf
  clear h hf
  by_cases h64 : 64 < l.length
  · have HE := Lib.hid (show membersB l = false by simp [membersB]; omega)
    go_enter Try.func43, Try.ntmps43
    go_wp2_with fail
    go_ret
    exact ⟨by rw [HE.out]; rfl, Below.refl _ _⟩
  · have HM := Lib.hid (show membersB l = goodM (l.take 0) (l.drop 0) by simp [membersB]; omega)
    go_enter Try.func43, Try.ntmps43
    go_wp2_with fail
    go_loopw [10] (fun i wr => ∃ k : Nat, k ≤ l.length ∧ i = .int .i64 k ∧ Hid (membersB l = goodM (l.take k) (l.drop k)) ∧ Below w.heap.size w wr) (fun i _ => l.length - (intOf i).toNat)
    case atStart => exact ⟨0, Nat.zero_le _, rfl, HM, Below.refl _ _⟩
    case round =>
      obtain ⟨k, hk, rfl, HK, hbw⟩ := hrel
      by_cases hlt : k < l.length
      · have HP := Lib.hid (H.out.below hbw)
        obtain ⟨b, o, rfl, q1, c1⟩ := HP.out.at k hlt
        have p1 := H.out.cap
        obtain ⟨a2, c2, s2, k2⟩ := slice_toT (a := some ⟨b, o, none⟩) p1 k (k : Int) rfl (by omega)
        have HS := Lib.hid (goodM_step l k hlt)
        have hsz := HF.out l[k] (List.getElem_mem hlt)
        have C := Lib.hid (fun w => show Calls Try.prog 32 #[.string l[k]] w (Tell (rightT l[k]) w) from right_any l[k] w hsz)
        have C2 := Lib.hid (fun W hW => contains_any a2 c2 (l.take k) l[k] W hW)
        have H2 := Lib.hid (k2 wr HP.out)
        clear k2 hsz
        generalize l[k] = x at *
        generalize l.take k = d at *
        cases hr : rightT x with
        | false =>
          rw [hr] at C
          have HE := Lib.hid (show membersB l = false by rw [HK.out, HS.out, hr]; rfl)
          go_wp2_with fail
          refine (C.out _).mono ?_
          rintro e w1 ⟨rfl, b1⟩
          go_wp2_with fail
          go_ret
          exact ⟨by rw [HE.out]; rfl, hbw.trans (b1.mono hbw.size)⟩
        | true =>
          rw [hr] at C
          go_wp2_with fail
          refine (C.out _).mono ?_
          rintro e w1 ⟨rfl, b1⟩
          have H3 := Lib.hid (H2.out.below b1)
          go_wp2_with fail
          refine (C2.out _ H3.out).mono ?_
          rintro e w2 ⟨rfl, rfl⟩
          cases hh : hasT d x with
          | true =>
            have HE := Lib.hid (show membersB l = false by rw [HK.out, HS.out, hr, hh]; rfl)
            go_wp2_with fail
            go_ret
            exact ⟨by rw [HE.out]; rfl, hbw.trans (b1.mono hbw.size)⟩
          | false =>
            have HE := Lib.hid (show membersB l = goodM (l.take (k + 1)) (l.drop (k + 1)) by rw [HK.out, HS.out, hr, hh]; rfl)
            go_wp2_with fail
            go_roundw
            case rel => exact ⟨k + 1, by omega, by go_num, HE, hbw.trans (b1.mono hbw.size)⟩
            case measure => simp [intOf]; omega
      · have HE := Lib.hid (show membersB l = true by rw [HK.out, List.drop_eq_nil_of_le (by omega)]; rfl)
        go_wp2_with fail
        go_ret
        exact ⟨by rw [HE.out]; rfl, hbw⟩

end Go.Proofs.Ytieoihmndpkdoaa
