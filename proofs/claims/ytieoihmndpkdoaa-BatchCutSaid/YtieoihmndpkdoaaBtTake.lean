/- What Take of package batch answers. -/
import Derived.Test.YtieoihmndpkdoaaBtRead
namespace Go.Proofs.Ytieoihmndpkdoaa
set_option maxRecDepth 100000
open Go.RowKit Go.ChangeShapes Go.WideShapes Go.ChangeAt

theorem takeBO_ok {s : Sc} (h1 : (takeB s).2.isNone = false) (h2 : rightBt (takeB s).1 = true) : takeBO s = (takeB s).1 ∧ (takeBV s).isSome = true := by
  have : (takeB s).2.isSome = true := by
    cases e : (takeB s).2 with
    | none => rw [e] at h1; cases h1
    | some _ => rfl
  unfold takeBO takeBV
  rw [this, h2]
  exact ⟨rfl, rfl⟩
theorem takeBO_no {s : Sc} (h : (takeB s).2.isNone = true ∨ rightBt (takeB s).1 = false) : takeBO s = noBt ∧ (takeBV s).isSome = false := by
  have : ((takeB s).2.isSome && rightBt (takeB s).1) = false := by
    rcases h with h | h
    · cases e : (takeB s).2 with
      | none => rfl
      | some _ => rw [e] at h; cases h
    · rw [h, Bool.and_false]
  unfold takeBO takeBV
  rw [this]
  exact ⟨rfl, rfl⟩

/-- Its texts are short, and its members few. -/
def FitsB (b : Bt) : Prop := (∀ x ∈ b.mem, x.size ≤ 32) ∧ b.mem.length ≤ 64 ∧ b.car.size ≤ 32 ∧ b.zone.size ≤ 32 ∧ b.serv.size ≤ 32
theorem takeB_fits {s : Sc} (h : BytesS s) : FitsB (takeB s).1 := by
  have b5 := numS_bytes (numS_bytes (numS_bytes (numS_bytes (numS_bytes h 1000000000000) 2) 3) 1000000000000) 1099511627776
  unfold FitsB takeB
  simp only
  generalize (numS 1099511627776 (numS 1000000000000 (numS 3 (numS 2 (numS 1000000000000 s).2).2).2).2).2 = t at *
  have b6 := groupS_bytes b5
  have b7 := numS_bytes b6 64
  refine ⟨textsS_size _ b7, by rw [textsS_len]; exact numS_le 64 _ b6, ?_, ?_, ?_⟩
  · exact textS_strB b5
  · exact textS_strB (textS_bytes b5 32).1
  · exact textS_strB (textS_bytes (textS_bytes b5 32).1 32).1
theorem fits_no : FitsB noBt := ⟨fun x hx => (by cases hx), by decide, by decide, by decide, by decide⟩
theorem fits_right {b : Bt} (h : rightBt b = true) : FitsB b := by
  obtain ⟨_, _, _, _, _, r6, r7, r8, _⟩ := rightBt_of h
  obtain ⟨g1, g2, g3⟩ := groupB_of r6
  exact ⟨fun x hx => right_32 (r8 x hx), r7, right_32 g1, right_32 g2, right_32 g3⟩
theorem btP_of {w : World} {a : Option Addr} {cap : Nat} {b : Bt} (h : StrsP w a cap b.mem) (hf : FitsB b) : BtP w a cap b := by
  obtain ⟨f1, _, f3, f4, f5⟩ := hf
  exact ⟨h, fun x hx => (by unfold maxLen; have := f1 x hx; omega), by unfold maxLen; omega, by unfold maxLen; omega, by unfold maxLen; omega⟩

/-- The batch that stands next, or none, and whether there is one, are answered; the Reader is further on. -/
def TakeBt (g : Nat) (s : Sc) (w : World) (e : Ending) (w' : World) : Prop :=
  ∃ a cap, e = .returned (.tuple #[btV a cap (takeBO s), .bool (takeBV s).isSome]) ∧ OwnT w' w.heap.size (.slice a (takeBO s).mem.length cap) (takeBO s).mem ∧ RdS w' g (takeB s).2 ∧ But g w w'

/-- Behind the store of the result. -/
theorem takeB_end {w w1 : World} {g : Nat} {t : Sc} {base : Nat} {v : Value} {l : List ByteArray} (hg : g < w.heap.size) (hS : RdS w1 g t) (hG : But g w w1) (hO : OwnT w1 base v l) (hb : w.heap.size < base) (cs : Array Value) :
    OwnT (w1.setRow w.heap.size cs) w.heap.size v l ∧ RdS (w1.setRow w.heap.size cs) g t ∧ But g w (w1.setRow w.heap.size cs) :=
  ⟨(hO.grown fun k h1 h2 => setRow_other _ _ k _ (by omega)).base (by omega), hS.other hg ((But.refl _ _).setRow cs), hG.new (Nat.le_refl _) ((But.refl _ _).setRow cs)⟩

set_option maxHeartbeats 4000000 in
theorem btTake_any (w : World) (g : Nat) (s : Sc) (h : RdS w g s) : Calls Try.prog 24 #[.pointer (some ⟨g, 0, none⟩)] w (TakeBt g s w) := by
  have hg := h.lt
  have hb := h.bytes
  have F := Lib.hid (takeB_fits hb)
  have B0 : Below w.heap.size w (w.alloc (.cells zB 28)) := (Below.refl _ _).alloc (Nat.le_refl _) _
  have C := Lib.hid (btRead_any (w.alloc (.cells zB 28)) g s (h.below B0))
  have R0 : Hid (Row (w.alloc (.cells zB 28)) w.heap.size 28 zB) := Lib.hid (heap_alloc_new _ _)
  have G0 := Lib.hid (But.of (g := g) B0)
  have hz : (w.alloc (.cells zB 28)).heap.size = w.heap.size + 1 := by simp
  have OK := Lib.hid (takeBO_ok (s := s))
  have NO := Lib.hid (takeBO_no (s := s))
  clear h hb B0
  unfold zB at C
  unfold ReadBt at C
  go_enter Try.func24, Try.ntmps24
  go_wp2_with fail
  refine C.out.mono ?_
  rintro e w1 ⟨a, cap, rfl, o1, r1, b1⟩
  rw [show (w.alloc (.cells #[.int .i64 0, .int .i64 0, .int .i64 0, .int .i64 0, .int .i64 0, .string ⟨#[]⟩, .string ⟨#[]⟩, .string ⟨#[]⟩, .slice none 0 0] 28)).heap.size = w.heap.size + 1 from hz] at o1
  have R1 := Lib.hid (R0.out.but b1 (by omega))
  have G1 := Lib.hid (G0.out.trans b1)
  have O1 := Lib.hid o1
  have S1 := Lib.hid r1
  clear o1 r1 b1 hz R0 G0 C
  generalize (takeB s).1 = b at *
  generalize ht : (takeB s).2 = t at *
  have HT := Lib.hid ht
  clear ht
  unfold btV
  go_wp2_with fail
  have B := Lib.hid ((Below.refl w1.heap.size w1).alloc (Nat.le_refl _) (.cells #[Value.int IntKind.i64 b.id, Value.int IntKind.i64 b.wt, Value.int IntKind.i64 b.born, Value.int IntKind.i64 b.kind, Value.int IntKind.i64 b.phase, Value.string b.car, Value.string b.zone, Value.string b.serv, Value.slice a b.mem.length cap] 28))
  have D2 : Hid (BtB (w1.alloc (.cells #[Value.int IntKind.i64 b.id, Value.int IntKind.i64 b.wt, Value.int IntKind.i64 b.born, Value.int IntKind.i64 b.kind, Value.int IntKind.i64 b.phase, Value.string b.car, Value.string b.zone, Value.string b.serv, Value.slice a b.mem.length cap] 28)) w1.heap.size a cap b) := Lib.hid (BtB.new w1 a cap b)
  have R2 := Lib.hid (R1.out.below B.out)
  have O2 := Lib.hid (O1.out.below B.out)
  have S2 := Lib.hid (S1.out.below B.out)
  have G2 := Lib.hid (G1.out.trans (But.of B.out))
  generalize w1.alloc (Obj.cells #[Value.int IntKind.i64 b.id, Value.int IntKind.i64 b.wt, Value.int IntKind.i64 b.born, Value.int IntKind.i64 b.kind, Value.int IntKind.i64 b.phase, Value.string b.car, Value.string b.zone, Value.string b.serv, Value.slice a b.mem.length cap] 28) = W at *
  have P2 := Lib.hid (btP_of O2.out.reads.2 F.out)
  clear R1 O1 S1 G1 B
  refine (rd_bad_any W g t S2.out).mono ?_
  rintro e w' ⟨rfl, rfl⟩
  cases hbad : t.isNone with
  | true =>
    have HE := Lib.hid (NO.out (.inl hbad))
    go_wp2_with (refine wpList_store_batch rfl _ _ rfl w.heap.size none 0 noBt _ (by rfl) rfl rfl R2.out ?_)
    (try simp only [Exit.inBlock, Exit.then])
    apply bodyPost_ret
    case hd => rfl
    case hr => exact results_cell_one rfl _ _ w.heap.size _ rfl (load9 (b := noBt) (setRow_heap _ _ _ _ _ _ R2.out))
    case hR =>
      obtain ⟨e1, e2, e3⟩ := takeB_end hg S2.out G2.out (OwnT.nil _ (w.heap.size + 1)) (by omega) (btC none 0 noBt)
      exact ⟨none, 0, by rw [HE.out.1, HE.out.2]; rfl, by rw [HE.out.1]; exact e1, by rw [HT.out]; exact e2, e3⟩
  | false =>
    obtain ⟨⟨c0, c1, c2, c3, c4⟩, c5, c6, c7, c8⟩ := BtB.cells (b := b) D2.out
    have CR := Lib.hid (btRight_any a cap b W P2.out)
    unfold btV at CR
    go_wp2_with fail
    refine CR.out.mono ?_
    rintro e w3 ⟨rfl, b3⟩
    have D3 := Lib.hid (D2.out.below b3)
    have R3 := Lib.hid (R2.out.below b3)
    have O3 := Lib.hid (O2.out.below b3)
    have S3 := Lib.hid (S2.out.below b3)
    have G3 := Lib.hid (G2.out.trans (But.of b3))
    clear c0 c1 c2 c3 c4 c5 c6 c7 c8 b3 D2 R2 O2 S2 G2 P2 CR
    cases hr : rightBt b with
    | false =>
      have HE := Lib.hid (NO.out (.inr hr))
      go_wp2_with (refine wpList_store_batch rfl _ _ rfl w.heap.size none 0 noBt _ (by rfl) rfl rfl R3.out ?_)
      (try simp only [Exit.inBlock, Exit.then])
      apply bodyPost_ret
      case hd => rfl
      case hr => exact results_cell_one rfl _ _ w.heap.size _ rfl (load9 (b := noBt) (setRow_heap _ _ _ _ _ _ R3.out))
      case hR =>
        obtain ⟨e1, e2, e3⟩ := takeB_end hg S3.out G3.out (OwnT.nil _ (w.heap.size + 1)) (by omega) (btC none 0 noBt)
        exact ⟨none, 0, by rw [HE.out.1, HE.out.2]; rfl, by rw [HE.out.1]; exact e1, by rw [HT.out]; exact e2, e3⟩
    | true =>
      have HE := Lib.hid (OK.out hbad hr)
      obtain ⟨⟨c0, c1, c2, c3, c4⟩, c5, c6, c7, c8⟩ := BtB.cells (b := b) D3.out
      go_wp2_with (refine wpList_store_batch rfl _ _ rfl w.heap.size a cap b _ (by rfl) rfl rfl R3.out ?_)
      (try simp only [Exit.inBlock, Exit.then])
      apply bodyPost_ret
      case hd => rfl
      case hr => exact results_cell_one rfl _ _ w.heap.size _ rfl (load9 (b := b) (setRow_heap _ _ _ _ _ _ R3.out))
      case hR =>
        obtain ⟨e1, e2, e3⟩ := takeB_end hg S3.out G3.out O3.out (by omega) (btC a cap b)
        exact ⟨a, cap, by rw [HE.out.1, HE.out.2]; rfl, by rw [HE.out.1]; exact e1, by rw [HT.out]; exact e2, e3⟩

end Go.Proofs.Ytieoihmndpkdoaa
