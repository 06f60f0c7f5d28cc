/- What Take of package order answers. -/
import Derived.Test.YtpmgafmbmjokhaaDoorOrTake
namespace Go.Proofs.YtpmgafmbmjokhaaDoor
open Go.RowKit Go.ChangeShapes Go.WideShapes Go.ChangeAt

/-- No order. -/
def noO : Od := ⟨⟨#[]⟩, [], ⟨#[]⟩, ⟨#[]⟩, ⟨#[]⟩, 0, 0, false, 0, 0⟩
def takeO (s : Sc) : Od := (takeV s).getD noO
def takeE (s : Sc) : Int := if (takeV s).isSome then 0 else 101
theorem takeO_ok {s : Sc} (h1 : (takeS s).2.isNone = false) (h2 : rightO (takeS s).1 = true) : takeO s = (takeS s).1 ∧ takeE s = 0 := by
  have : (takeS s).2.isSome = true := by
    cases e : (takeS s).2 with
    | none => rw [e] at h1; cases h1
    | some _ => rfl
  unfold takeO takeE takeV
  rw [this, h2]
  exact ⟨rfl, rfl⟩
theorem takeO_no {s : Sc} (h : (takeS s).2.isNone = true ∨ rightO (takeS s).1 = false) : takeO s = noO ∧ takeE s = 101 := by
  have : ((takeS s).2.isSome && rightO (takeS s).1) = false := by
    rcases h with h | h
    · cases e : (takeS s).2 with
      | none => rfl
      | some _ => rw [e] at h; cases h
    · rw [h, Bool.and_false]
  unfold takeO takeE takeV
  rw [this]
  exact ⟨rfl, rfl⟩

theorem takeS_fits {s : Sc} (h : BytesS s) : (∀ x ∈ (takeS s).1.ls, x.sku.size ≤ 32) ∧ (takeS s).1.ls.length ≤ 8 ∧ (takeS s).1.id.size ≤ 32 ∧ (takeS s).1.car.size ≤ 32 ∧ (takeS s).1.zone.size ≤ 32 ∧ (takeS s).1.serv.size ≤ 32 := by
  unfold takeS
  simp only [strB_size]
  have b1 := (textS_bytes h 32).1
  have b2 := numS_bytes b1 8
  have b3 := linesS_bytes (numS 8 (textS 32 s).2).1 b2
  have b4 := (textS_bytes b3 32).1
  have b5 := (textS_bytes b4 32).1
  exact ⟨linesS_skus _ b2, by rw [linesS_len]; exact numS_le 8 _ b1, textS_le 32 h, textS_le 32 b3, textS_le 32 b4, textS_le 32 b5⟩

/-- The order that stands next, or none, and the error's number are answered; the Reader is further on. -/
def TakeO (g : Nat) (s : Sc) (w : World) (e : Ending) (w' : World) : Prop :=
  ∃ a cap, e = .returned (.tuple #[odV a cap (takeO s), .int .i64 (takeE s)]) ∧ OwnL w' w.heap.size (.slice a (takeO s).ls.length cap) (takeO s).ls ∧ RdS w' g (takeS s).2 ∧ But g w w'

theorem odP_own {w : World} {base : Nat} {a : Option Addr} {cap : Nat} {o : Od} (h : OwnL w base (.slice a o.ls.length cap) o.ls) (hf : (∀ x ∈ o.ls, x.sku.size ≤ 32) ∧ o.ls.length ≤ 8 ∧ o.id.size ≤ 32 ∧ o.car.size ≤ 32 ∧ o.zone.size ≤ 32 ∧ o.serv.size ≤ 32) : OdP w a cap o := by
  obtain ⟨f1, f2, f3, f4, f5, f6⟩ := hf
  obtain ⟨a', c', e, h1⟩ := h.lns (fun x hx => by unfold maxLen; have := f1 x hx; omega)
  injection e with e1 e2 e3
  subst e1 e3
  exact ⟨h1, by unfold maxLen; omega, by unfold maxLen; omega, by unfold maxLen; omega, by unfold maxLen; omega, by unfold maxLen; omega⟩

theorem results_cell_one {fn : Func} {p u : Tmp} {ty : TypeId} (h : fn.results = #[.cell p ty, .tmp u]) (tmps : Array Value) (w : World) (g : Nat) (cs : Array Value)
    (hp : tmps.getD p undef = .pointer (some ⟨g, 0, none⟩)) (hl : (loadVar ty ⟨g, 0, none⟩).run Tryd.prog w = .ok (.agg cs) w) :
    (results fn tmps).run Tryd.prog w = .ok (.tuple #[.agg cs, tmps.getD u undef]) w := by
  have hp' : tmps[p]?.getD undef = .pointer (some ⟨g, 0, none⟩) := by simpa using hp
  simp [results, h, hp', asAddr, hl]
theorem load10 {w : World} {g : Nat} {x0 x1 x2 x3 x4 x5 x6 x7 x8 x9 : Value} (hg : Row w g 36 #[x0, x1, x2, x3, x4, x5, x6, x7, x8, x9]) : (loadVar 36 ⟨g, 0, none⟩).run Tryd.prog w = .ok (.agg #[x0, x1, x2, x3, x4, x5, x6, x7, x8, x9]) w :=
  run_loadVar_row w g 36 36 _ (0, 0) _ hg Tryd.underlying36 rfl (size10 _ _ _ _ _ _ _ _ _ _)

/-- Behind the store of the result. -/
theorem take_end {w w1 : World} {g : Nat} {t : Sc} {base : Nat} {v : Value} {l : List Ln} (hg : g < w.heap.size) (hS : RdS w1 g t) (hG : But g w w1) (hO : OwnL w1 base v l) (hb : w.heap.size < base) (cs : Array Value) :
    OwnL (w1.setRow w.heap.size cs) w.heap.size v l ∧ RdS (w1.setRow w.heap.size cs) g t ∧ But g w (w1.setRow w.heap.size cs) :=
  ⟨(hO.grown fun k h1 h2 => setRow_other _ _ k _ (by omega)).base (by omega), hS.other hg ((But.refl _ _).setRow cs), hG.new (Nat.le_refl _) ((But.refl _ _).setRow cs)⟩

set_option maxRecDepth 100000 in
set_option maxHeartbeats 4000000 in
theorem take_any (w : World) (g : Nat) (s : Sc) (h : RdS w g s) : Calls Tryd.prog 12 #[.pointer (some ⟨g, 0, none⟩)] w (TakeO g s w) := by
  have hg := h.lt
  have hb := h.bytes
  have F := Lib.hid (takeS_fits hb)
  have B0 : Below w.heap.size w (w.alloc (.cells zO 36)) := (Below.refl _ _).alloc (Nat.le_refl _) _
  have C := Lib.hid (read_any (w.alloc (.cells zO 36)) g s (h.below B0))
  have R0 : Hid (Row (w.alloc (.cells zO 36)) w.heap.size 36 zO) := Lib.hid (heap_alloc_new _ _)
  have G0 := Lib.hid (But.of (g := g) B0)
  have hz : (w.alloc (.cells zO 36)).heap.size = w.heap.size + 1 := by simp
  have OK := Lib.hid (takeO_ok (s := s))
  have NO := Lib.hid (takeO_no (s := s))
  clear h hb B0
  unfold zO at C
  unfold ReadO at C
  go_enter Tryd.func12, Tryd.ntmps12
  go_wp2_with fail
  refine C.out.mono ?_
  rintro e w1 ⟨a, cap, rfl, o1, r1, b1⟩
  rw [show (w.alloc (.cells #[.string ⟨#[]⟩, .slice none 0 0, .string ⟨#[]⟩, .string ⟨#[]⟩, .string ⟨#[]⟩, .int .i64 0, .int .i64 0, .bool false, .int .i64 0, .int .i64 0] 36)).heap.size = w.heap.size + 1 from hz] at o1
  have R1 := Lib.hid (R0.out.but b1 (by omega))
  have G1 := Lib.hid (G0.out.trans b1)
  have O1 := Lib.hid o1
  have S1 := Lib.hid r1
  clear o1 r1 b1 hz R0 G0 C
  generalize (takeS s).1 = o at *
  generalize ht : (takeS s).2 = t at *
  have HT := Lib.hid ht
  clear ht
  unfold odV
  go_wp2_with fail
  have B := Lib.hid ((Below.refl w1.heap.size w1).alloc (Nat.le_refl _) (.cells #[Value.string o.id, Value.slice a o.ls.length cap, Value.string o.car, Value.string o.zone, Value.string o.serv, Value.int IntKind.i64 o.total, Value.int IntKind.i64 o.phase, Value.bool o.given, Value.int IntKind.i64 o.ref, Value.int IntKind.i64 o.batch] 36))
  have D2 : Hid (OdB (w1.alloc (.cells #[Value.string o.id, Value.slice a o.ls.length cap, Value.string o.car, Value.string o.zone, Value.string o.serv, Value.int IntKind.i64 o.total, Value.int IntKind.i64 o.phase, Value.bool o.given, Value.int IntKind.i64 o.ref, Value.int IntKind.i64 o.batch] 36)) w1.heap.size a cap o) := Lib.hid (OdB.new w1 a cap o)
  have R2 := Lib.hid (R1.out.below B.out)
  have O2 := Lib.hid (O1.out.below B.out)
  have S2 := Lib.hid (S1.out.below B.out)
  have G2 := Lib.hid (G1.out.trans (But.of B.out))
  generalize w1.alloc (Obj.cells #[Value.string o.id, Value.slice a o.ls.length cap, Value.string o.car, Value.string o.zone, Value.string o.serv, Value.int IntKind.i64 o.total, Value.int IntKind.i64 o.phase, Value.bool o.given, Value.int IntKind.i64 o.ref, Value.int IntKind.i64 o.batch] 36) = W at *
  have P2 := Lib.hid (odP_own O2.out F.out)
  clear R1 O1 S1 G1 B
  refine (rd_bad_any W g t S2.out).mono ?_
  rintro e w' ⟨rfl, rfl⟩
  cases hbad : t.isNone with
  | true =>
    have HE := Lib.hid (NO.out (.inl hbad))
    go_wp2_with (refine wpList_store_order rfl _ _ rfl w.heap.size ⟨#[]⟩ ⟨#[]⟩ ⟨#[]⟩ ⟨#[]⟩ none 0 0 0 0 0 0 false rfl rfl R2.out ?_)
    (try simp only [Exit.inBlock, Exit.then])
    apply bodyPost_ret
    case hd => rfl
    case hr => exact results_cell_one rfl _ _ w.heap.size _ rfl (load10 (setRow_heap _ _ _ _ _ _ R2.out))
    case hR =>
      obtain ⟨e1, e2, e3⟩ := take_end hg S2.out G2.out (OwnL.nil _ (w.heap.size + 1)) (by omega) #[.string ⟨#[]⟩, .slice none 0 0, .string ⟨#[]⟩, .string ⟨#[]⟩, .string ⟨#[]⟩, .int .i64 0, .int .i64 0, .bool false, .int .i64 0, .int .i64 0]
      exact ⟨none, 0, by rw [HE.out.1, HE.out.2]; rfl, by rw [HE.out.1]; exact e1, by rw [HT.out]; exact e2, e3⟩

  | false =>
    obtain ⟨⟨c0, c1, c2, c3, c4⟩, c5, c6, c7, c8, c9⟩ := OdB.cells (o := o) D2.out
    have CR := Lib.hid (oRight_any a cap o W P2.out)
    unfold odV at CR
    go_wp2_with fail
    refine CR.out.mono ?_
    rintro e w3 ⟨rfl, b3⟩
    have D3 := Lib.hid (D2.out.below b3)
    have R3 := Lib.hid (R2.out.below b3)
    have O3 := Lib.hid (O2.out.below b3)
    have S3 := Lib.hid (S2.out.below b3)
    have G3 := Lib.hid (G2.out.trans (But.of b3))
    clear c0 c1 c2 c3 c4 c5 c6 c7 c8 c9 b3 D2 R2 O2 S2 G2 P2 CR
    cases hr : rightO o with
    | false =>
      have HE := Lib.hid (NO.out (.inr hr))
      go_wp2_with (refine wpList_store_order rfl _ _ rfl w.heap.size ⟨#[]⟩ ⟨#[]⟩ ⟨#[]⟩ ⟨#[]⟩ none 0 0 0 0 0 0 false rfl rfl R3.out ?_)
      (try simp only [Exit.inBlock, Exit.then])
      apply bodyPost_ret
      case hd => rfl
      case hr => exact results_cell_one rfl _ _ w.heap.size _ rfl (load10 (setRow_heap _ _ _ _ _ _ R3.out))
      case hR =>
        obtain ⟨e1, e2, e3⟩ := take_end hg S3.out G3.out (OwnL.nil _ (w.heap.size + 1)) (by omega) #[.string ⟨#[]⟩, .slice none 0 0, .string ⟨#[]⟩, .string ⟨#[]⟩, .string ⟨#[]⟩, .int .i64 0, .int .i64 0, .bool false, .int .i64 0, .int .i64 0]
        exact ⟨none, 0, by rw [HE.out.1, HE.out.2]; rfl, by rw [HE.out.1]; exact e1, by rw [HT.out]; exact e2, e3⟩

    | true =>
      have HE := Lib.hid (OK.out hbad hr)
      obtain ⟨⟨c0, c1, c2, c3, c4⟩, c5, c6, c7, c8, c9⟩ := OdB.cells (o := o) D3.out
      go_wp2_with (refine wpList_store_order rfl _ _ rfl w.heap.size o.id o.car o.zone o.serv a o.ls.length cap o.total o.phase o.ref o.batch o.given rfl rfl R3.out ?_)
      (try simp only [Exit.inBlock, Exit.then])
      apply bodyPost_ret
      case hd => rfl
      case hr => exact results_cell_one rfl _ _ w.heap.size _ rfl (load10 (setRow_heap _ _ _ _ _ _ R3.out))
      case hR =>
        obtain ⟨e1, e2, e3⟩ := take_end hg S3.out G3.out O3.out (by omega) #[Value.string o.id, Value.slice a o.ls.length cap, Value.string o.car, Value.string o.zone, Value.string o.serv, Value.int IntKind.i64 o.total, Value.int IntKind.i64 o.phase, Value.bool o.given, Value.int IntKind.i64 o.ref, Value.int IntKind.i64 o.batch]
        exact ⟨a, cap, by rw [HE.out.1, HE.out.2]; rfl, by rw [HE.out.1]; exact e1, by rw [HT.out]; exact e2, e3⟩

end Go.Proofs.YtpmgafmbmjokhaaDoor
