/- The document's plan: four cells in a variable, told at once; what its New answers. -/
import Derived.Test.YtbhknaggbenfnaaHvMine
import Derived.Laws.Rows
import Derived.Laws.Tables
import Derived.Deep.QuietTactic
import Derived.BigQuiet
namespace Go.Proofs.Ytbhknaggbenfnaa
set_option maxRecDepth 100000
open Go.RowKit

/-- A block of cells. -/
def Row (w : World) (g : Nat) (T : TypeId) (cs : Array Value) : Prop := w.heap[g]? = some (.cells cs T (0, 0))
theorem Row.lt {w : World} {g : Nat} {T : TypeId} {cs : Array Value} (h : Row w g T cs) : g < w.heap.size := (Array.getElem?_eq_some_iff.1 h).1
theorem Row.below {w w' : World} {k : Nat} {T : TypeId} {cs : Array Value} (h : Row w k T cs) (hb : Below w.heap.size w w') : Row w' k T cs := (hb.block k h.lt).trans h
theorem Row.cell {w : World} {g : Nat} {T : TypeId} {cs : Array Value} (h : Row w g T cs) (o : Nat) : w.cell? ⟨g, o, none⟩ = cs[o]? := cell_of_row w g o cs T _ h
theorem Row.free {w : World} {g : Nat} {T : TypeId} {cs : Array Value} (h : Row w g T cs) (o : Nat) : w.frozen? ⟨g, o, none⟩ = false := by
  unfold Row at h
  simp [World.frozen?, h]
theorem results_cell_one {fn : Func} {p u : Tmp} {ty : TypeId} (h : fn.results = #[.cell p ty, .tmp u]) (tmps : Array Value) (w : World) (g : Nat) (cs : Array Value)
    (hp : tmps.getD p undef = .pointer (some ⟨g, 0, none⟩)) (hl : (loadVar ty ⟨g, 0, none⟩).run Try.prog w = .ok (.agg cs) w) :
    (results fn tmps).run Try.prog w = .ok (.tuple #[.agg cs, tmps.getD u undef]) w := by
  have hp' : tmps[p]?.getD undef = .pointer (some ⟨g, 0, none⟩) := by simpa using hp
  simp [results, h, hp', asAddr, hl]

/-- A plan's cells: three slices and a number. -/
def rpC (ra : Option Addr) (rn rc : Nat) (ga : Option Addr) (gn gc : Nat) (ba : Option Addr) (bn bc : Nat) (t : Int) : Array Value := #[.slice ra rn rc, .slice ga gn gc, .slice ba bn bc, .int .i64 t]
abbrev zR : Array Value := #[.slice none 0 0, .slice none 0 0, .slice none 0 0, .int .i64 0]
theorem sizeR (x0 x1 x2 x3 : Value) : (Try.prog.info? 36).map (·.size) = some #[x0, x1, x2, x3].size := by
  show _ = some 4
  kernel_rfl
theorem loadR {w : World} {g : Nat} {x0 x1 x2 x3 : Value} (hg : Row w g 36 #[x0, x1, x2, x3]) : (loadVar 36 ⟨g, 0, none⟩).run Try.prog w = .ok (.agg #[x0, x1, x2, x3]) w :=
  run_loadVar_row w g 36 36 _ (0, 0) _ hg Try.underlying36 rfl (sizeR _ _ _ _)

/-- What an operation comes to, with its operands told. -/
noncomputable def LdX (t : TypeId) (p : Value) (w : World) : Result Next := (do pure (Next.value (← Instr.loadAt t p)) : Sem Next).run Try.prog w
noncomputable def StX (t : TypeId) (p v : Value) (w : World) : Result Next := (do Instr.storeAt t p v; pure Next.skip : Sem Next).run Try.prog w
noncomputable def AlX (t : TypeId) (w : World) : Result Next := (do pure (Next.value (← Instr.alloc t true (.tuple #[]))) : Sem Next).run Try.prog w
noncomputable def BxX (t : TypeId) (v : Value) (w : World) : Result Next := (do pure (Next.value (← Instr.box t v)) : Sem Next).run Try.prog w
section
variable (ev : Operand → Value) (d : Option Tmp) (ty : TypeId) (pos : String) (af : Array Edge) (gd : Option (Nat × Bool)) (w : World)
theorem ldRp (x : Operand) : (execOp ev ⟨d, .load 36 x, ty, pos, af, gd⟩).run Try.prog w = LdX 36 (ev x) w := rfl
theorem stRp (x y : Operand) : (execOp ev ⟨d, .store 36 x y, ty, pos, af, gd⟩).run Try.prog w = StX 36 (ev x) (ev y) w := rfl
theorem alRp : (execOp ev ⟨d, .alloc 36, ty, pos, af, gd⟩).run Try.prog w = AlX 36 w := rfl
theorem bxRp (x : Operand) : (execOp ev ⟨d, .box 36 x, ty, pos, af, gd⟩).run Try.prog w = BxX 36 (ev x) w := rfl
theorem zeroRp (W : World) : (zeroValue 36).run Try.prog W = .ok (.agg zR) W := by kernel_rfl
theorem al_rp : AlX 36 w = .ok (.value (.pointer (some ⟨w.heap.size, 0, none⟩))) (w.alloc (.cells zR 36)) := by
  simp only [AlX, Sem.run_bind, Instr.alloc, zeroRp, newVar, newRow, run_newObj_alloc, Sem.run_pure, Result.andThen_ok, Value.cells]
theorem bx_rp (ra : Option Addr) (rn rc : Nat) (ga : Option Addr) (gn gc : Nat) (ba : Option Addr) (bn bc : Nat) (t : Int) :
    BxX 36 (.agg #[.slice ra rn rc, .slice ga gn gc, .slice ba bn bc, .int .i64 t]) w = .ok (.value (.pointer (some ⟨w.heap.size, 0, none⟩))) (w.alloc (.cells #[.slice ra rn rc, .slice ga gn gc, .slice ba bn bc, .int .i64 t] 36)) := by
  simp only [BxX, Sem.run_bind, Instr.box, newVar, newRow, run_newObj_alloc, Sem.run_pure, Result.andThen_ok, Value.cells]
end
theorem ld_rp {W : World} {g : Nat} {x0 x1 x2 x3 : Value} (h : Row W g 36 #[x0, x1, x2, x3]) : LdX 36 (.pointer (some ⟨g, 0, none⟩)) W = .ok (.value (.agg #[x0, x1, x2, x3])) W := by
  simp only [LdX, Instr.loadAt, Instr.sureAddr, Sem.run_bind, Sem.run_pure, Result.andThen_ok, loadR h]
theorem st_rp {W : World} {g : Nat} {old : Array Value} (h : Row W g 36 old) (h4 : old.size = 4) (ra : Option Addr) (rn rc : Nat) (ga : Option Addr) (gn gc : Nat) (ba : Option Addr) (bn bc : Nat) (t : Int) :
    StX 36 (.pointer (some ⟨g, 0, none⟩)) (.agg #[.slice ra rn rc, .slice ga gn gc, .slice ba bn bc, .int .i64 t]) W = .ok .skip (W.setRow g #[.slice ra rn rc, .slice ga gn gc, .slice ba bn bc, .int .i64 t]) := by
  have := run_storeVar_row (P := Try.prog) W g 36 36 old #[.slice ra rn rc, .slice ga gn gc, .slice ba bn bc, .int .i64 t] h (sizeR _ _ _ _) h4 (by simp [Value.oneCell'])
  simp only [StX, Instr.storeAt, Instr.sureAddr, Sem.run_bind, Sem.run_pure, Result.andThen_ok]
  rw [this]
  rfl
theorem alloc_setRow (W : World) (old cs : Array Value) (T : TypeId) : (W.alloc (.cells old T)).setRow W.heap.size cs = W.alloc (.cells cs T) := by
  have e : (W.heap.push (Obj.cells old T)).modify W.heap.size (fun | .cells _ elem frozen => .cells cs elem frozen | o => o) = W.heap.push (Obj.cells cs T) := by
    apply Array.ext_getElem?
    intro i
    rw [Array.getElem?_modify, Array.getElem?_push, Array.getElem?_push]
    by_cases h : W.heap.size = i
    · subst h; simp
    · rw [if_neg h, if_neg (fun e => h e.symm), if_neg (fun e => h e.symm)]
  exact congrArg (fun h => ({ W with heap := h } : World)) e
theorem Below.row {B : Nat} {a b : World} (h : Below B a b) {g : Nat} (hg : B ≤ g) (cs : Array Value) : Below B a (b.setRow g cs) :=
  ⟨h.os, h.tape, h.output, by simp only [World.setRow, Array.size_modify]; exact h.size, fun k hk => (setRow_other _ _ k _ (by omega)).trans (h.block k hk)⟩

/-- A document's plan: all that it reads lies in blocks D. -/
structure RfP (w : World) (D : Nat → Prop) (v : Value) (p : Hv ByteArray) (ra : Option Addr) (rc : Nat) (us : List PartT) (ga : Option Addr) (gc : Nat) (ba : Option Addr) (bc : Nat) : Prop where
  val : v = .agg #[.slice ra us.length rc, .slice ga p.good.length gc, .slice ba p.bad.length bc, .int .i64 (p.tries : Int)]
  dom : ∀ k, D k → k < w.heap.size
  lists : ListsT w ra rc us
  rest : us.map PartT.l = p.rest
  good : StrsP w ga gc p.good
  bad : StrsP w ba bc p.bad
  dr : us ≠ [] → ∀ x, ra = some x → D x.block
  du : ∀ u ∈ us, u.l ≠ [] → ∀ x, u.a = some x → D x.block
  dg : p.good ≠ [] → ∀ x, ga = some x → D x.block
  db : p.bad ≠ [] → ∀ x, ba = some x → D x.block
def RefP (w : World) (D : Nat → Prop) (v : Value) (p : Hv ByteArray) : Prop := ∃ ra rc us ga gc ba bc, RfP w D v p ra rc us ga gc ba bc

theorem ListsT.same {w w' : World} {a : Option Addr} {cap : Nat} {us : List PartT} (h : ListsT w a cap us) (hs : w.heap.size ≤ w'.heap.size) (hr : us ≠ [] → ∀ x, a = some x → w'.heap[x.block]? = w.heap[x.block]?)
    (hu : ∀ u ∈ us, u.l ≠ [] → ∀ x, u.a = some x → w'.heap[x.block]? = w.heap[x.block]?) : ListsT w' a cap us := by
  refine ⟨h.cap, h.len, fun u hm => (h.each u hm).same hs (hu u hm), fun hne => ?_⟩
  obtain ⟨b, o, e, hlt, hc⟩ := h.cell hne
  have hb := hr hne _ e
  refine ⟨b, o, e, Nat.lt_of_lt_of_le hlt hs, fun j p hp => ?_⟩
  rw [← hc j p hp]
  simp only [World.cell?]
  rw [hb]
theorem ListsT.below {w w' : World} {a : Option Addr} {cap : Nat} {us : List PartT} (h : ListsT w a cap us) (hb : Below w.heap.size w w') : ListsT w' a cap us := by
  refine ⟨h.cap, h.len, fun u hm => (h.each u hm).below hb, fun hne => ?_⟩
  obtain ⟨b, o, e, hlt, hc⟩ := h.cell hne
  exact ⟨b, o, e, Nat.lt_of_lt_of_le hlt hb.size, fun j p hp => (hb.cell (p := ⟨b, o + j, none⟩) hlt).trans (hc j p hp)⟩
theorem RefP.same {w w' : World} {D : Nat → Prop} {v : Value} {p : Hv ByteArray} (h : RefP w D v p) (hs : w.heap.size ≤ w'.heap.size) (hb : ∀ k, D k → w'.heap[k]? = w.heap[k]?) : RefP w' D v p := by
  obtain ⟨ra, rc, us, ga, gc, ba, bc, h⟩ := h
  exact ⟨ra, rc, us, ga, gc, ba, bc, h.val, fun k hk => Nat.lt_of_lt_of_le (h.dom k hk) hs, h.lists.same hs (fun hn x hx => hb _ (h.dr hn x hx)) (fun u hu hn x hx => hb _ (h.du u hu hn x hx)), h.rest,
    h.good.same hs (fun hn x hx => hb _ (h.dg hn x hx)), h.bad.same hs (fun hn x hx => hb _ (h.db hn x hx)), h.dr, h.du, h.dg, h.db⟩
theorem RefP.mono {w : World} {D E : Nat → Prop} {v : Value} {p : Hv ByteArray} (h : RefP w D v p) (hE : ∀ k, E k → k < w.heap.size) (hDE : ∀ k, D k → E k) : RefP w E v p := by
  obtain ⟨ra, rc, us, ga, gc, ba, bc, h⟩ := h
  exact ⟨ra, rc, us, ga, gc, ba, bc, h.val, hE, h.lists, h.rest, h.good, h.bad, fun hn x hx => hDE _ (h.dr hn x hx), fun u hu hn x hx => hDE _ (h.du u hu hn x hx), fun hn x hx => hDE _ (h.dg hn x hx), fun hn x hx => hDE _ (h.db hn x hx)⟩

/-- What the document's New answers. -/
def RNewPost (l : List ByteArray) (w : World) (e : Ending) (w' : World) : Prop :=
  ∃ v, e = .returned (.tuple #[v, .int .i64 (if twiceT l = true then 121 else 0)]) ∧ (v = .agg zR ∨ twiceT l = false) ∧ (twiceT l = false → RefP w' (fun k => w.heap.size ≤ k ∧ k < w'.heap.size) v (newH l)) ∧ Below w.heap.size w w'

theorem list_one (W : World) (u : PartT) : ListsT (W.alloc (.cells #[u.val] 27)) (some ⟨W.heap.size, 0, none⟩) 1 [u] ↔ StrsP (W.alloc (.cells #[u.val] 27)) u.a u.cap u.l := by
  constructor
  · intro h; exact h.each u (by simp)
  · intro h
    refine ⟨by simp, by simp, fun p hp => by rw [List.mem_singleton] at hp; rw [hp]; exact h, fun _ => ⟨_, _, rfl, by simp, fun j p hp => ?_⟩⟩
    have hj : j = 0 := by
      have := (List.getElem?_eq_some_iff.1 hp).1
      simp at this
      exact this
    subst hj
    simp at hp
    subst hp
    rw [cell_of_row _ _ _ _ _ _ (heap_alloc_new W _)]
    rfl

theorem hasT_take (l : List ByteArray) (x : ByteArray) (j : Nat) (h : j < l.length) : hasT (l.take (j + 1)) x = (hasT (l.take j) x || (l[j].toList == x.toList)) := by
  unfold hasT
  rw [List.take_add_one, List.getElem?_eq_getElem h, List.any_append]
  simp only [Option.toList, List.any_cons, List.any_nil, Bool.or_false]

attribute [local go_sem ↓] ldRp stRp alRp bxRp
attribute [local go_sem] al_rp

set_option maxHeartbeats 8000000 in
theorem refNew_any (a : Option Addr) (cap : Nat) (l : List ByteArray) (w : World) (h : StrsP w a cap l) (hl : l.length ≤ 1000) : Calls Try.prog 16 #[.slice a l.length cap] w (RNewPost l w) := by
  have B1 := Lib.hid ((Below.refl w.heap.size w).alloc (Nat.le_refl _) (.cells zR 36))
  have R1 : Hid (Row (w.alloc (.cells zR 36)) w.heap.size 36 zR) := Lib.hid (heap_alloc_new _ _)
  have H := Lib.hid h
  have hcap := h.cap
  clear h
  unfold zR at *
  go_enter Try.func16, Try.ntmps16
  go_wp2_with fail
  generalize w.alloc (.cells #[.slice none 0 0, .slice none 0 0, .slice none 0 0, .int .i64 0] 36) = w1 at *
  go_loopw [8] (fun i wr => ∃ k : Nat, k ≤ l.length ∧ i = .int .i64 k ∧ Hid (twiceT l = dupT (l.take k) (l.drop k)) ∧ Hid (Below w1.heap.size w1 wr)) (fun i _ => l.length - (intOf i).toNat)
  case atStart => exact ⟨0, Nat.zero_le _, rfl, Lib.hid rfl, Lib.hid (Below.refl _ _)⟩
  case round =>
    obtain ⟨k, hk, rfl, HK, BK⟩ := hrel
    by_cases hlt : k < l.length
    · have HS := Lib.hid (dupT_step l k hlt)
      have L1 := Lib.hid (H.out.below (B1.out.trans (BK.out.mono B1.out.size)))
      obtain ⟨b, o, rfl, q1, d1⟩ := L1.out.at k hlt
      have HX := Lib.hid (show l[k] = l[k] from rfl)
      go_wp2_with fail
      go_loopw [5] (fun j wx => ∃ i : Nat, i ≤ k ∧ j = .int .i64 i ∧ Hid (hasT (l.take i) l[k] = false) ∧ Hid (Below wr.heap.size wr wx)) (fun j _ => k - (intOf j).toNat)
      case atStart => exact ⟨0, Nat.zero_le _, rfl, Lib.hid rfl, Lib.hid (Below.refl _ _)⟩
      case round =>
        obtain ⟨i, hi, rfl, HI, BI⟩ := hrel
        have L2 := Lib.hid (L1.out.below BI.out)
        by_cases hij : i < k
        · obtain ⟨_, _, e, _, e1⟩ := L2.out.at k hlt
          cases e
          obtain ⟨_, _, e, _, e2⟩ := L2.out.at i (by omega)
          cases e
          have HT := Lib.hid (hasT_take l l[k] i (by omega))
          have HM := Lib.hid (show l[i] ∈ l.take k from List.mem_take_iff_getElem.2 ⟨i, by omega, rfl⟩)
          have HJ := Lib.hid (show i < l.length by omega)
          have RX := Lib.hid ((R1.out.below BK.out).below ((BI.out).mono (Nat.le_refl _)))
          have BX := Lib.hid (B1.out.trans ((BK.out.trans (BI.out.mono BK.out.size)).mono B1.out.size))
          generalize hx : l[k] = x at *
          generalize l[i] = y at *
          cases hb : (x.toList == y.toList) with
          | true =>
            have HE := Lib.hid (show twiceT l = true by
              have q : hasT (l.take k) x = true := by
                rw [hasT_iff, (toList_iff x y).1 hb]
                exact HM.out
              rw [HK.out, HS.out, q]
              rfl)
            have st : ∀ m, StX 36 (.pointer (some ⟨w.heap.size, 0, none⟩)) (.agg #[.slice none 0 0, .slice none 0 0, .slice none 0 0, .int .i64 0]) (wr.drewN m) = .ok .skip ((wr.drewN m).setRow w.heap.size #[.slice none 0 0, .slice none 0 0, .slice none 0 0, .int .i64 0]) := fun m => st_rp (W := wr.drewN m) (RX.out.below (drewN_below _ m)) rfl none 0 0 none 0 0 none 0 0 0
            go_wp2_with fail
            go_quiet (fail)
            go_wp2_with fail
            (try simp only [Exit.inBlock, Exit.then])
            apply bodyPost_ret
            case hd => rfl
            case hr => exact results_cell_one rfl _ _ w.heap.size _ rfl (loadR (setRow_heap _ _ _ _ _ _ (RX.out.below (drewN_below _ _))))
            case hR => exact ⟨_, by rw [HE.out]; rfl, .inl rfl, (fun e => by rw [HE.out] at e; cases e), Below.row (below_drewN BX.out _) (Nat.le_refl _) _⟩
          | false =>
            have HN := Lib.hid (show hasT (l.take (i + 1)) x = false by
              rw [HT.out, HI.out, Bool.false_or]
              exact str_ne (fun e : y = x => by rw [e, str_eq rfl] at hb; cases hb))
            go_wp2_with fail
            go_quiet (fail)
            go_wp2_with fail
            go_roundw
            case rel => exact ⟨i + 1, by omega, by go_num, HN, Lib.hid (below_drewN BI.out _)⟩
            case measure => simp [intOf]; omega
        · obtain rfl : i = k := by omega
          have HN := Lib.hid (show twiceT l = dupT (l.take (i + 1)) (l.drop (i + 1)) by rw [HK.out, HS.out, HI.out]; rfl)
          go_wp2_with fail
          go_roundw
          case rel => exact ⟨i + 1, by omega, by go_num, HN, Lib.hid (BK.out.trans (BI.out.mono BK.out.size))⟩
          case measure => simp [intOf]; omega
    · have HE := Lib.hid (show twiceT l = false by rw [HK.out, List.drop_eq_nil_of_le (by omega)]; rfl)
      have RX := Lib.hid (R1.out.below BK.out)
      have BX := Lib.hid (B1.out.trans (BK.out.mono B1.out.size))
      clear HK
      by_cases h0 : l.length = 0
      · have hl0 : l = [] := List.length_eq_zero_iff.1 h0
        have st := st_rp (W := wr) RX.out rfl none 0 0 none 0 0 none 0 0 0
        have hz : ((l.length : Int) == 0) = true := by rw [beq_iff_eq]; omega
        have HL := Lib.hid hl0
        clear hl0
        go_wp2_with fail
        (try simp only [Exit.inBlock, Exit.then])
        apply bodyPost_ret
        case hd => rfl
        case hr => exact results_cell_one rfl _ _ w.heap.size _ rfl (loadR (setRow_heap _ _ _ _ _ _ RX.out))
        case hR =>
          refine ⟨_, by rw [HE.out]; rfl, .inl rfl, fun _ => ?_, Below.row BX.out (Nat.le_refl _) _⟩
          rw [HL.out]
          exact ⟨none, 0, [], none, 0, none, 0, rfl, fun k hk => hk.2, ⟨by simp, by simp, (fun p hp => by cases hp), fun h => absurd rfl h⟩, rfl, StrsP.nil _ _ _, StrsP.nil _ _ _, fun h => absurd rfl h, (fun u hu => by cases hu), fun h => absurd rfl h, fun h => absurd rfl h⟩
      · have hz : ((l.length : Int) == 0) = false := by rw [beq_eq_false_iff_ne]; omega
        have hn : l ≠ [] := fun e => h0 (by rw [e]; rfl)
        have HN := Lib.hid hn
        have O0 := Lib.hid (OwnT.fresh wr wr.heap.size (Nat.le_refl _))
        have B0 := Lib.hid ((Below.refl wr.heap.size wr).alloc (Nat.le_refl _) (.cells #[] 9))
        have L0 := Lib.hid (H.out.below (BX.out.trans (B0.out.mono BX.out.size)))
        clear h0 hn
        go_wp2_with (at_builtin; go_must (refine wpList_append_texts rfl _ _ rfl wr.heap.size _ [] l rfl O0.out a cap rfl L0.out (by simp; omega) B0.out.size ?_))
        intro v2 w2 o2 g2
        have b2 : Below wr.heap.size wr w2 := B0.out.grown g2 B0.out.size (fun k hk => by cases hk; exact Nat.le_refl _)
        obtain ⟨a2, c2, rfl, s2⟩ := o2.strs
        have b3 := b2.alloc b2.size (.cells #[.slice a2 l.length c2] 27)
        have RZ := Lib.hid (RX.out.below b3)
        have st := st_rp RZ.out rfl (some ⟨w2.heap.size, 0, none⟩) 1 1 none 0 0 none 0 0 0
        have LS := Lib.hid ((list_one w2 ⟨a2, c2, l⟩).2 (s2.below ((Below.refl _ _).alloc (Nat.le_refl _) _)))
        have BF := Lib.hid (Below.row (BX.out.trans (b3.mono BX.out.size)) (Nat.le_refl _) #[.slice (some ⟨w2.heap.size, 0, none⟩) 1 1, .slice none 0 0, .slice none 0 0, .int .i64 0])
        have G2 := Lib.hid (show ∀ x, a2 = some x → wr.heap.size ≤ x.block ∧ x.block < w2.heap.size from fun x hx => by
          subst hx
          exact ⟨o2.ge _ rfl, o2.lt _ rfl⟩)
        have Z1 := Lib.hid b2.size
        have Z0 := Lib.hid (show w.heap.size < wr.heap.size from RX.out.lt)
        clear o2 g2 b2 s2 b3
        go_wp2_with fail
        (try simp only [Exit.inBlock, Exit.then])
        apply bodyPost_ret
        case hd => rfl
        case hr => exact results_cell_one rfl _ _ w.heap.size _ rfl (loadR (setRow_heap _ _ _ _ _ _ RZ.out))
        case hR =>
          refine ⟨_, by rw [HE.out]; rfl, .inr HE.out, fun _ => ?_, BF.out⟩
          have hz1 := Z1.out
          have hz0 := Z0.out
          have hnn : l.isEmpty = false := by
            have := HN.out
            cases l with
            | nil => exact absurd rfl this
            | cons => rfl
          refine ⟨some ⟨w2.heap.size, 0, none⟩, 1, [⟨a2, c2, l⟩], none, 0, none, 0, rfl, fun k hk => hk.2, LS.out.same (by simp [World.setRow]) (fun _ x hx => ?_) (fun u hu _ x hx => ?_), ?_, StrsP.nil _ _ _, StrsP.nil _ _ _, fun _ x hx => ?_, fun u hu _ x hx => ?_, fun h => absurd rfl h, fun h => absurd rfl h⟩
          · cases hx
            exact setRow_other _ _ _ _ (by show w2.heap.size ≠ w.heap.size; omega)
          · rw [List.mem_singleton] at hu
            subst hu
            have := G2.out x hx
            exact setRow_other _ _ _ _ (by omega)
          · show [l] = (newH l).rest
            unfold newH
            rw [hnn]
            rfl
          · cases hx
            simp only [setRow_size]
            exact ⟨by show w.heap.size ≤ w2.heap.size; omega, by simp⟩
          · rw [List.mem_singleton] at hu
            subst hu
            have := G2.out x hx
            simp only [setRow_size]
            exact ⟨by omega, by simp; omega⟩

end Go.Proofs.Ytbhknaggbenfnaa
