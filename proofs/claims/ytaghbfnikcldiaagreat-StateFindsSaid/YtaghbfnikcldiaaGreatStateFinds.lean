/- StateFinds: the law returns true for any state, any ids and any number: its orders, its batches, what they weigh and which are open are told as the document tells them. It has no conditions. -/
import Derived.Test.YtaghbfnikcldiaaGreatStHeldP
import Derived.Test.YtaghbfnikcldiaaGreatStOrd
import Derived.Test.YtaghbfnikcldiaaGreatMgProg
import Derived.Test.YtaghbfnikcldiaaGreatMgStates
import Derived.Test.YtaghbfnikcldiaaGreatTxArgs
import Derived.Test.YtaghbfnikcldiaaGreatMgState
import Derived.Deep.RegionHeld3
import Derived.Deep.RegionHeldLaw
namespace Go.Proofs.YtaghbfnikcldiaaGreat
open Go.ChangeShapes Go.WideShapes Go.ChangeAt Go.RowKit

set_option maxRecDepth 100000
attribute [local go_sem ↓] ldOr stOr alOr bxOr bdOr ldBa stBa alBa bxBa bdBa ldSt stSt alSt bxSt bdSt ldEf stEf alEf bxEf eqEf bdEf bsEf ldGr bxGr eqGr ldCa bxCa eqCa
attribute [local go_sem] al_or bx_or st_ornew bd_or al_ba bx_ba st_banew bd_ba al_sta bx_sta st_stnew bd_sta al_ef bx_ef st_new bd_ef bs_ef bs_ef0 bx_gr ne_gr bx_ca ne_ca

theorem setRow_more (W : World) (o : Obj) (n : Nat) (cs : Array Value) (h : n < W.heap.size) : (W.alloc o).setRow n cs = (W.setRow n cs).alloc o := by
  have e : (W.heap.push o).modify n (fun | .cells _ elem frozen => .cells cs elem frozen | o => o) = (W.heap.modify n (fun | .cells _ elem frozen => .cells cs elem frozen | o => o)).push o := by
    apply Array.ext_getElem?
    intro i
    rw [Array.getElem?_modify, Array.getElem?_push, Array.getElem?_push, Array.getElem?_modify, Array.size_modify]
    by_cases h1 : n = i
    · subst h1
      rw [if_pos rfl, if_neg (by omega), if_neg (by omega), if_pos rfl]
    · rw [if_neg h1, if_neg h1]
  exact congrArg (fun h => ({ W with heap := h } : World)) e
theorem st_d0 (V : World) (n : Nat) (h : V.heap.size = n) (r : StR) : StX 29 (.pointer (some ⟨n, 0, none⟩)) (stV r) (V.alloc (.cells (stC noStR) 29)) = .ok .skip (V.alloc (.cells (stC r) 29)) := by
  have R : Row (V.alloc (.cells (stC noStR) 29)) n 29 (stC noStR) := by
    have := Row.new V (stC noStR) 29
    rw [h] at this
    exact this
  rw [st_sta R r]
  subst h
  congr 1
  rw [alloc_setRow]
theorem st_e0 (V : World) (n : Nat) (h : V.heap.size = n) (r : StR) : StX 29 (.pointer (some ⟨n, 0, none⟩)) (stV r) (V.alloc (.cells (stC noStR) 29)).drew = .ok .skip (V.alloc (.cells (stC r) 29)).drew := by
  have e1 : (V.alloc (.cells (stC noStR) 29)).drew = (V.drew.alloc (.cells (stC noStR) 29)) := rfl
  have e2 : (V.alloc (.cells (stC r) 29)).drew = (V.drew.alloc (.cells (stC r) 29)) := rfl
  rw [e1, e2]
  exact st_d0 V.drew n h  r
theorem st_d1 (V : World) (n : Nat) (h : V.heap.size = n) (o0 : Obj) (r : StR) : StX 29 (.pointer (some ⟨n, 0, none⟩)) (stV r) ((V.alloc (.cells (stC noStR) 29)).alloc o0) = .ok .skip ((V.alloc (.cells (stC r) 29)).alloc o0) := by
  have R : Row ((V.alloc (.cells (stC noStR) 29)).alloc o0) n 29 (stC noStR) := by
    have := Row.new V (stC noStR) 29
    rw [h] at this
    exact (this.more o0)
  rw [st_sta R r]
  subst h
  congr 1
  rw [setRow_more _ _ _ _ (by first | (simp; done) | (simp; omega)), alloc_setRow]
theorem st_e1 (V : World) (n : Nat) (h : V.heap.size = n) (o0 : Obj) (r : StR) : StX 29 (.pointer (some ⟨n, 0, none⟩)) (stV r) ((V.alloc (.cells (stC noStR) 29)).alloc o0).drew = .ok .skip ((V.alloc (.cells (stC r) 29)).alloc o0).drew := by
  have e1 : ((V.alloc (.cells (stC noStR) 29)).alloc o0).drew = ((V.drew.alloc (.cells (stC noStR) 29)).alloc o0) := rfl
  have e2 : ((V.alloc (.cells (stC r) 29)).alloc o0).drew = ((V.drew.alloc (.cells (stC r) 29)).alloc o0) := rfl
  rw [e1, e2]
  exact st_d1 V.drew n h o0 r
theorem st_d2 (V : World) (n : Nat) (h : V.heap.size = n) (o0 o1 : Obj) (r : StR) : StX 29 (.pointer (some ⟨n, 0, none⟩)) (stV r) (((V.alloc (.cells (stC noStR) 29)).alloc o0).alloc o1) = .ok .skip (((V.alloc (.cells (stC r) 29)).alloc o0).alloc o1) := by
  have R : Row (((V.alloc (.cells (stC noStR) 29)).alloc o0).alloc o1) n 29 (stC noStR) := by
    have := Row.new V (stC noStR) 29
    rw [h] at this
    exact ((this.more o0).more o1)
  rw [st_sta R r]
  subst h
  congr 1
  rw [setRow_more _ _ _ _ (by first | (simp; done) | (simp; omega)), setRow_more _ _ _ _ (by first | (simp; done) | (simp; omega)), alloc_setRow]
theorem st_e2 (V : World) (n : Nat) (h : V.heap.size = n) (o0 o1 : Obj) (r : StR) : StX 29 (.pointer (some ⟨n, 0, none⟩)) (stV r) (((V.alloc (.cells (stC noStR) 29)).alloc o0).alloc o1).drew = .ok .skip (((V.alloc (.cells (stC r) 29)).alloc o0).alloc o1).drew := by
  have e1 : (((V.alloc (.cells (stC noStR) 29)).alloc o0).alloc o1).drew = (((V.drew.alloc (.cells (stC noStR) 29)).alloc o0).alloc o1) := rfl
  have e2 : (((V.alloc (.cells (stC r) 29)).alloc o0).alloc o1).drew = (((V.drew.alloc (.cells (stC r) 29)).alloc o0).alloc o1) := rfl
  rw [e1, e2]
  exact st_d2 V.drew n h o0 o1 r
theorem st_d3 (V : World) (n : Nat) (h : V.heap.size = n) (o0 o1 o2 : Obj) (r : StR) : StX 29 (.pointer (some ⟨n, 0, none⟩)) (stV r) ((((V.alloc (.cells (stC noStR) 29)).alloc o0).alloc o1).alloc o2) = .ok .skip ((((V.alloc (.cells (stC r) 29)).alloc o0).alloc o1).alloc o2) := by
  have R : Row ((((V.alloc (.cells (stC noStR) 29)).alloc o0).alloc o1).alloc o2) n 29 (stC noStR) := by
    have := Row.new V (stC noStR) 29
    rw [h] at this
    exact (((this.more o0).more o1).more o2)
  rw [st_sta R r]
  subst h
  congr 1
  rw [setRow_more _ _ _ _ (by first | (simp; done) | (simp; omega)), setRow_more _ _ _ _ (by first | (simp; done) | (simp; omega)), setRow_more _ _ _ _ (by first | (simp; done) | (simp; omega)), alloc_setRow]
theorem st_e3 (V : World) (n : Nat) (h : V.heap.size = n) (o0 o1 o2 : Obj) (r : StR) : StX 29 (.pointer (some ⟨n, 0, none⟩)) (stV r) ((((V.alloc (.cells (stC noStR) 29)).alloc o0).alloc o1).alloc o2).drew = .ok .skip ((((V.alloc (.cells (stC r) 29)).alloc o0).alloc o1).alloc o2).drew := by
  have e1 : ((((V.alloc (.cells (stC noStR) 29)).alloc o0).alloc o1).alloc o2).drew = ((((V.drew.alloc (.cells (stC noStR) 29)).alloc o0).alloc o1).alloc o2) := rfl
  have e2 : ((((V.alloc (.cells (stC r) 29)).alloc o0).alloc o1).alloc o2).drew = ((((V.drew.alloc (.cells (stC r) 29)).alloc o0).alloc o1).alloc o2) := rfl
  rw [e1, e2]
  exact st_d3 V.drew n h o0 o1 o2 r
/-- A state of one order, of one batch. -/
def soleOd (y : OdR) (b : Nat) : StR := ⟨⟨0, 0⟩, ⟨0, 0⟩, 0, [], none, 0, 0, 0, 0, [y], some ⟨b, 0, none⟩, 1, [], none, 0, [], none, 0⟩
def soleBt (y : BtR) (b : Nat) : StR := ⟨⟨0, 0⟩, ⟨0, 0⟩, 0, [], none, 0, 0, 0, 0, [], none, 0, [y], some ⟨b, 0, none⟩, 1, [], none, 0⟩
section
variable (ev : Operand → Value) (d : Option Tmp) (ty : TypeId) (pos : String) (af : Array Edge) (gd : Option (Nat × Bool)) (w : World)
theorem bsOr2 (n : Nat) (ps : Array (Nat × Operand)) : (execOp ev ⟨d, .buildSlice 25 n ps, ty, pos, af, gd⟩).run Tryz.prog w = BsX 25 n (ps.map fun (i, x) => (i, ev x)) w := rfl
theorem bsBa2 (n : Nat) (ps : Array (Nat × Operand)) : (execOp ev ⟨d, .buildSlice 26 n ps, ty, pos, af, gd⟩).run Tryz.prog w = BsX 26 n (ps.map fun (i, x) => (i, ev x)) w := rfl
theorem bs_soleOd (r : OdR) : BsX 25 1 #[(0, orV r)] w = .ok (.value (.slice (some ⟨w.heap.size, 0, none⟩) 1 1)) (w.alloc (.cells (orC r) 39)) := by kernel_rfl
theorem bs_soleBt (r : BtR) : BsX 26 1 #[(0, baV r)] w = .ok (.value (.slice (some ⟨w.heap.size, 0, none⟩) 1 1)) (w.alloc (.cells (baC r) 46)) := by kernel_rfl
theorem bd_soleOd (y : OdR) (b : Nat) : BdX 29 #[(7, .slice (some ⟨b, 0, none⟩) 1 1)] w = .ok (.value (stV (soleOd y b))) w := by kernel_rfl
theorem bd_soleBt (y : BtR) (b : Nat) : BdX 29 #[(8, .slice (some ⟨b, 0, none⟩) 1 1)] w = .ok (.value (stV (soleBt y b))) w := by kernel_rfl
end
attribute [local go_sem ↓] bsOr2 bsBa2
attribute [local go_sem] bs_soleOd bs_soleBt st_d0 st_d1 st_d2 st_d3 st_e0 st_e1 st_e2 st_e3
theorem Row.dr {W : World} {g : Nat} {T : TypeId} {cs : Array Value} (h : Row W g T cs) : Row W.drew g T cs := h
theorem Row.mo {W : World} {g : Nat} {T : TypeId} {cs : Array Value} {o : Obj} (h : Row W g T cs) : Row (W.alloc o) g T cs := h.more o
/-- Two orders, and two states of one order each, in variables. -/
structure FiI (w : World) (r : StR) (g : Nat) (z : OdR) (g1 g2 : Nat) (y : OdR) (b1 b2 : Nat) (W : World) : Prop where
  on : OnI w r W
  var : Row W g 39 (orC z)
  one : Row W g1 29 (stC (soleOd y b1))
  two : Row W g2 29 (stC (soleOd z b2))
  st : StP W (soleOd y b1)
  su : StP W (soleOd z b2)
theorem FiI.below {w W W' : World} {r : StR} {g : Nat} {z : OdR} {g1 g2 : Nat} {y : OdR} {b1 b2 : Nat} (h : FiI w r g z g1 g2 y b1 b2 W) (b : Below W.heap.size W W') : FiI w r g z g1 g2 y b1 b2 W' := ⟨h.on.below b, h.var.below b, h.one.below b, h.two.below b, h.st.below b, h.su.below b⟩
theorem row_last {V : World} {n : Nat} {T : TypeId} {cs : Array Value} (h : V.heap.size = n) : Row (V.alloc (.cells cs T)) n T cs := by rw [← h]; exact Row.new _ _ _
theorem below_dr {a W : World} {B : Nat} (h : Below B a W) : Below B a W.drew := ⟨h.os, h.tape, h.output, h.size, h.block⟩
theorem below_mo {a W : World} {o : Obj} (h : Below a.heap.size a W) : Below a.heap.size a (W.alloc o) := h.alloc h.size o
theorem sl_row {α : Type} {L : Lay α} (_k : L.Ok) {W : World} {g : Nat} {x : α} (h : Row W g L.T (L.enc x).toArray) : SlP L W (some ⟨g, 0, none⟩) 1 [x] :=
  ⟨by simp, by unfold maxLen; simp, fun _ => ⟨g, 0, rfl, h.lt, fun j u hj => by
    rw [cellsG_cons, cellsG_nil, List.append_nil] at hj
    rw [Nat.zero_add, h.cell j]
    simpa using hj⟩⟩
theorem fi_of {w W5 V : World} {r : StR} {g : Nat} {y z : OdR} {g1 g2 b1 b2 : Nat} (J : OnI w r W5) (Z : Row W5 g 39 (orC z)) (py : OdP W5 y.a y.c y.o) (pz : OdP W5 z.a z.c z.o) (hb : Below W5.heap.size W5 V)
    (h1 : Row V g1 29 (stC (soleOd y b1))) (h2 : Row V g2 29 (stC (soleOd y b2))) (r1 : Row V b1 39 (orC y)) (r2 : Row V b2 39 (orC z)) : FiI w r g z g1 g2 y b1 b2 V :=
  ⟨J.below hb, Z.below hb, h1, h2, ⟨IntsP.nil _ _ _, by simp [soleOd], ⟨sl_row LO_ok r1, fun x hx => by rw [List.mem_singleton.1 hx]; exact py.below hb⟩, BasP.nil _ _ _, EfsP.nil _ _ _⟩,
    ⟨IntsP.nil _ _ _, by simp [soleOd], ⟨sl_row LO_ok r2, fun x hx => by rw [List.mem_singleton.1 hx]; exact pz.below hb⟩, BasP.nil _ _ _, EfsP.nil _ _ _⟩⟩
theorem s_of {w : World} {r : StR} {g : Nat} {z : OdR} {g1 g2 : Nat} {y : OdR} {b1 b2 : Nat} (W : World) (h : FiI w r g z g1 g2 y b1 b2 W) : LdX 29 (.pointer (some ⟨w.heap.size, 0, none⟩)) W = .ok (.value (stV r)) W ∧ LdX 35 (.pointer (some ⟨g, 2, none⟩)) W = .ok (.value (grV z.o.car z.o.zone z.o.serv)) W ∧ FiI w r g z g1 g2 y b1 b2 W :=
  ⟨ld_sta h.on.one, ld_grAt h.var.o.1.2.2.1 h.var.o.1.2.2.2.1 h.var.o.1.2.2.2.2, h⟩
/-- A batch in a variable, the state, the texts. -/
structure MdB (w : World) (r : StR) (a : Option Addr) (cap : Nat) (ids : List ByteArray) (g : Nat) (y : BtR) (W : World) : Prop where
  on : OnI w r W
  strs : StrsP W a cap ids
  one : Row W g 46 (baC y)
  bt : BtP W y.a y.c y.b
theorem MdB.below {w W W' : World} {r : StR} {a : Option Addr} {cap : Nat} {ids : List ByteArray} {g : Nat} {y : BtR} (h : MdB w r a cap ids g y W) (b : Below W.heap.size W W') : MdB w r a cap ids g y W' := ⟨h.on.below b, h.strs.below b, h.one.below b, h.bt.below b⟩
theorem soleBt_same (y z : BtR) (b1 b2 : Nat) (h : y.b = z.b) : sameS (soleBt y b1) (soleBt z b2) = true := (sameS_iff _ _).2 (by simp [StR.st, soleBt, odsOf, btsOf, h])
theorem st_soleBt {W : World} {y : BtR} {b : Nat} (h : BtP W y.a y.c y.b) (R : Row W b 46 (baC y)) : StP W (soleBt y b) :=
  ⟨IntsP.nil _ _ _, by simp [soleBt], OrsP.nil _ _ _, ⟨sl_row LB_ok R, fun x hx => by rw [List.mem_singleton.1 hx]; exact h⟩, EfsP.nil _ _ _⟩
structure MdC (w : World) (r : StR) (a : Option Addr) (cap : Nat) (ids : List ByteArray) (g1 : Nat) (y : BtR) (g : Nat) (z : BtR) (W : World) : Prop where
  one : MdB w r a cap ids g1 y W
  two : Row W g 46 (baC z)
  bt : BtP W z.a z.c z.b
theorem MdC.below {w W W' : World} {r : StR} {a : Option Addr} {cap : Nat} {ids : List ByteArray} {g1 g : Nat} {y z : BtR} (h : MdC w r a cap ids g1 y g z W) (b : Below W.heap.size W W') : MdC w r a cap ids g1 y g z W' := ⟨h.one.below b, h.two.below b, h.bt.below b⟩
theorem sb_of {w : World} {r : StR} {a : Option Addr} {cap : Nat} {ids : List ByteArray} {g1 g : Nat} {y z : BtR} (W : World) (h : MdC w r a cap ids g1 y g z W) : LdX 46 (.pointer (some ⟨g1, 0, none⟩)) W = .ok (.value (baV y)) W ∧ LdX 46 (.pointer (some ⟨g, 0, none⟩)) W = .ok (.value (baV z)) W ∧ LdX 29 (.pointer (some ⟨w.heap.size, 0, none⟩)) W = .ok (.value (stV r)) W ∧ MdC w r a cap ids g1 y g z W :=
  ⟨ld_ba h.one.one, ld_ba h.two, ld_sta h.one.on.one, h⟩
theorem soleOd_same (y z : OdR) (b1 b2 : Nat) (h : y.o = z.o) : sameS (soleOd y b1) (soleOd z b2) = true := (sameS_iff _ _).2 (by simp [StR.st, soleOd, odsOf, btsOf, h])

set_option maxHeartbeats 16000000 in
theorem finds_walk (HN : NewC) (HR : RightC) (HO : OrderC) (HB : BatchC) (HW : WeightC) (HH : HeldC) (r : StR) (a : Option Addr) (cap : Nat) (ids : List ByteArray) (at_ : Int) (w : World) (h : StP w r) (hs : StrsP w a cap ids) : Calls Tryz.prog 3 #[stV r, .slice a ids.length cap, .int .i64 at_] w (Tell true w) := by
  have CV := Lib.hid (fun W => alive_of HN HR W)
  have I := Lib.hid (OnI.begin w r h)
  have S := Lib.hid hs
  have hsl := hs.len
  have p1 := hs.cap
  clear h hs HN HR
  go_enter Tryz.func3, Tryz.ntmps3
  go_wp2_with fail
  generalize w.alloc (.cells (stC r) 29) = W0 at *
  refine (CV.out _).mono ?_
  rintro e W ⟨rfl, b1⟩
  replace I := Lib.hid (I.out.below b1)
  clear CV b1
  have ld := ld_sta I.out.one
  have C1 := Lib.hid (fun W hW => great_any r W hW)
  go_wp2_with fail
  refine (C1.out _ I.out.st).mono ?_
  rintro e W1 ⟨rfl, b1⟩
  replace I := Lib.hid (I.out.below b1)
  clear C1 b1 ld
  cases hg : greatB r with
  | true =>
    go_wp2_with fail
    go_ret
    exact ⟨rfl, I.out.low⟩
  | false =>
    by_cases h20 : 20 < ids.length
    · have h20d : (20 : Int) < (ids.length : Int) := by omega
      go_wp2_with fail
      go_ret
      exact ⟨rfl, I.out.low⟩
    · have h20d : ¬ (20 : Int) < (ids.length : Int) := by omega
      have hsm := small_of hg
      have hf := hsm.few
      have C2 := Lib.hid (fun W hW => refRightS_any r W hW hf)
      have ld := ld_sta I.out.one
      go_wp2_with fail
      refine (C2.out _ I.out.st).mono ?_
      rintro e W2 ⟨rfl, b2⟩
      replace I := Lib.hid (I.out.below b2)
      clear C2 b2 ld
      cases hr : rightS r.st with
      | false =>
        go_wp2_with fail
        go_ret
        exact ⟨rfl, I.out.low⟩
      | true =>
        have CO := Lib.hid (fun id W hW => HO r id W hW hf hr)
        have DO := Lib.hid (fun id W hW => refOrder_any r id W hW)
        have CB := Lib.hid (fun W hW => HB r at_ W hW hf hr)
        have DB := Lib.hid (fun W hW => refBatch_any r at_ W hW)
        have CW := Lib.hid (fun W hW hs => HW r a cap ids W hW hf hr hs (by omega))
        have DW := Lib.hid (fun W hW hs => refWeighS_any r a cap ids W hW hs (by omega))
        have CH := Lib.hid (fun kind x y z W hW => HH r kind x y z W hW hf hr)
        have DH := Lib.hid (fun kind x y z W hW => refHeld_any r kind x y z W hW hf.2.1)
        have hl2 := hsm.bats
        clear HO HB HW HH hg hsm hf hr
        go_wp2_with fail
        go_loopw [39] (fun i wr => ∃ (k : Nat), k ≤ ids.length ∧ i = .int .i64 k ∧ Hid (OnI w r wr)) (fun i _ => ids.length - (intOf i).toNat)
        case atStart => exact ⟨0, Nat.zero_le _, rfl, I⟩
        case round =>
          clear I
          obtain ⟨k, hk, rfl, HI⟩ := hrel
          by_cases hlt : k < ids.length
          · obtain ⟨b, o, e, hb, c0⟩ := (S.out.below HI.out.low).at k hlt
            rw [e]
            clear e
            have CO1 := Lib.hid (CO.out ids[k] wr HI.out.st)
            have DO1 := Lib.hid (fun W hW => DO.out ids[k] W hW)
            have ld := ld_sta HI.out.one
            generalize ids[k] = id at *
            go_wp2_with fail
            refine CO1.out.mono ?_
            rintro e w1 ⟨y, rfl, hy, hyP, b1⟩
            have J1 := Lib.hid ((HI.out.below b1).more (.cells (orC y) 39))
            have Y1 := Lib.hid (Row.new w1 (orC y) 39)
            have PY := Lib.hid (hyP.below ((Below.refl w1.heap.size w1).alloc (Nat.le_refl _) (.cells (orC y) 39)))
            clear b1 hyP CO1 c0 ld HI
            have ld := ld_sta J1.out.one
            go_wp2_with fail
            generalize w1.alloc (.cells (orC y) 39) = W3 at *
            generalize w1.heap.size = gy at *
            refine (DO1.out _ J1.out.st).mono ?_
            rintro e w4 ⟨z, rfl, hz, hzP, b4⟩
            have hyz : y.o = z.o := hy.trans hz.symm
            generalize findO (odsOf r.ords) id = q at *
            have J4 := Lib.hid ((J1.out.below b4).more (.cells (orC z) 39))
            have Y4 := Lib.hid ((Y1.out.below b4).more (.cells (orC z) 39))
            have Z4 := Lib.hid (Row.new w4 (orC z) 39)
            have PY4 := Lib.hid ((PY.out.below b4).below ((Below.refl w4.heap.size w4).alloc (Nat.le_refl _) (.cells (orC z) 39)))
            have PZ4 := Lib.hid (hzP.below ((Below.refl w4.heap.size w4).alloc (Nat.le_refl _) (.cells (orC z) 39)))
            clear b4 hzP DO1 ld J1 Y1 PY hy hz
            go_wp2_with fail
            generalize w4.alloc (.cells (orC z) 39) = W5 at *
            generalize w4.heap.size = g at *
            go_cut [13, 14] (fun p13 p14 wx => ∃ g1 g2 b1 b2, p13 = .pointer (some ⟨g1, 0, none⟩) ∧ p14 = .pointer (some ⟨g2, 0, none⟩) ∧ Hid (FiI w r g z g1 g2 y b1 b2 wx))
            case first =>
              have bdy : ∀ b W, BdX 29 #[(7, .slice (some ⟨b, 0, none⟩) 1 1)] W = .ok (.value (stV (soleOd y b))) W := fun b W => bd_soleOd W y b
              have se0 : ∀ (V : World) (n : Nat) (b : Nat), V.heap.size = n → StX 29 (.pointer (some ⟨n, 0, none⟩)) (.agg #[.int .i64 0, .int .i64 0, .int .i64 0, .int .i64 0, .int .i64 0, .slice none 0 0, .int .i64 0, .int .i64 0, .int .i64 0, .slice (some ⟨b, 0, none⟩) 1 1, .slice none 0 0, .slice none 0 0]) (V.alloc (.cells (stC noStR) 29)).drew = .ok .skip (V.alloc (.cells (stC (soleOd y b)) 29)).drew := fun V n  b h => st_e0 V n h  (soleOd y b)
              have se1 : ∀ (V : World) (n : Nat) (o0 : Obj) (b : Nat), V.heap.size = n → StX 29 (.pointer (some ⟨n, 0, none⟩)) (.agg #[.int .i64 0, .int .i64 0, .int .i64 0, .int .i64 0, .int .i64 0, .slice none 0 0, .int .i64 0, .int .i64 0, .int .i64 0, .slice (some ⟨b, 0, none⟩) 1 1, .slice none 0 0, .slice none 0 0]) ((V.alloc (.cells (stC noStR) 29)).alloc o0).drew = .ok .skip ((V.alloc (.cells (stC (soleOd y b)) 29)).alloc o0).drew := fun V n o0 b h => st_e1 V n h o0 (soleOd y b)
              have se2 : ∀ (V : World) (n : Nat) (o0 o1 : Obj) (b : Nat), V.heap.size = n → StX 29 (.pointer (some ⟨n, 0, none⟩)) (.agg #[.int .i64 0, .int .i64 0, .int .i64 0, .int .i64 0, .int .i64 0, .slice none 0 0, .int .i64 0, .int .i64 0, .int .i64 0, .slice (some ⟨b, 0, none⟩) 1 1, .slice none 0 0, .slice none 0 0]) (((V.alloc (.cells (stC noStR) 29)).alloc o0).alloc o1).drew = .ok .skip (((V.alloc (.cells (stC (soleOd y b)) 29)).alloc o0).alloc o1).drew := fun V n o0 o1 b h => st_e2 V n h o0 o1 (soleOd y b)
              have se3 : ∀ (V : World) (n : Nat) (o0 o1 o2 : Obj) (b : Nat), V.heap.size = n → StX 29 (.pointer (some ⟨n, 0, none⟩)) (.agg #[.int .i64 0, .int .i64 0, .int .i64 0, .int .i64 0, .int .i64 0, .slice none 0 0, .int .i64 0, .int .i64 0, .int .i64 0, .slice (some ⟨b, 0, none⟩) 1 1, .slice none 0 0, .slice none 0 0]) ((((V.alloc (.cells (stC noStR) 29)).alloc o0).alloc o1).alloc o2).drew = .ok .skip ((((V.alloc (.cells (stC (soleOd y b)) 29)).alloc o0).alloc o1).alloc o2).drew := fun V n o0 o1 o2 b h => st_e3 V n h o0 o1 o2 (soleOd y b)
              go_region_held3 (fun W' => LdX 39 (.pointer (some ⟨gy, 0, none⟩)) W' = .ok (.value (orV y)) W' ∧ LdX 39 (.pointer (some ⟨g, 0, none⟩)) W' = .ok (.value (orV z)) W') (exact ⟨ld_or (by (try refine Row.dr ?_); (repeat refine Row.mo ?_); exact Y4.out), ld_or (by (try refine Row.dr ?_); (repeat refine Row.mo ?_); exact Z4.out)⟩) (fail)
              all_goals
                go_step
                go_step
                go_meet
                refine ⟨_, _, ?_, ?_, rfl, rfl, Lib.hid (fi_of J4.out Z4.out PY4.out PZ4.out ?h0 ?h1 ?h2 ?h3 ?h4)⟩
                case h1 => (refine Row.dr ?_; repeat (first | (refine row_last ?_; simp; done) | refine Row.mo ?_))
                case h2 => (refine Row.dr ?_; repeat (first | (refine row_last ?_; simp; done) | refine Row.mo ?_))
                case h3 => (refine Row.dr ?_; repeat (first | (refine row_last ?_; simp; done) | refine Row.mo ?_))
                case h4 => (refine Row.dr ?_; repeat (first | (refine row_last ?_; simp; done) | refine Row.mo ?_))
                case h0 => (refine below_dr ?_; (repeat refine below_mo ?_); exact Below.refl _ _)
            case rest =>
              obtain ⟨g1, g2, b1, b2, rfl, rfl, I1⟩ := hcut
              have C11 := Lib.hid (refSameS_any (soleOd y b1) (soleOd z b2) wc I1.out.st I1.out.su)
              rw [soleOd_same y z b1 b2 hyz] at C11
              have l1 := ld_sta I1.out.one
              have l2 := ld_sta I1.out.two
              clear J4 Y4 Z4 PY4 PZ4
              go_wp2_with fail
              refine C11.out.mono ?_
              rintro e w6 ⟨rfl, b6⟩
              replace I1 := Lib.hid (I1.out.below b6)
              clear C11 l1 l2 b6
              go_wp2_with fail
              go_loopw [15] (fun i wr => ∃ (n : Nat), n ≤ 4 ∧ i = .int .i64 n ∧ Hid (FiI w r g z g1 g2 y b1 b2 wr)) (fun i _ => 4 - (intOf i).toNat)
              case atStart => exact ⟨0, by omega, rfl, I1⟩
              case round =>
                clear I1
                obtain ⟨n, hn, rfl, I1⟩ := hrel
                by_cases hn3 : n ≤ 3
                · have hn3d : (n : Int) ≤ 3 := by omega
                  have CA := Lib.hid (fun W hW => CH.out (n : Int) z.o.car z.o.zone z.o.serv W hW)
                  have DA := Lib.hid (fun W hW => DH.out (n : Int) z.o.car z.o.zone z.o.serv W hW)
                  have hL40 := heldV_len r.bats (n : Int) z.o.car z.o.zone z.o.serv
                  generalize heldV (btsOf r.bats) (n : Int) z.o.car z.o.zone z.o.serv = L at *
                  have SM := Lib.hid (s_of (w := w) (r := r) (g := g) (z := z) (g1 := g1) (g2 := g2) (y := y) (b1 := b1) (b2 := b2))
                  have S0 := Lib.hid (SM.out wr I1.out)
                  have S0d := Lib.hid (SM.out wr.drew (I1.out.below (below_dr (Below.refl _ _))))
                  go_wp2_with fail
                  go_cut [16, 17] (fun p16 p17 wx => ∃ a1 c1 a2 c2, p16 = .slice a1 L.length c1 ∧ p17 = .slice a2 L.length c2 ∧ Hid (FiI w r g z g1 g2 y b1 b2 wx ∧ Ints8P wx a1 c1 L ∧ Ints8P wx a2 c2 L))
                  case first =>
                    go_region_held_law (fun W' => LdX 29 (.pointer (some ⟨w.heap.size, 0, none⟩)) W' = .ok (.value (stV r)) W' ∧ LdX 35 (.pointer (some ⟨g, 2, none⟩)) W' = .ok (.value (grV z.o.car z.o.zone z.o.serv)) W' ∧ FiI w r g z g1 g2 y b1 b2 W')
                      (first | exact kp | exact S0d.out | exact S0.out)
                      (first
                        | ((try go_simp); go_at_call 11; have _once := kd; refine (CA.out _ kd.2.2.on.st).mono ?_; rintro e w7 ⟨a7, c7, rfl, s7, b7⟩; have kp := SM.out _ (kd.2.2.below b7); have t8 := s8.below b7)
                        | ((try go_simp); go_at_call 11; refine (CA.out _ (by first | exact S0d.out.2.2.on.st | exact S0.out.2.2.on.st)).mono ?_; rintro e w7 ⟨a7, c7, rfl, s7, b7⟩; have kp := SM.out _ ((by first | exact S0d.out.2.2 | exact S0.out.2.2 : FiI w r g z g1 g2 y b1 b2 _).below b7); have kc := kp)
                        | ((try go_simp); go_at_call 12; have _once := kc; refine (DA.out _ kc.2.2.on.st).mono ?_; rintro e w8 ⟨a8, c8, rfl, s8, b8⟩; have kp := SM.out _ (kc.2.2.below b8); have t7 := s7.below b8)
                        | ((try go_simp); go_at_call 12; refine (DA.out _ (by first | exact S0d.out.2.2.on.st | exact S0.out.2.2.on.st)).mono ?_; rintro e w8 ⟨a8, c8, rfl, s8, b8⟩; have kp := SM.out _ ((by first | exact S0d.out.2.2 | exact S0.out.2.2 : FiI w r g z g1 g2 y b1 b2 _).below b8); have kd := kp))
                    all_goals
                      go_wp2_with fail
                      go_meet
                      first
                        | exact ⟨a7, c7, a8, c8, rfl, rfl, Lib.hid ⟨kp.2.2, t7, s8⟩⟩
                        | exact ⟨a7, c7, a8, c8, rfl, rfl, Lib.hid ⟨kp.2.2, s7, t8⟩⟩
                  case rest =>
                    obtain ⟨a1, c1, a2, c2, rfl, rfl, I2⟩ := hcut
                    clear S0 S0d SM CA DA I1
                    go_wp2_with fail
                    generalize wr = wo at *
                    go_loopw [91] (fun i wr => ∃ (j : Nat), j ≤ L.length ∧ i = .int .i64 j ∧ Hid (FiI w r g z g1 g2 y b1 b2 wr ∧ Ints8P wr a1 c1 L ∧ Ints8P wr a2 c2 L)) (fun i _ => L.length - (intOf i).toNat)
                    case atStart => exact ⟨0, Nat.zero_le _, rfl, I2⟩
                    case round =>
                      clear I2
                      obtain ⟨j, hj, rfl, I2⟩ := hrel
                      by_cases hlt2 : j < L.length
                      · obtain ⟨e1, o1, he1, hb1, c91⟩ := I2.out.2.1.at j hlt2
                        obtain ⟨e2, o2, he2, hb2, c92⟩ := I2.out.2.2.at j hlt2
                        have bd := Lib.hid (below_dr (B := wr.heap.size) (Below.refl wr.heap.size wr))
                        subst he1
                        subst he2
                        generalize L[j] = v at *
                        go_wp2_with fail
                        go_region
                        all_goals
                          go_wp2_with fail
                          go_roundw
                          case rel => exact ⟨j + 1, by omega, by go_num, Lib.hid ⟨I2.out.1.below bd.out, I2.out.2.1.below bd.out, I2.out.2.2.below bd.out⟩⟩
                          case measure => simp [intOf]; omega
                      · go_wp2_with fail
                        go_roundw
                        case rel => exact ⟨n + 1, by omega, by go_num, Lib.hid I2.out.1⟩
                        case measure => simp [intOf]; omega
                · have hn4 : n = 4 := by omega
                  subst hn4
                  go_wp2_with fail
                  go_roundw
                  case rel => exact ⟨k + 1, by omega, by go_num, Lib.hid I1.out.on⟩
                  case measure => simp [intOf]; omega
          · have CB1 := Lib.hid (CB.out wr HI.out.st)
            have DB1 := Lib.hid (fun W hW => DB.out W hW)
            have CW1 := Lib.hid (fun W hW hs => CW.out W hW hs)
            have DW1 := Lib.hid (fun W hW hs => DW.out W hW hs)
            have S1 := Lib.hid (S.out.below HI.out.low)
            have ld := ld_sta HI.out.one
            clear CB DB CW DW CO DO CH DH S
            go_wp2_with fail
            refine CB1.out.mono ?_
            rintro e w1 ⟨y, rfl, hy, hyP, b1⟩
            have M1 := Lib.hid (MdB.mk ((HI.out.below b1).more (.cells (baC y) 46)) ((S1.out.below b1).below ((Below.refl w1.heap.size w1).alloc (Nat.le_refl _) (.cells (baC y) 46))) (Row.new w1 (baC y) 46) (hyP.below ((Below.refl w1.heap.size w1).alloc (Nat.le_refl _) (.cells (baC y) 46))))
            clear b1 hyP CB1 ld HI S1
            have ld := ld_sta M1.out.on.one
            go_wp2_with fail
            generalize w1.alloc (.cells (baC y) 46) = W3 at *
            generalize w1.heap.size = gy at *
            refine (DB1.out _ M1.out.on.st).mono ?_
            rintro e w4 ⟨z, rfl, hz, hzP, b4⟩
            have hyz : y.b = z.b := hy.trans hz.symm
            generalize findB (btsOf r.bats) at_ = q at *
            have M4 := Lib.hid (M1.out.below (b4.alloc b4.size (.cells (baC z) 46)))
            have Z4 := Lib.hid (Row.new w4 (baC z) 46)
            have PZ4 := Lib.hid (hzP.below ((Below.refl w4.heap.size w4).alloc (Nat.le_refl _) (.cells (baC z) 46)))
            clear b4 hzP DB1 ld M1 hy hz
            go_wp2_with fail
            generalize w4.alloc (.cells (baC z) 46) = W5 at *
            generalize w4.heap.size = g at *
            have C5 := Lib.hid (MdC.mk M4.out Z4.out PZ4.out)
            have SM := Lib.hid (sb_of (w := w) (r := r) (a := a) (cap := cap) (ids := ids) (g1 := gy) (y := y) (g := g) (z := z))
            have CS := Lib.hid (fun (b1 b2 : Nat) (W : World) (h : MdC w r a cap ids gy y g z W) (r1 : Row W b1 46 (baC y)) (r2 : Row W b2 46 (baC z)) => show Calls Tryz.prog 10 #[(.agg #[.int .i64 0, .int .i64 0, .int .i64 0, .int .i64 0, .int .i64 0, .slice none 0 0, .int .i64 0, .int .i64 0, .int .i64 0, .slice none 0 0, .slice (some ⟨b1, 0, none⟩) 1 1, .slice none 0 0]), (.agg #[.int .i64 0, .int .i64 0, .int .i64 0, .int .i64 0, .int .i64 0, .slice none 0 0, .int .i64 0, .int .i64 0, .int .i64 0, .slice none 0 0, .slice (some ⟨b2, 0, none⟩) 1 1, .slice none 0 0])] W (Tell true W) from by
              have := refSameS_any (soleBt y b1) (soleBt z b2) W (st_soleBt h.one.bt r1) (st_soleBt h.bt r2)
              rwa [soleBt_same y z b1 b2 hyz] at this)
            have bdy : ∀ b W, BdX 29 #[(8, .slice (some ⟨b, 0, none⟩) 1 1)] W = .ok (.value (stV (soleBt y b))) W := fun b W => bd_soleBt W y b
            clear M4 Z4 PZ4
            go_region_held3 (fun W' => LdX 46 (.pointer (some ⟨gy, 0, none⟩)) W' = .ok (.value (baV y)) W' ∧ LdX 46 (.pointer (some ⟨g, 0, none⟩)) W' = .ok (.value (baV z)) W' ∧ LdX 29 (.pointer (some ⟨w.heap.size, 0, none⟩)) W' = .ok (.value (stV r)) W' ∧ MdC w r a cap ids gy y g z W')
              (first | (with_reducible exact kp9) | (with_reducible exact kp8) | (with_reducible exact kp7) | exact SM.out _ (C5.out.below (by (try refine below_dr ?_); (repeat refine below_mo ?_); exact Below.refl _ _)))
              (first
                | ((try go_simp); go_at_call 10; refine Calls.mono (CS.out _ _ _ (C5.out.below (by (try refine below_dr ?_); (repeat refine below_mo ?_); exact Below.refl _ _)) ?h1 ?h2) ?_; (case h1 => ((try refine Row.dr ?_); repeat (first | (refine row_last ?_; simp; done) | refine Row.mo ?_))); (case h2 => ((try refine Row.dr ?_); repeat (first | (refine row_last ?_; simp; done) | refine Row.mo ?_))); rintro e w7 ⟨rfl, b7⟩; have kp7 := SM.out _ ((C5.out.below (by (try refine below_dr ?_); (repeat refine below_mo ?_); exact Below.refl _ _)).below b7); clear b7)
                | ((try go_simp); go_at_call 15; refine (CW1.out _ kp9.2.2.2.one.on.st kp9.2.2.2.one.strs).mono ?_; rintro e w8 ⟨rfl, b8⟩; have kp8 := SM.out _ (kp9.2.2.2.below b8); clear b8)
                | ((try go_simp); go_at_call 15; refine (CW1.out _ kp7.2.2.2.one.on.st kp7.2.2.2.one.strs).mono ?_; rintro e w8 ⟨rfl, b8⟩; have kp8 := SM.out _ (kp7.2.2.2.below b8); clear b8)
                | ((try go_simp); go_at_call 16; refine (DW1.out _ kp8.2.2.2.one.on.st kp8.2.2.2.one.strs).mono ?_; rintro e w9 ⟨rfl, b9⟩; have kp9 := SM.out _ (kp8.2.2.2.below b9); clear b9)
                | ((try go_simp); go_at_call 16; refine (DW1.out _ kp7.2.2.2.one.on.st kp7.2.2.2.one.strs).mono ?_; rintro e w9 ⟨rfl, b9⟩; have kp9 := SM.out _ (kp7.2.2.2.below b9); clear b9))
            all_goals
              go_wp2_with fail
              go_ret
              first
                | exact ⟨rfl, kp9.2.2.2.one.on.low⟩
                | exact ⟨rfl, kp8.2.2.2.one.on.low⟩


set_option maxRecDepth 100000 in
set_option maxHeartbeats 1000000 in
theorem stateFinds_lifted (os : Os) (started : os.Started) (H : Type) (enc : TypeId × Value → H) :
    ReturnsInHanded {} Tryz.checked os 3 .any (Rows.stateFindsSpec.pre6 enc Tryz.prog Tryz.f3 Rows.stateFindsRow.domain false) (Rows.stateFindsSpec.post enc Tryz.prog Tryz.f3 false true false false) := by
  refine returnsInHanded_of_change (C := Tryz.checked) own started (by kernel_rfl) Tryz.func3
    (ChangeSpec.witness6 (enc := enc) (C := Tryz.checked) false ⟨#[], #[.agg #[.int .i64 0, .int .i64 0, .int .i64 0, .int .i64 0, .int .i64 0, .slice none 0 0, .int .i64 0, .int .i64 0, .int .i64 0, .slice none 0 0, .slice none 0 0, .slice none 0 0], .slice none 0 0, .int .i64 0], []⟩ 8 (by kernel_rfl) (by kernel_rfl) (by kernel_rfl) (by kernel_rfl)) ?_
  intro W base args ds gs before hval0 hW _ _
  have hval : ∀ (j : Nat) t v, Tryz.f3.params[j]? = some t → args[j]? = some v → Value.okWide Tryz.prog W .any base t v := hval0
  have hW' := hW
  obtain ⟨p, q, hA0, hV, rfl, _, _⟩ := hW
  have hA : DataW.TrodAll enc Tryz.prog W 0 (fun _ => true) true Tryz.f3.params.toList args.toList ds p := hA0
  rw [Tryz.params3] at hA hval
  obtain ⟨v0, vs0, d0, ds0, p0, q_0, hargs, rfl, rfl, h0, r0⟩ := trodAll_cons hA
  obtain ⟨v1, vs1, d1, ds1, p1, q_1, rfl, rfl, rfl, h1, r1⟩ := trodAll_cons r0
  obtain ⟨v2, vs2, d2, ds2, p2, q_2, rfl, rfl, rfl, h2, r2⟩ := trodAll_cons r1
  obtain ⟨rfl, rfl, rfl⟩ := trodAll_nil r2
  obtain rfl : args = #[v0, v1, v2] := by cases args; simp_all
  obtain ⟨rfl, rfl⟩ := trodVars_none hV
  clear hA0 hval0
  simp only [List.append_nil] at hW'
  obtain ⟨st0, rfl, hS0, hw0⟩ := state_of_trod (hval 0 29 v0 rfl rfl) h0
  have hlt0 : ∀ x ∈ p0, x.block < W.heap.size := fun x hx => by simpa using hW'.lt x (by simpa using (by simp [hx]))
  obtain ⟨q1, cap1, l1, rfl, hS1, hm1⟩ := strs_of_trod (hval 1 30 v1 rfl rfl) h1
  have hlt1 : ∀ x ∈ p1, x.block < W.heap.size := fun x hx => by simpa using hW'.lt x (by simpa using (by simp [hx]))
  obtain ⟨a2, rfl, rfl, rfl, w2⟩ := open_int Tryz.underlying2 (hval 2 2 v2 rfl rfl) h2
  refine (finds_walk new_of right_of order_of batch_of weight_of held_of st0 q1 cap1 l1 a2 W hS0 hS1).mono fun e W' ⟨he, hb⟩ => ?_
  subst he
  have hT : DataW.TrodAll enc Tryz.prog W' 0 (fun b => decide (b < W.heap.size)) true _ _ _ _ := (trodAll_cons_mk (Below.trod laidOut (by kernel_rfl) (of_decide_eq_true (by kernel_rfl)) h0 hb hlt0) (trodAll_cons_mk (Below.trod laidOut (by kernel_rfl) (of_decide_eq_true (by kernel_rfl)) h1 hb hlt1) (trodAll_cons_mk (shut_int Tryz.underlying2 w2) trodAll_mk0)))
  simp only [List.append_nil] at hT
  exact ⟨_, rfl, _, _, _, [], p0 ++ (p1), [], hW', trodAll_mk1 (shut_bool Tryz.underlying4 _), hT, rfl, hb.frame _, fun h => by cases h⟩

theorem stateFinds_holds : Rows.StateFindsSaid :=
  OpenClaim.holds_of_wide 3 Tryz.f3 rfl rfl rfl rfl rfl rfl rfl ⟨rfl, rfl, rfl, rfl, rfl⟩ rfl rfl rfl rfl rfl (by kernel_rfl) Tryz.func3 (by kernel_rfl)
    (of_decide_eq_true (by kernel_rfl)) (by unfold Func.isWrapper; first | (rw [if_pos (by decide +kernel)]; kernel_rfl) | (rw [if_neg (by decide +kernel)]; exact ⟨rfl, rfl⟩))
    (fun os started H enc _ => stateFinds_lifted os started H enc)
#print axioms stateFinds_holds


end Go.Proofs.YtaghbfnikcldiaaGreat
